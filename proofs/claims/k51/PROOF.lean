import PyProof.Rows.All
import Wide.All
import OpenK.AllK
import Wide.FinOn
import Lean
import PyProof.EqAt
import PyProof.EqKinds
import PyProof.TupleCall
import PySem.Challenge.RW_duelground_k51_whole_plays
set_option Elab.async false
set_option linter.all false
set_option maxRecDepth 100000
namespace L2
open PySem PySem.Spec PyProof.Rows
noncomputable abbrev dj:=Sum Int Str
noncomputable def oR:dj->Value->Bool
  | .inl k,v=>Value.isInt k v
  | .inr x,v=>Value.isStrOf x v
noncomputable def E8 (w:World):dj->Int
  | .inl k=>hashInt k
  | .inr x=>hashStr w x
theorem cC:∀ {k:dj} {v:Value},oR k v=true->(∃ i t,k=Sum.inl i/\v=Value.int i t)\/(∃ x t,k=Sum.inr x/\v=Value.str x t)
  | .inl i,v,h=>by
    obtain ⟨t,e⟩:=Value.isInt_shape (k:=i) (v:=v) h;exact .inl ⟨i,t,rfl,e⟩
  | .inr x,v,h=>by
    obtain ⟨t,e⟩:=Value.isStrOf_shape (x:=x) (v:=v) h;exact .inr ⟨x,t,rfl,e⟩
theorem wH (i:Int) (t:Tok):oR (.inl i) (.int i t)=true:=by simp [oR,Value.isInt]
theorem w9 (x:Str) (t:Tok):oR (.inr x) (.str x t)=true:=by simp [oR,Value.isStrOf]
theorem CU (a b:Int):decide ((Sum.inl a:dj)=Sum.inl b)=(a==b):=by
  by_cases e:a=b
  · subst e;simp
  · have h:¬ (Sum.inl a:dj)=Sum.inl b:=fun q=>e (Sum.inl.inj q)
    rw [decide_eq_false h];exact (beq_eq_false_iff_ne.mpr e).symm
theorem BT (a b:Str):decide ((Sum.inr a:dj)=Sum.inr b)=decide (a=b):=by
  by_cases e:a=b
  · subst e;simp
  · have h:¬ (Sum.inr a:dj)=Sum.inr b:=fun q=>e (Sum.inr.inj q)
    rw [decide_eq_false h,decide_eq_false e]
theorem Dc (a:Int) (b:Str):decide ((Sum.inl a:dj)=Sum.inr b)=false:=decide_eq_false (fun q=>nomatch q)
theorem B0 (a:Str) (b:Int):decide ((Sum.inr a:dj)=Sum.inl b)=false:=decide_eq_false (fun q=>nomatch q)
noncomputable def dn (prog:Program) (w:World):PySem.KeyKind prog w dj where
  is:=oR
  hash:=E8 w
  inj:=fun v a b ha hb=>by
    rcases cC ha with ⟨i,t,rfl,rfl⟩ | ⟨x,t,rfl,rfl⟩
    · rcases cC hb with ⟨j,u,rfl,e⟩ | ⟨y,u,rfl,e⟩
      · injection e with e1 _;rw [e1]
      · exact nomatch e
    · rcases cC hb with ⟨j,u,rfl,e⟩ | ⟨y,u,rfl,e⟩
      · exact nomatch e
      · injection e with e1 _;rw [e1]
  byValue:=fun k v h=>by
    rcases cC h with ⟨i,t,rfl,rfl⟩ | ⟨x,t,rfl,rfl⟩ <;> rfl
  pyHash:=fun hv h=>by
    rcases cC hv with ⟨i,t,rfl,rfl⟩ | ⟨x,t,rfl,rfl⟩
    · exact wpAny_pyHash_int h
    · exact wpAny_pyHash_str h
  eqBool:=fun hu hv h=>by
    rcases cC hu with ⟨i,t,rfl,rfl⟩ | ⟨x,t,rfl,rfl⟩
    · rcases cC hv with ⟨j,u,rfl,rfl⟩ | ⟨y,u,rfl,rfl⟩
      · rw [CU] at h;exact wpAny_eqBool_int h
      · rw [Dc] at h;exact SeqAt.EqAt.int_str i t y u _ _ _ _ h
    · rcases cC hv with ⟨j,u,rfl,rfl⟩ | ⟨y,u,rfl,rfl⟩
      · rw [B0] at h;exact SeqAt.EqAt.str_int x t j u _ _ _ _ h
      · rw [BT] at h;exact wpAny_eqBool_str h
  «strs»:=fun k x t v h=>by
    rcases cC h with ⟨i,u,rfl,e⟩ | ⟨y,u,rfl,e⟩
    · exact nomatch e
    · injection e with e1 _
      subst e1;cases v <;> rfl
theorem rE (prog:Program) (w:World) (i:Int) (t:Tok):(dn prog w).is (.inl i) (.int i t)=true:=wH i t
theorem sG (prog:Program) (w:World) (x:Str) (t:Tok):(dn prog w).is (.inr x) (.str x t)=true:=w9 x t
inductive V where
  | non | bl (b:Bool) | int (i:Int) | str (x:Str) | byt (b:Array UInt8) | flt (b:UInt64) | ref (a:Addr) | ty (n:String)
  deriving DecidableEq
noncomputable def bD:V->Value->Prop
  | .non,u=>u=Value.none
  | .bl b,u=>u=Value.bool b
  | .int i,u=>∃ t,u=Value.int i t
  | .str x,u=>∃ t,u=Value.str x t
  | .byt b,u=>∃ t,u=Value.bytes b t
  | .flt b,u=>∃ t,u=Value.float b t
  | .ref a,u=>u=Value.ref a
  | .ty n,u=>u=Value.type n
noncomputable abbrev bA:List V->List Value->Prop:=Paired bD
theorem bA.length {xs:List V} {us:List Value} (r:bA xs us):xs.length=us.length:=Paired.length r
theorem bA.get:∀ {xs:List V} {us:List Value} {i:Nat} {x:V},bA xs us->xs[i]?=some x->∃ u,us[i]?=some u/\bD x u
  | _,_,_,_,.nil,e=>by simp at e
  | _,_,0,_,.cons r _,e=>by simp at e;subst e;exact ⟨_,rfl,r⟩
  | _,_,i+1,x,.cons _ t,e=>by
    obtain ⟨u,h1,h2⟩:=bA.get (i:=i) (x:=x) t (by simpa using e);exact ⟨u,by simpa using h1,h2⟩
theorem bA.set {x:V} {u:Value} (r:bD x u):∀ {xs:List V} {us:List Value} (i:Nat),bA xs us->bA (xs.set i x) (us.set i u)
  | _,_,_,.nil=>.nil
  | _,_,0,.cons _ t=>.cons r t
  | _,_,i+1,.cons q t=>.cons q (bA.set r i t)
theorem bA.append:∀ {xs ys:List V} {us ws:List Value},bA xs us->bA ys ws->bA (xs++ys) (us++ws)
  | _,_,_,_,.nil,s=>s
  | _,_,_,_,.cons r t,s=>.cons r (bA.append t s)
theorem bA.take:∀ {xs:List V} {us:List Value} (n:Nat),bA xs us->bA (xs.take n) (us.take n)
  | _,_,0,_=>.nil
  | _,_,_+1,.nil=>.nil
  | _,_,n+1,.cons r t=>.cons r (bA.take n t)
theorem bA.drop:∀ {xs:List V} {us:List Value} (n:Nat),bA xs us->bA (xs.drop n) (us.drop n)
  | _,_,0,r=>r
  | _,_,_+1,.nil=>.nil
  | _,_,n+1,.cons _ t=>bA.drop n t
noncomputable def l4:Option V->Option Value->Prop
  | some v,some u=>bD v u
  | none,none=>True
  | _,_=>False
noncomputable def KV {κ:Type}:List (κ×V)->List (κ×Value)->Prop:=Paired fun (p:κ×V) (q:κ×Value)=>p.1=q.1/\bD p.2 q.2
noncomputable def kV:dj->V
  | .inl i=>.int i
  | .inr x=>.str x
inductive HO where
  /-- a list -/
  | lst (xs:List V)
  /-- a tuple (never changes) -/
  | tup (xs:List V)
  /-- a dict whose keys are ints and texts;one whose keys are tuples of ints and texts (the empty one is both) -/
  | dK (kvs:List (dj×V)) | dT (kvs:List (List dj×V))
  /-- a set of ints: its members,its size -/
  | set (S:Int->Bool) (n:Nat)
  /-- an instance of the class at C,its dict at dx,its attributes -/
  | ins (C dx:Addr) (fs:List (Str×V))
  /-- the dict of the instance at x -/
  | own (x:Addr)
  /-- the dict of an exception -/
  | xd (fs:List (Str×V))
  /-- a bound method,f of x -/
  | met (f x:Addr)
  /-- a range object lo,lo+1,.. below hi -/
  | rng (lo hi:Int)
  /-- a thing that is known to the object (the script;a dict while a loop walks it): read,never written while it is so -/
  | frz (o:Obj) (u:HO)
  /-- a code object's table -/
  | tbl (ps:Array Value)
  /-- any other thing,by what is true of its one object (a def of one's own: SetO a S n:=HO.ext fun h=>..) -/
  | ext (φ:Heap->Prop)
noncomputable abbrev Hp:=Addr->Option HO
noncomputable def cw (H:Hp) (a:Addr) (o:HO):Hp:=fun b=>if b=a then some o else H b
theorem bi {H:Hp} {a:Addr} {o:HO}:cw H a o a=some o:=by unfold cw;rw [if_pos rfl]
theorem av {H:Hp} {a b:Addr} {o:HO} (h:b≠a):cw H a o b=H b:=by unfold cw;rw [if_neg h]
theorem DJ {H:Hp} {a b:Addr} {o u:HO} (h:H a=some o) (h':H b=some u) (d:o≠u):a≠b:=by
  intro e;subst e;rw [h] at h';exact d (Option.some.inj h')
theorem aU {H:Hp} {a b:Addr} {o:HO} (h:H a=some o) (h':H b=none):a≠b:=by
  intro e;subst e;rw [h] at h';cases h'
section
variable (P:Program) (w:World)
noncomputable def bS (H:Hp) (h:Heap) (a:Addr):HO->Prop
  | .lst xs=>xs.length<=sizeLine/\∃ (its:List Value) (n:Nat),bA xs its/\h.get? a=some { cls:=.type "list",data:=.seq its.toArray n }
  | .tup xs=>xs.length<=sizeLine/\∃ its:List Value,bA xs its/\IsTup h a its.toArray
  | .dK kvs=>kvs.length<=sizeLine/\(a==sysModules)=false/\∃ vs,KV kvs vs/\h.DictOf (dn P w) a vs
  | .dT kvs=>kvs.length<=sizeLine/\(a==sysModules)=false/\∃ xs:List (List dj×Addr×Value),
      Paired (fun (p:List dj×V) (q:List dj×Addr×Value)=>p.1=q.1/\H q.2.1=some (.tup (p.1.map kV))/\bD p.2 q.2.2) kvs xs /\
      ∃ o es ep,h.get? a=some o/\o.ExactDict/\o.data=.dict es ep/\es.toList=xs.map (entryOfKey (tupleKind (dn P w)))/\(xs.map (·.1)).Nodup
  | .set S n=>h.SetOf (intKind P w) a S n
  | .ins C dx fs=>H dx=some (.own a)/\fs.length<=1000/\dx≠a/\h.get? a=some (PySem.W.instObj C dx) /\
      ∃ mA,h.Ns1 dx mA/\(∀ f,l4 (fs.lookup f) (mA f))/\PySem.Within mA (fs.map (·.1))
  | .own _=>∃ o,h.get? a=some o
  | .xd fs=>∃ mA,h.Ns1 a mA/\∀ f,l4 (fs.lookup f) (mA f)
  | .rng lo hi=>∃ t u v,h.get? a=some { cls:=.type "range",data:=.fields #[.int lo t,.int hi u,.int 1 v] }
  | .frz o u=>h.get? a=some o/\bS H h a u
  | .tbl ps=>h.get? a=some { cls:=.none,data:=.fields ps }
  | .met f x=>h.get? a=some (PySem.W.methodObj (.ref f) (.ref x))
  | .ext φ=>φ h/\(∃ o,h.get? a=some o)/\∀ h1 h2:Heap,φ h1->(∀ o,h1.get? a=some o->h2.get? a=some o)->φ h2
noncomputable def iB (H:Hp) (h:Heap):Prop:=∀ a o,H a=some o->bS P w H h a o
end
section
variable {P:Program} {w:World} {H H':Hp} {h h':Heap} {a:Addr} {o:HO}
theorem bS.lt (x:bS P w H h a o):a < h.objs.size:=by
  cases o with
  | lst xs=>obtain ⟨_,_,_,_,e⟩:=x;exact Heap.lt_size e
  | tup xs=>obtain ⟨_,_,_,p⟩:=x;exact p.lt
  | dK kvs=>obtain ⟨_,_,_,_,o,_,_,e,_⟩:=x;exact Heap.lt_size e
  | dT kvs=>obtain ⟨_,_,_,_,o,_,_,e,_⟩:=x;exact Heap.lt_size e
  | set S n=>obtain ⟨o,_,_,_,e,_⟩:=x;exact Heap.lt_size e
  | ins C dx fs=>obtain ⟨_,_,_,e,_⟩:=x;exact Heap.lt_size e
  | own y=>obtain ⟨_,e⟩:=x;exact Heap.lt_size e
  | xd fs=>obtain ⟨_,⟨_,_,_,e,_⟩,_⟩:=x;exact Heap.lt_size e
  | rng lo hi=>obtain ⟨_,_,_,e⟩:=x;exact Heap.lt_size e
  | frz ob u=>obtain ⟨e,_⟩:=x;exact Heap.lt_size e
  | tbl ps=>exact Heap.lt_size (show h.get? a=some _ from x)
  | met f y=>exact Heap.lt_size (show h.get? a=some _ from x)
  | ext φ=>obtain ⟨_,⟨_,e⟩,_⟩:=x;exact Heap.lt_size e
theorem Paired.mapP {α β:Type} {F G:α->β->Prop}:∀ {l₁:List α} {l₂:List β},Paired F l₁ l₂->(∀ a b,F a b->G a b)->Paired G l₁ l₂
  | _,_,.nil,_=>.nil
  | _,_,.cons r t,f=>.cons (f _ _ r) (Paired.mapP t f)
theorem bS.stay (x:bS P w H h a o) (k:∀ b u,(b=a\/H b=some (.own a))->h.get? b=some u->h'.get? b=some u)
    (ho:∀ b,H b=some (.own a)->H' b=some (.own a)) (ht:∀ b xs,H b=some (.tup xs)->H' b=some (.tup xs)):bS P w H' h' a o:=by
  induction o with
  | lst xs=>obtain ⟨z,its,n,r,e⟩:=x;exact ⟨z,its,n,r,k _ _ (.inl rfl) e⟩
  | tup xs=>obtain ⟨z,its,r,ob,e,c⟩:=x;exact ⟨z,its,r,ob,k _ _ (.inl rfl) e,c⟩
  | dK kvs=>obtain ⟨z,y,vs,r,ob,es,ep,e,c⟩:=x;exact ⟨z,y,vs,r,ob,es,ep,k _ _ (.inl rfl) e,c⟩
  | dT kvs =>
    obtain ⟨z,y,xs,r,ob,es,ep,e,c⟩:=x;exact ⟨z,y,xs,Paired.mapP r fun p q z=>⟨z.1,ht _ _ z.2.1,z.2.2⟩,ob,es,ep,k _ _ (.inl rfl) e,c⟩
  | set S n=>obtain ⟨ob,es,ep,t,e,c⟩:=x;exact ⟨ob,es,ep,t,k _ _ (.inl rfl) e,c⟩
  | ins C dx fs =>
    obtain ⟨d,z,ne,e,mA,⟨od,es,ep,e2,c⟩,r⟩:=x;exact ⟨ho _ d,z,ne,k _ _ (.inl rfl) e,mA,⟨od,es,ep,k _ _ (.inr d) e2,c⟩,r⟩
  | own y=>obtain ⟨ob,e⟩:=x;exact ⟨ob,k _ _ (.inl rfl) e⟩
  | xd fs=>obtain ⟨mA,⟨od,es,ep,e,c⟩,r⟩:=x;exact ⟨mA,⟨od,es,ep,k _ _ (.inl rfl) e,c⟩,r⟩
  | rng lo hi=>obtain ⟨t,u,v,e⟩:=x;exact ⟨t,u,v,k _ _ (.inl rfl) e⟩
  | frz ob u ih=>obtain ⟨e,q⟩:=x;exact ⟨k _ _ (.inl rfl) e,ih q⟩
  | tbl ps =>
    have e:h.get? a=some { cls:=.none,data:=.fields ps }:=x;show h'.get? a=some { cls:=.none,data:=.fields ps };exact k a _ (.inl rfl) e
  | met f y =>
    have e:h.get? a=some (PySem.W.methodObj (.ref f) (.ref y)):=x;show h'.get? a=some (PySem.W.methodObj (.ref f) (.ref y));exact k a _ (.inl rfl) e
  | ext φ=>obtain ⟨p,⟨o,e⟩,st⟩:=x;exact ⟨st _ _ p fun o q=>k _ _ (.inl rfl) q,⟨o,k _ _ (.inl rfl) e⟩,st⟩
theorem iB.lt (x:iB P w H h) (e:H a=some o):a < h.objs.size:=(x a o e).lt
theorem iB.fresh (x:iB P w H h) (e:h.objs.size<=a):H a=none:=by
  cases q:H a with
  | none=>rfl
  | some u=>exact absurd (Nat.lt_of_lt_of_le (x.lt q) e) (Nat.lt_irrefl _)
theorem iB.kept (x:iB P w H h) (k:∀ b u,h.get? b=some u->h'.get? b=some u):iB P w H h':=fun a o e =>
  (x a o e).stay (fun b u _ q=>k b u q) (fun _ q=>q) fun _ _ q=>q
theorem iB.laid (x:iB P w H h) (k:∀ b u,h.get? b=some u->h'.get? b=some u) (hp:h.objs.size<=a) (new:bS P w (cw H a o) h' a o):iB P w (cw H a o) h':=fun b u e=>by
  have hn:=x.fresh hp;by_cases hb:b=a
  · subst hb;rw [bi] at e;cases e;exact new
  · rw [av hb] at e;exact (x b u e).stay (fun c v _ q=>k c v q) (fun c q=>by rw [av (aU q hn)];exact q) fun c xs q=>by rw [av (aU q hn)];exact q
end
noncomputable def Rd (H:Hp) (a:Addr) (u:HO):Prop:=H a=some u\/∃ o,H a=some (.frz o u)
theorem Rd.ok {P:Program} {w:World} {H:Hp} {h:Heap} {a:Addr} {u:HO} (r:Rd H a u) (x:iB P w H h):bS P w H h a u:=by
  rcases r with r | ⟨o,r⟩
  · exact x a u r
  · obtain ⟨_,q⟩:=x a _ r;exact q
noncomputable def DN:Option HO->Prop
  | some (.lst _)=>True
  | some (.dK _)=>True
  | some (.dT _)=>True
  | some (.set _ _)=>True
  | some (.ins _ _ _)=>True
  | some (.ext _)=>True
  | _=>False
section
variable {P:Program} {w:World} {H:Hp} {h h':Heap} {x e:Addr} {o':HO}
theorem iB.write (ok:iB P w H h) (mu:DN (H x)) (he:e=x\/H e=some (.own x)) (k:∀ b u,b≠e->h.get? b=some u->h'.get? b=some u) (heo:∃ u,h'.get? e=some u)
    (new:bS P w (cw H x o') h' x o'):iB P w (cw H x o') h':=fun b u q=>by
  have nown:∀ c y,H c=some (.own y)->c≠x:=fun c y r z=>by subst z;rw [r] at mu;exact mu
  have ntup:∀ c xs,H c=some (.tup xs)->c≠x:=fun c xs r z=>by subst z;rw [r] at mu;exact mu
  by_cases hb:b=x
  · subst hb;rw [bi] at q;cases q;exact new
  · rw [av hb] at q;by_cases hbe:b=e
    · have q':H b=some (.own x):=by
        rcases he with z | z
        · exact absurd (hbe.trans z) hb
        · rw [hbe];exact z
      rw [q] at q';cases q';obtain ⟨v,hv⟩:=heo;exact ⟨v,by rw [hbe];exact hv⟩
    · refine (ok b u q).stay (fun c v hc r=>k c v ?_ r) (fun c r=>by rw [av (nown c b r)];exact r) fun c xs r=>by rw [av (ntup c xs r)];exact r
      rcases hc with rfl | hc
      · exact hbe
      · rintro rfl;rcases he with z | z
        · exact nown c b hc z
        · rw [hc] at z;cases z;exact hb rfl
end
structure Un (fs ex:List Addr) (H H':Hp) (h h':Heap):Prop where
  keep:∀ b o,h.get? b=some o->H b=none->b∉fs->b∉ex->h'.get? b=some o
  slot:∀ b o,h.get? b=some o->H b=none->b∈fs->b∉ex->∃ sl,h'.get? b=some { o with slots:=sl }
  free:∀ b o,h.get? b=some o->H b=none->b∉ex->H' b=none
  there:∀ b o,h.get? b=some o->b∉ex->∃ o',h'.get? b=some o'
  tups:∀ b xs,H b=some (.tup xs)->H' b=some (.tup xs)
  frzs:∀ b o u,H b=some (.frz o u)->H' b=some (.frz o u)
  tbls:∀ b ps,H b=some (.tbl ps)->∃ more,H' b=some (.tbl (ps++more))
section
variable {fs fs' ex ex':List Addr} {H H1 H2:Hp} {h h1 h2 h':Heap} {a x e:Addr} {o:HO}
theorem Un.any (u:Un fs ex H H1 h h1) {b:Addr} {ob:Obj} (q:h.get? b=some ob) (n:H b=none) (hx:b∉ex):∃ sl,h1.get? b=some { ob with slots:=sl }:=by
  by_cases hb:b∈fs
  · exact u.slot b ob q n hb hx
  · exact ⟨ob.slots,u.keep b ob q n hb hx⟩
theorem Un.kept (k:∀ b u,h.get? b=some u->h'.get? b=some u):Un fs ex H H h h' :=
  ⟨fun b ob q _ _ _=>k b ob q,fun b ob q _ _ _=>⟨ob.slots,k b ob q⟩,fun _ _ _ n _=>n,fun b ob q _=>⟨ob,k b ob q⟩,fun _ _ q=>q,fun _ _ _ q=>q,fun _ ps q=>⟨#[],by rw [q];simp⟩⟩
theorem Un.refl:Un fs ex H H h h:=Un.kept fun _ _ q=>q
theorem Un.laid (k:∀ b u,h.get? b=some u->h'.get? b=some u) (hp:h.objs.size<=a) (hn:H a=none):Un fs ex H (cw H a o) h h' where
  keep:=fun b u q _ _ _=>k b u q
  slot:=fun b u q _ _ _=>⟨u.slots,k b u q⟩
  free:=fun b u q n _=>by rw [av (Nat.ne_of_lt (Nat.lt_of_lt_of_le (Heap.lt_size q) hp))];exact n
  there:=fun b u q _=>⟨u,k b u q⟩
  tups:=fun b xs q=>by rw [av (aU q hn)];exact q
  frzs:=fun b u xs q=>by rw [av (aU q hn)];exact q
  tbls:=fun b ps q=>⟨#[],by rw [av (aU q hn),q];simp⟩
theorem Un.write (mu:DN (H x)) (he:e=x\/H e=some (.own x)) (k:∀ b u,b≠e->h.get? b=some u->h'.get? b=some u) (heo:∃ u,h'.get? e=some u):Un fs ex H (cw H x o) h h':=by
  have hx:∀ b,H b=none->b≠x:=fun b n z=>by subst z;rw [n] at mu;exact mu
  have hb:∀ b,H b=none->b≠e:=fun b n z=>by
    subst z;rcases he with r | r
    · exact hx b n r
    · rw [n] at r;cases r
  have hm:∀ b u,H b=some u->¬ DN (some u)->b≠x:=fun b u q nm z=>by subst z;rw [q] at mu;exact nm mu
  refine ⟨fun b u q n _ _=>k b u (hb b n) q,fun b u q n _ _=>⟨u.slots,k b u (hb b n) q⟩,fun b u q n _=>by rw [av (hx b n)];exact n,fun b u q _=>?_,
    fun b xs q=>by rw [av (hm b _ q fun z=>z)];exact q,fun b u xs q=>by rw [av (hm b _ q fun z=>z)];exact q,fun b ps q=>⟨#[],by rw [av (hm b _ q fun z=>z),q];simp⟩⟩
  by_cases hbe:b=e
  · subst hbe;exact heo
  · exact ⟨u,k b u hbe q⟩
end
noncomputable def EF (h:Heap) (H:Hp):List Addr:=(List.range h.objs.size).filter fun a=>(H a).isSome
noncomputable def qN (h:Heap) (H:Hp):Heap:=PySem.W.hideAll h (EF h H)
theorem wm (h:Heap) (H:Hp):(qN h H).objs.size=h.objs.size:=PySem.W.hideAll_size _ _
theorem zE {h:Heap} {H:Hp} {b:Addr} {o:Obj} (e:h.get? b=some o) (n:H b=none):(qN h H).get? b=some o :=
  PySem.W.hideAll_get _ e fun hm=>by
    have q:(H b).isSome=true:=(List.mem_filter.mp hm).2;rw [n] at q;simp at q
theorem AC {h:Heap} {H:Hp} {b:Addr} {o:Obj} (e:(qN h H).get? b=some o):h.get? b=some o/\H b=none:=by
  have e':h.get? b=some o:=PySem.W.of_hideAll (EF h H) e;refine ⟨e',?_⟩;cases q:H b with
  | none=>rfl
  | some x =>
    have hm:b∈EF h H:=List.mem_filter.mpr ⟨List.mem_range.mpr (Heap.lt_size e'),by simp [q]⟩;have z:(qN h H).get? b=none:=PySem.W.hideAll_none (EF h H) hm;rw [z] at e;cases e
noncomputable def A1 (g h:Heap) (L:Addr):List (Addr×Obj):=(List.range h.objs.size).filterMap fun a=>if a=L\/(g.get? a).isSome=true then none else (h.get? a).map fun o=>(a,o)
noncomputable def eT (g h:Heap) (L d:Addr):List (Addr×Obj):=(A1 g h L).filter fun p=>decide (p.1≠d)
structure Mod (K:PySem.W.Frag) (mg:Str->Option Value) (base:Heap):Prop where
  kin:K.In base
  glob:base.Ns mainGlobals mg
  blt:∃ mb,base.Ns builtinsNs mb/\∀ x:Str,x ≠ "__name__" -> mb x=bootBuiltins x
  nolimit:base.NoLimit
structure Cx where
  prog:Program
  w:World
  K:PySem.W.Frag
  mg:Str->Option Value
  base:Heap
  A:Around
  N:List Str
  s₀:Shared
  H₀:Hp
  env:Env
  outer:List Env
  stack:List Env
  ex:List Addr
  fn:Str->Bool
  calm:Bool
  pn:List (Addr×Obj)
  xe:Value->Shared->Prop
noncomputable def lG (l:List Env):List Addr:=l.filterMap (·.frame)
noncomputable abbrev Cx.fs (X:Cx):List Addr:=lG X.outer
noncomputable def BM (sc:Scope) (x:Str):Prop:=sc.names.lookup x=some .local\/sc.names.lookup x=some .cell\/sc.names.lookup x=some .free
noncomputable def Bu (sc:Scope) (x:Str):Prop:=sc.names.lookup x=some .local\/sc.names.lookup x=some .cell
noncomputable def E6 (env:Env) (h:Heap) (m:Str->Option Value) (x:Str) (u:Value):Prop :=
  (env.kindOf x=some .local/\m x=some u)\/((env.kindOf x=some .cell\/env.kindOf x=some .free)/\∃ c,env.cells.lookup x=some c/\h.IsCell c (some u))
structure Cx.Ok (X:Cx):Prop where
  mod:Mod X.K X.mg X.base
  kind:X.env.scope.kind=.function
  glob:X.env.globals=mainGlobals
  blt:X.env.builtins=builtinsNs
  above:X.s₀.heap.objs.size<=X.env.locals
  inj:∀ x y c,X.env.cells.lookup x=some c->X.env.cells.lookup y=some c->x=y
  has:∀ x,(X.env.kindOf x=some .cell\/X.env.kindOf x=some .free)->∃ c,X.env.cells.lookup x=some c
  cab:∀ x c,X.fn x=true->X.env.cells.lookup x=some c->X.s₀.heap.objs.size<=c
  hd:X.calm=true->X.A.handled=none
  frames:X.A.frames=some X.stack
  stk:X.stack=X.outer\/(X.stack=X.env::X.outer/\X.env.frame=some X.env.locals)
  exf:∀ b∈X.ex,b≠X.env.locals/\∀ x c,X.env.cells.lookup x=some c->c≠b
  bs:∀ b o,X.base.get? b=some o->X.s₀.heap.get? b=some o/\X.H₀ b=none
  bsz:X.base.objs.size<=X.s₀.heap.objs.size
  noex:∀ b o,X.base.get? b=some o->b∉X.ex
  exfs:∀ b∈X.ex,b∉X.fs
  funs:X.s₀.heap.FunFrames X.base X.outer
  frf:∀ b∈X.fs,X.H₀ b=none
structure aP (X:Cx) (pins:List (Addr×Obj)) (σ:List (Option V)) (H:Hp) (s:Shared):Prop where
  ok:X.Ok
  os:s.os=X.s₀.os
  bare:AllBare s.gens
  base:Un X.fs X.ex X.H₀ H X.s₀.heap s.heap
  loc:∃ m,s.heap.Ns X.env.locals m/\∀ (i:Nat) (x:Str) (v:V),X.N[i]?=some x->σ[i]?=some (some v)->BM X.env.scope x->∃ u,bD v u/\E6 X.env s.heap m x u
  cell:∀ x c,X.env.cells.lookup x=some c->∃ v,s.heap.IsCell c v
  free:H X.env.locals=none
  freeC:∀ x c,X.env.cells.lookup x=some c->H c=none
  pin:∀ p∈X.pn++pins,s.heap.get? p.1=some p.2/\H p.1=none/\p.1≠X.env.locals/\p.1∉X.fs/\∀ v,p.2.data≠.cell v
  hok:iB X.prog X.w H s.heap
  len:σ.length=X.N.length
section
variable {X:Cx} {pins:List (Addr×Obj)} {σ:List (Option V)} {H H':Hp} {s:Shared} {h':Heap}
theorem Cx.Ok.nofr (ok:X.Ok) {b:Addr} {o:Obj} (e:X.base.get? b=some o):b∉X.fs:=fun hb=>by
  have:=(ok.funs.mem hb).1;rw [e] at this;cases this
theorem aP.bs (I:aP X pins σ H s):∀ b o,X.base.get? b=some o->s.heap.get? b=some o/\H b=none:=fun b o e =>
  ⟨I.base.keep b o (I.ok.bs b o e).1 (I.ok.bs b o e).2 (I.ok.nofr e) (I.ok.noex b o e),I.base.free b o (I.ok.bs b o e).1 (I.ok.bs b o e).2 (I.ok.noex b o e)⟩
theorem aP.bk (I:aP X pins σ H s):∀ b o,X.base.get? b=some o->s.heap.get? b=some o:=fun b o e=>(I.bs b o e).1
theorem aP.mod (I:aP X pins σ H s):Mod X.K X.mg X.base:=I.ok.mod
theorem aP.kIn (I:aP X pins σ H s):X.K.In s.heap:=I.ok.mod.kin.keeps I.bk
theorem aP.lt (I:aP X pins σ H s):X.env.locals < s.heap.objs.size:=let ⟨_,hn,_⟩:=I.loc;hn.lt
theorem aP.sz (I:aP X pins σ H s):X.s₀.heap.objs.size<=s.heap.objs.size:=Nat.le_trans I.ok.above (Nat.le_of_lt I.lt)
theorem aP.nofs (I:aP X pins σ H s) {a:Addr} (h:s.heap.objs.size<=a):a∉X.fs:=fun hb=>by
  obtain ⟨_,o,ho,_⟩:=I.ok.funs.mem hb;exact absurd (Nat.lt_of_lt_of_le (Heap.lt_size ho) (Nat.le_trans I.sz h)) (Nat.lt_irrefl _)
theorem aP.cne (I:aP X pins σ H s):∀ x c,X.env.cells.lookup x=some c->c≠X.env.locals:=fun x c e z=>by
  obtain ⟨v,o,ho,hd⟩:=I.cell x c e;obtain ⟨m,⟨o',es,ep,ho',hd',_⟩,_⟩:=I.loc;rw [z,ho'] at ho;cases ho;rw [hd'] at hd;cases hd
theorem aP.funs (I:aP X pins σ H s):s.heap.FunFrames X.base X.outer:=by
  have all:∀ (l:List Env),(∀ b∈lG l,b∈X.fs)->X.s₀.heap.FunFrames X.base l->s.heap.FunFrames X.base l:=by
    intro l;induction l with
    | nil=>intro _ _;trivial
    | cons env r ih =>
      intro hs hl;obtain ⟨hk,⟨L,o,hf,hn,ho,hd⟩,hr⟩:=hl;have hL:L∈X.fs:=hs L (by unfold lG;rw [List.filterMap_cons,hf];exact List.mem_cons_self);obtain ⟨sl,e⟩:=I.base.slot L o ho (I.ok.frf L hL) hL fun z=>I.ok.exfs L z hL
      exact ⟨hk,⟨L,_,hf,hn,e,hd⟩,ih (fun b hb=>hs b (by unfold lG;rw [List.filterMap_cons,hf];exact List.mem_cons_of_mem _ hb)) hr⟩
  exact all X.outer (fun _ hb=>hb) I.ok.funs
theorem aP.stack (I:aP X pins σ H s):s.heap.FunFrames X.base X.stack:=by
  rcases I.ok.stk with e | ⟨e,hf⟩
  · rw [e];exact I.funs
  · rw [e];obtain ⟨m,hn,_⟩:=I.loc;refine .cons (by rw [I.ok.kind];decide) hf hn ?_ I.funs;exact Heap.get?_none_of_le (Nat.le_trans I.ok.bsz I.ok.above)
theorem aP.stkSub (I:aP X pins σ H s):∀ b∈lG X.stack,b∈X.env.locals::X.fs:=fun b hb=>by
  rcases I.ok.stk with e | ⟨e,hf⟩
  · rw [e] at hb;exact List.mem_cons_of_mem _ hb
  · rw [e] at hb;unfold lG at hb;rw [List.filterMap_cons,hf] at hb;exact hb
theorem aP.stkFree (I:aP X pins σ H s):∀ b∈lG X.stack,H b=none:=fun b hb=>by
  rcases List.mem_cons.mp (I.stkSub b hb) with e | hb
  · rw [e];exact I.free
  · obtain ⟨_,o,ho,_⟩:=I.ok.funs.mem hb;exact I.base.free b o ho (I.ok.frf b hb) fun z=>I.ok.exfs b z hb
theorem aP.step {g':Array GenState} {t':Nat} {d':Drawn} {ch:List Addr} (I:aP X pins σ H s)
    (hch:∀ b∈ch,(b∈X.ex\/X.s₀.heap.objs.size<=b)/\b≠X.env.locals/\(∀ x c,X.env.cells.lookup x=some c->c≠b)/\∀ p∈X.pn++pins,p.1≠b)
    (keep:∀ b o,b≠X.env.locals->b∉X.fs->b∉ch->s.heap.get? b=some o->H b=none->h'.get? b=some o)
    (slot:∀ b o,b≠X.env.locals->b∈X.fs->b∉ch->s.heap.get? b=some o->H b=none->∃ sl,h'.get? b=some { o with slots:=sl }) (free:∀ b o,b∉ch->s.heap.get? b=some o->H b=none->H' b=none)
    (there:∀ b o,b∉ch->s.heap.get? b=some o->∃ o',h'.get? b=some o')
    (tups:∀ b xs,H b=some (.tup xs)->H' b=some (.tup xs)) (frzs:∀ b o u,H b=some (.frz o u)->H' b=some (.frz o u)) (tbls:∀ b ps,H b=some (.tbl ps)->∃ more,H' b=some (.tbl (ps++more)))
    (ns:∀ m,s.heap.Ns X.env.locals m->h'.Ns X.env.locals m) (hok:iB X.prog X.w H' h') (hg:AllBare g') :
    aP X pins σ H' { s with heap:=h',gens:=g',drawn:=d',toks:=t' }:=by
  have neL:∀ b o,X.s₀.heap.get? b=some o->b≠X.env.locals:=fun b o e=>Nat.ne_of_lt (Nat.lt_of_lt_of_le (Heap.lt_size e) I.ok.above)
  have neC:∀ b o,X.s₀.heap.get? b=some o->b∉X.ex->b∉ch:=fun b o e hx hb=>by
    rcases (hch b hb).1 with z | z
    · exact hx z
    · exact absurd (Nat.lt_of_lt_of_le (Heap.lt_size e) z) (Nat.lt_irrefl _)
  have cellK:∀ x c,X.env.cells.lookup x=some c->∀ v,s.heap.IsCell c v->h'.IsCell c v:=fun x c e v ⟨o,ho,hd⟩=>by
    have nch:c∉ch:=fun z=>(hch c z).2.2.1 x c e rfl
    by_cases hc:c∈X.fs
    · obtain ⟨sl,q⟩:=slot c o (I.cne x c e) hc nch ho (I.freeC x c e);exact ⟨_,q,hd⟩
    · exact ⟨o,keep c o (I.cne x c e) hc nch ho (I.freeC x c e),hd⟩
  refine ⟨I.ok,I.os,hg,⟨fun b o e n hb hx=>?_,fun b o e n hb hx=>?_,fun b o e n hx=>?_,fun b o e hx=>?_,fun b xs e=>tups b xs (I.base.tups b xs e),fun b o xs e=>frzs b o xs (I.base.frzs b o xs e),fun b ps e=>?_⟩,?_,fun x c e=>?_,?_,fun x c e=>?_,fun p hp=>?_,hok,I.len⟩
  · exact keep b o (neL b o e) hb (neC b o e hx) (I.base.keep b o e n hb hx) (I.base.free b o e n hx)
  · obtain ⟨sl,e1⟩:=I.base.slot b o e n hb hx;obtain ⟨sl',e2⟩:=slot b _ (neL b o e) hb (neC b o e hx) e1 (I.base.free b o e n hx);exact ⟨sl',e2⟩
  · obtain ⟨o',e1⟩:=I.base.there b o e hx;exact free b o' (neC b o e hx) e1 (I.base.free b o e n hx)
  · obtain ⟨o',e1⟩:=I.base.there b o e hx;exact there b o' (neC b o e hx) e1
  · obtain ⟨m1,e1⟩:=I.base.tbls b ps e;obtain ⟨m2,e2⟩:=tbls b _ e1;exact ⟨m1++m2,by rw [e2,Array.append_assoc]⟩
  · obtain ⟨m,hn,hl⟩:=I.loc;refine ⟨m,ns m hn,fun i x v e1 e2 e3=>?_⟩;obtain ⟨u,r,l⟩:=hl i x v e1 e2 e3;refine ⟨u,r,?_⟩;rcases l with l | ⟨k,c,e,z⟩
    · exact .inl l
    · exact .inr ⟨k,c,e,cellK x c e _ z⟩
  · obtain ⟨v,z⟩:=I.cell x c e;exact ⟨v,cellK x c e v z⟩
  · obtain ⟨m,⟨o,_,_,ho,_⟩,_⟩:=I.loc;exact free _ o (fun z=>(hch _ z).2.1 rfl) ho I.free
  · obtain ⟨v,o,ho,hd⟩:=I.cell x c e;exact free c o (fun z=>(hch c z).2.2.1 x c e rfl) ho (I.freeC x c e)
  · obtain ⟨e,n,ne,nf,d⟩:=I.pin p hp;have nch:p.1∉ch:=fun z=>(hch p.1 z).2.2.2 p hp rfl
    exact ⟨keep p.1 p.2 ne nf nch e n,free p.1 p.2 nch e n,ne,nf,d⟩
theorem aP.un {t':Nat} (I:aP X pins σ H s) (u:Un X.fs [] H H' s.heap h') (hok:iB X.prog X.w H' h'):aP X pins σ H' { s with heap:=h',toks:=t' }:=by
  obtain ⟨m,⟨o,es,ep,ho,r⟩,_⟩:=id I.loc;obtain ⟨sl,hL⟩:=u.any ho I.free (by simp);exact I.step (g':=s.gens) (d':=s.drawn) (ch:=[]) (fun _ z=>nomatch z) (fun b o _ hb _ e n=>u.keep b o e n hb (by simp)) (fun b o _ hb _ e n=>u.slot b o e n hb (by simp)) (fun b o _ e n=>u.free b o e n (by simp)) (fun b o _ e=>u.there b o e (by simp)) u.tups u.frzs u.tbls (fun m' hm=>by
    obtain ⟨o',es',ep',ho',r'⟩:=hm;rw [ho] at ho';cases ho';exact ⟨_,es',ep',hL,r'⟩) hok I.bare
theorem aP.call {g':Array GenState} {t':Nat} {d':Drawn} {ch:List Addr} (I:aP X pins σ H s) (u:Un (lG X.stack) ch H H' s.heap h') (hok:iB X.prog X.w H' h') (hg:AllBare g')
    (hch:∀ b∈ch,(b∈X.ex\/X.s₀.heap.objs.size<=b)/\b≠X.env.locals/\(∀ x c,X.env.cells.lookup x=some c->c≠b)/\∀ p∈X.pn++pins,p.1≠b) :
    aP X pins σ H' { s with heap:=h',gens:=g',drawn:=d',toks:=t' }:=by
  obtain ⟨m,⟨o,es,ep,ho,r⟩,_⟩:=id I.loc;obtain ⟨sl,hL⟩:=u.any ho I.free fun z=>(hch _ z).2.1 rfl
  exact I.step (ch:=ch) hch (fun b o hL hb hc e n=>u.keep b o e n (fun z=>(List.mem_cons.mp (I.stkSub b z)).elim hL hb) hc) (fun b o _ _ hc e n=>u.any e n hc) (fun b o hc e n=>u.free b o e n hc) (fun b o hc e=>u.there b o e hc) u.tups u.frzs u.tbls (fun m' hm=>by
    obtain ⟨o',es',ep',ho',r'⟩:=hm;rw [ho] at ho';cases ho';exact ⟨_,es',ep',hL,r'⟩) hok hg
theorem aP.turned {t':Nat} {it:Addr} (I:aP X pins σ H s) (k:∀ b o,b≠it->s.heap.get? b=some o->h'.get? b=some o) (hn:H it=none) (hL:it≠X.env.locals)
    (h1:it∈X.ex\/X.s₀.heap.objs.size<=it) (h2:∀ x c,X.env.cells.lookup x=some c->c≠it) (h3:∀ p∈X.pn++pins,p.1≠it):aP X pins σ H { s with heap:=h',toks:=t' }:=by
  have nit:∀ b u,H b=some u->b≠it:=fun b u e z=>by rw [z,hn] at e;cases e
  refine I.step (g':=s.gens) (d':=s.drawn) (ch:=[it]) (fun b hb=>?_) (fun b o _ _ hc e _=>k b o (fun z=>hc (by simp [z])) e) (fun b o _ _ hc e _=>⟨o.slots,k b o (fun z=>hc (by simp [z])) e⟩) (fun _ _ _ _ n=>n)
    (fun b o hc e=>⟨o,k b o (fun z=>hc (by simp [z])) e⟩) (fun _ _ e=>e) (fun _ _ _ e=>e) (fun b ps e=>⟨#[],by rw [e];simp⟩) (fun m hm=>?_) (fun b u e=>?_) I.bare
  · have e:b=it:=by simpa using hb
    subst e;exact ⟨h1,hL,h2,h3⟩
  · obtain ⟨o,es,ep,ho,r⟩:=hm;exact ⟨o,es,ep,k _ o (Ne.symm hL) ho,r⟩
  · refine (I.hok b u e).stay (fun c v hc q=>k c v ?_ q) (fun _ q=>q) fun _ _ q=>q
    rcases hc with z | z
    · rw [z];exact nit b u e
    · exact nit c _ z
theorem aP.tok (I:aP X pins σ H s) (t:Nat):aP X pins σ H { s with toks:=t }:=I.un (h':=s.heap) (t':=t) Un.refl I.hok
theorem aP.kept {t':Nat} (I:aP X pins σ H s) (k:∀ b u,s.heap.get? b=some u->h'.get? b=some u):aP X pins σ H { s with heap:=h',toks:=t' }:=I.un (Un.kept k) (I.hok.kept k)
theorem aP.laid {a:Addr} {o:HO} {t':Nat} (I:aP X pins σ H s) (k:∀ b u,s.heap.get? b=some u->h'.get? b=some u) (hp:s.heap.objs.size<=a) (new:bS X.prog X.w (cw H a o) h' a o) :
    aP X pins σ (cw H a o) { s with heap:=h',toks:=t' }:=I.un (Un.laid k hp (I.hok.fresh hp)) (I.hok.laid k hp new)
theorem aP.write {x e:Addr} {o:HO} {t':Nat} (I:aP X pins σ H s) (mu:DN (H x)) (he:e=x\/H e=some (.own x)) (k:∀ b u,b≠e->s.heap.get? b=some u->h'.get? b=some u) (heo:∃ u,h'.get? e=some u)
    (new:bS X.prog X.w (cw H x o) h' x o):aP X pins σ (cw H x o) { s with heap:=h',toks:=t' }:=I.un (Un.write mu he k heo) (I.hok.write mu he k heo new)
theorem aP.pins_of {pins':List (Addr×Obj)} (I:aP X pins σ H s) (h:∀ p∈pins',s.heap.get? p.1=some p.2/\H p.1=none/\p.1≠X.env.locals/\p.1∉X.fs/\∀ v,p.2.data≠.cell v):aP X pins' σ H s :=
  ⟨I.ok,I.os,I.bare,I.base,I.loc,I.cell,I.free,I.freeC,fun p hp=>(List.mem_append.mp hp).elim (fun z=>I.pin p (List.mem_append_left _ z)) (h p),I.hok,I.len⟩
theorem sv {N:List Str} (hN:N.Nodup) {i j:Nat} {x:Str} (a:N[i]?=some x) (b:N[j]?=some x):i=j:=by
  obtain ⟨h1,e1⟩:=List.getElem?_eq_some_iff.mp a;obtain ⟨h2,e2⟩:=List.getElem?_eq_some_iff.mp b;exact (List.getElem_inj hN).mp (e1.trans e2.symm)
theorem pQ {M:Model} {A:Around} {E:Value->Shared->Prop} {i:Nat} {x:Str} {v:V} {u:Value} {Q:Unit->Shared->Prop} (I:aP X pins σ H s) (hN:X.N.Nodup) (hi:X.N[i]?=some x) (hx:Bu X.env.scope x) (r:bD v u)
    (h:∀ s',aP X pins (σ.set i (some v)) H s'->(∃ a,Heap.SameBut a s.heap s'.heap/\(a=X.env.locals\/X.env.cells.lookup x=some a))->Q () s') (hf:X.fn x=true\/X.env.scope.names.lookup x=some .local:=by first | exact .inl rfl | exact .inr rfl | assumption):wpAny M A (storeName X.env x u) Q E s:=by
  obtain ⟨m,hn,hl⟩:=id I.loc;have hcls:(X.env.scope.kind==.class||(X.env.scope.kind==.module&&X.env.locals != X.env.globals))=false:=by rw [I.ok.kind];rfl
  have hiσ:i < σ.length:=by rw [I.len];exact (List.getElem?_eq_some_iff.mp hi).1
  have cne:=I.cne;have tracked:∀ {a:Addr} {h':Heap},(∃ o,s.heap.get? a=some o/\H a=none)->Heap.SameBut a s.heap h'->iB X.prog X.w H h':=fun {a h'} ha hs b ob e=>by
    obtain ⟨_,_,hfree⟩:=ha;refine (I.hok b ob e).stay (fun c w' hc q=>(hs.2 c ?_).trans q) (fun _ q=>q) fun _ _ q=>q
    rintro rfl;rcases hc with rfl | hc
    · rw [hfree] at e;cases e
    · rw [hfree] at hc;cases hc
  rcases hx with hk | hk
  · refine wpAny_storeName_local hk hn (fun h' hn' hs=>?_) hcls;obtain ⟨oL,_,_,hoL,_⟩:=id hn;refine h _ ⟨I.ok,I.os,I.bare,⟨fun b o e n hb hx=>?_,fun b o e n hb hx=>?_,I.base.free,fun b o e hx=>?_,I.base.tups,I.base.frzs,I.base.tbls⟩,⟨_,hn',fun j y v' e1 e2 e3=>?_⟩,fun y c e=>?_,I.free,I.freeC,fun p hp=>?_,tracked ⟨oL,hoL,I.free⟩ hs,by simpa using I.len⟩ ⟨_,hs,.inl rfl⟩
    · exact (hs.2 b (Nat.ne_of_lt (Nat.lt_of_lt_of_le (Heap.lt_size e) I.ok.above))).trans (I.base.keep b o e n hb hx)
    · obtain ⟨sl,e1⟩:=I.base.slot b o e n hb hx;exact ⟨sl,(hs.2 b (Nat.ne_of_lt (Nat.lt_of_lt_of_le (Heap.lt_size e) I.ok.above))).trans e1⟩
    · obtain ⟨o',e1⟩:=I.base.there b o e hx;exact ⟨o',(hs.2 b (Nat.ne_of_lt (Nat.lt_of_lt_of_le (Heap.lt_size e) I.ok.above))).trans e1⟩
    · by_cases hj:j=i
      · subst hj;rw [hi] at e1;cases e1;rw [List.getElem?_set_self hiσ] at e2;cases e2;exact ⟨u,r,.inl ⟨hk,by simp⟩⟩
      · rw [List.getElem?_set_ne (Ne.symm hj)] at e2;obtain ⟨u',r',q⟩:=hl j y v' e1 e2 e3;refine ⟨u',r',?_⟩;rcases q with ⟨k,e⟩ | ⟨k,c,e,z⟩
        · refine .inl ⟨k,?_⟩;have:y≠x:=fun e=>hj (sv hN e1 (e ▸ hi))
          simp [this,e]
        · exact .inr ⟨k,c,e,z.sameBut hs (cne y c e)⟩
    · obtain ⟨w',z⟩:=I.cell y c e;exact ⟨w',z.sameBut hs (cne y c e)⟩
    · obtain ⟨e,n,ne,nf,d⟩:=I.pin p hp;exact ⟨(hs.2 p.1 ne).trans e,n,ne,nf,d⟩
  · have hfn:X.fn x=true:=by
      rcases hf with z | z
      · exact z
      · rw [z] at hk;cases hk
    obtain ⟨c,hc⟩:=I.ok.has x (.inl hk);obtain ⟨w',z⟩:=I.cell x c hc;refine wpAny_storeName_cell I.ok.kind hk hc z (fun h' hc' hs=>?_);obtain ⟨oc,hoc,hocd⟩:=id z;refine h { s with heap:=h' } ⟨I.ok,I.os,I.bare,⟨fun b o e n hb hx=>?_,fun b o e n hb hx=>?_,I.base.free,fun b o e hx=>?_,I.base.tups,I.base.frzs,I.base.tbls⟩,⟨m,hn.sameBut hs (Ne.symm (cne x c hc)),fun j y v' e1 e2 e3=>?_⟩,fun y c' e=>?_,I.free,I.freeC,fun p hp=>?_,tracked ⟨oc,hoc,I.freeC x c hc⟩ hs,by simpa using I.len⟩ ⟨c,hs,.inr hc⟩
    · exact (hs.2 b (Nat.ne_of_lt (Nat.lt_of_lt_of_le (Heap.lt_size e) (I.ok.cab x c hfn hc)))).trans (I.base.keep b o e n hb hx)
    · obtain ⟨sl,e1⟩:=I.base.slot b o e n hb hx;exact ⟨sl,(hs.2 b (Nat.ne_of_lt (Nat.lt_of_lt_of_le (Heap.lt_size e) (I.ok.cab x c hfn hc)))).trans e1⟩
    · obtain ⟨o',e1⟩:=I.base.there b o e hx;exact ⟨o',(hs.2 b (Nat.ne_of_lt (Nat.lt_of_lt_of_le (Heap.lt_size e) (I.ok.cab x c hfn hc)))).trans e1⟩
    · by_cases hj:j=i
      · subst hj;rw [hi] at e1;cases e1;rw [List.getElem?_set_self hiσ] at e2;cases e2;exact ⟨u,r,.inr ⟨.inl hk,c,hc,hc'⟩⟩
      · rw [List.getElem?_set_ne (Ne.symm hj)] at e2;obtain ⟨u',r',q⟩:=hl j y v' e1 e2 e3;refine ⟨u',r',?_⟩;rcases q with q | ⟨k,c',e,z'⟩
        · exact .inl q
        · refine .inr ⟨k,c',e,z'.sameBut hs ?_⟩;rintro rfl;exact hj (sv hN e1 (I.ok.inj _ _ _ e hc ▸ hi))
    · by_cases hcc:c'=c
      · subst hcc;exact ⟨_,hc'⟩
      · obtain ⟨w2,z2⟩:=I.cell y c' e;exact ⟨w2,z2.sameBut hs hcc⟩
    · obtain ⟨e,n,ne,nf,d⟩:=I.pin p hp;refine ⟨(hs.2 p.1 ?_).trans e,n,ne,nf,d⟩;intro q;rw [q,hoc] at e;have q':oc=p.2:=Option.some.inj e;exact d w' (by rw [<- q'];exact hocd)
theorem oG {M:Model} {A:Around} {E:Value->Shared->Prop} {i:Nat} {x:Str} {v:V} {u:Value} {Q:Unit->Shared->Prop} (I:aP X pins σ H s) (hN:X.N.Nodup) (hi:X.N[i]?=some x) (hx:Bu X.env.scope x) (r:bD v u)
    (h:∀ s',aP X pins (σ.set i (some v)) H s'->Q () s') (hf:X.fn x=true\/X.env.scope.names.lookup x=some .local:=by first | exact .inl rfl | exact .inr rfl | assumption):wpAny M A (storeName X.env x u) Q E s :=
  pQ I hN hi hx r (fun s' I' _=>h s' I') hf
theorem aP.call' {s':Shared} {ch:List Addr} (I:aP X pins σ H s) (ho:s'.os=s.os) (u:Un (lG X.stack) ch H H' s.heap s'.heap) (hok:iB X.prog X.w H' s'.heap) (hg:AllBare s'.gens)
    (hch:∀ b∈ch,(b∈X.ex\/X.s₀.heap.objs.size<=b)/\b≠X.env.locals/\(∀ x c,X.env.cells.lookup x=some c->c≠b)/\∀ p∈X.pn++pins,p.1≠b):aP X pins σ H' s':=by
  obtain ⟨h',g',d',t',o'⟩:=s';have e:o'=s.os:=ho;subst e;exact I.call (g':=g') (t':=t') (d':=d') u hok hg hch
end
noncomputable abbrev XK:=Value->Option Addr->Hp->Prop
noncomputable abbrev St:=List (Option V)
noncomputable abbrev VK:=V->Hp->Prop
noncomputable abbrev TE:=St->Hp->VK->Prop
noncomputable abbrev TT:=St->Hp->(Bool->Hp->Prop)->Prop
noncomputable abbrev TA:=St->Hp->(List V->Hp->Prop)->Prop
structure rS where
  nx:St->Hp->Prop
  rt:VK
  bk:St->Hp->Prop:=fun _ _=>False
  ct:St->Hp->Prop:=fun _ _=>False
noncomputable abbrev TS:=rS->St->Hp->Prop
noncomputable def EP (X:Cx) (pins:List (Addr×Obj)) (σ:St) (Q:VK) (u:Value) (s':Shared):Prop:=∃ v H',aP X pins σ H' s'/\bD v u/\Q v H'
noncomputable def TP (X:Cx) (pins:List (Addr×Obj)) (σ:St) (Q:Bool->Hp->Prop) (b:Bool) (s':Shared):Prop:=∃ H',aP X pins σ H' s'/\Q b H'
noncomputable def AP (X:Cx) (pins:List (Addr×Obj)) (σ:St) (Q:List V->Hp->Prop) (us:List Value) (s':Shared):Prop:=∃ vs H',aP X pins σ H' s'/\bA vs us/\Q vs H'
noncomputable def SP (X:Cx) (pins:List (Addr×Obj)) (D:rS) (f:Flow) (s':Shared):Prop :=
  match f with
  | .next=>∃ σ' H',aP X pins σ' H' s'/\D.nx σ' H'
  | .brk=>∃ σ' H',aP X pins σ' H' s'/\D.bk σ' H'
  | .cont=>∃ σ' H',aP X pins σ' H' s'/\D.ct σ' H'
  | .ret u=>∃ v σ' H',aP X pins σ' H' s'/\bD v u/\D.rt v H'
noncomputable def PE (X:Cx) (e:Expr) (t:TE):Prop :=
  ∀ (pins:List (Addr×Obj)) (s:Shared) (σ:St) (H:Hp) (Q:VK),aP X pins σ H s->t σ H Q->wpAny (model X.prog X.w) X.A (eval e X.env) (EP X pins σ Q) X.xe s
noncomputable def PT (X:Cx) (e:Expr) (t:TT):Prop :=
  ∀ (pins:List (Addr×Obj)) (s:Shared) (σ:St) (H:Hp) (Q:Bool->Hp->Prop),aP X pins σ H s->t σ H Q->wpAny (model X.prog X.w) X.A (isTrue e X.env (eval e X.env)) (TP X pins σ Q) X.xe s
noncomputable def PW (X:Cx) (e:Expr) (t:TT):Prop :=
  ∀ (whole:Sem Value) (pins:List (Addr×Obj)) (s:Shared) (σ:St) (H:Hp) (Q:Bool->Hp->Prop),aP X pins σ H s->t σ H Q->wpAny (model X.prog X.w) X.A (isTrue e X.env whole) (TP X pins σ Q) X.xe s
theorem PW.pt {X:Cx} {e:Expr} {t:TT} (h:PW X e t):PT X e t:=h _
noncomputable def PA (X:Cx) (es:List Expr) (t:TA):Prop :=
  ∀ (pos:Pos) (pins:List (Addr×Obj)) (s:Shared) (σ:St) (H:Hp) (Q:List V->Hp->Prop),aP X pins σ H s->t σ H Q->wpAny (model X.prog X.w) X.A (spliced (backTo pos (starEach es X.env))) (AP X pins σ Q) X.xe s
noncomputable def PS (X:Cx) (st:Stmt) (t:TS):Prop :=
  ∀ (pins:List (Addr×Obj)) (s:Shared) (σ:St) (H:Hp) (D:rS),aP X pins σ H s->t D σ H->wpAny (model X.prog X.w) X.A (exec st X.env) (SP X pins D) X.xe s
noncomputable def qX (X:Cx) (st:List Stmt) (t:TS):Prop :=
  ∀ (pins:List (Addr×Obj)) (s:Shared) (σ:St) (H:Hp) (D:rS),aP X pins σ H s->t D σ H->wpAny (model X.prog X.w) X.A (execs st X.env) (SP X pins D) X.xe s
theorem dg {α:Type} {t:Sem α} {Q Q':α->Shared->Prop} {M:Model} {A:Around} {E:Value->Shared->Prop} {s:Shared} (h:wpAny M A t Q E s) (hQ:∀ a s,Q a s->Q' a s):wpAny M A t Q' E s:=wpAny_mono h hQ fun _ _ x=>x
section
variable {X:Cx}
theorem F9 {a b:Expr} {ta tb:TE} (ha:PE X a ta) (hb:PE X b tb) {pins:List (Addr×Obj)} {s:Shared} {σ:St} {H:Hp} {R:V->V->Hp->Prop} (I:aP X pins σ H s) (h:ta σ H fun x H1=>tb σ H1 fun y H2=>R x y H2)
    {α:Type} {Q:α->Shared->Prop} {f:Value->Value->Sem α}
    (hf:∀ v u s2 x y H2,aP X pins σ H2 s2->bD x v->bD y u->R x y H2->wpAny (model X.prog X.w) X.A (f v u) Q X.xe s2) :
    wpAny (model X.prog X.w) X.A (eval a X.env) (fun v s₁=>wpAny (model X.prog X.w) X.A (eval b X.env) (fun u s₂=>wpAny (model X.prog X.w) X.A (f v u) Q X.xe s₂) X.xe s₁) X.xe s:=by
  refine dg (ha pins s σ H _ I h) fun v s1 ⟨x,H1,I1,r1,q1⟩=>?_
  refine dg (hb pins s1 σ H1 _ I1 q1) fun u s2 ⟨y,H2,I2,r2,q2⟩=>?_
  exact hf v u s2 x y H2 I2 r1 r2 q2
noncomputable def Ep (i:Nat):TE:=fun σ H Q=>∃ v,σ[i]?=some (some v)/\Q v H
noncomputable def tC (v:V):TE:=fun _ H Q=>Q v H
theorem lY {i:Nat} {x:Str} {pos:Pos} (hN:X.N[i]?=some x) (hv:BM X.env.scope x) (hd:(x==("__debug__" : Str))=false:=by decide) (hcd:(x==("__classdict__" : Str))=false:=by decide):PE X (.Name x pos) (Ep i):=by
  intro pins s σ H Q I h;obtain ⟨v,e,h⟩:=h;obtain ⟨m,hn,hl⟩:=I.loc;obtain ⟨u,r,l⟩:=hl i x v hN e hv;have fin:EP X pins σ Q u s:=⟨v,H,I,r,h⟩
  rcases l with ⟨hk,hm⟩ | ⟨hk,c,hc,hcell⟩
  · exact wpAny_Name (wpAny_loadName_local I.ok.kind hk hn hm fin) hd
  · rcases hk with hk | hk
    · exact wpAny_Name (wpAny_loadName_cell I.ok.kind hk hc hcell fin) hd
    · exact wpAny_Name (wpAny_loadName_free I.ok.kind hk hc hcell fin hcd) hd
theorem Da {i j pos}:PE X (.Constant (.int i) j pos) (tC (.int i)):=fun _ _ _ H _ I h=>wpAny_Constant_int ⟨.int i,H,I.tok _,⟨_,rfl⟩,h⟩
theorem Dw {b j pos}:PE X (.Constant (.bool b) j pos) (tC (.bl b)):=fun _ _ _ H _ I h=>Constant_bool ⟨.bl b,H,I,rfl,h⟩
theorem Cw {j pos}:PE X (.Constant .none j pos) (tC .non):=fun _ _ _ H _ I h=>Constant_none ⟨.non,H,I,rfl,h⟩
theorem BN {x j pos}:PE X (.Constant (.str x) j pos) (tC (.str x)):=fun _ _ _ H _ I h=>Calls.Constant_str ⟨.str x,H,I.tok _,⟨_,rfl⟩,h⟩
noncomputable def Gl (X:Cx) (x:Str):Prop:=X.env.kindOf x=some .globalImplicit
theorem nA {E:Value->Shared->Prop} {pins:List (Addr×Obj)} {s:Shared} {σ:St} {H:Hp} {x:Str} {u:Value} {pos:Pos} {Q:Value->Shared->Prop} (I:aP X pins σ H s) (hg:Gl X x) (hm:X.mg x=some u) (h:Q u s)
    (hd:(x==("__debug__" : Str))=false:=by decide):wpAny (model X.prog X.w) X.A (eval (.Name x pos) X.env) Q E s :=
  Calls.Name_function_global I.ok.kind hg (Calls.loadGlobal_global (by rw [I.ok.glob];exact I.mod.glob.keeps I.bk) hm h) hd
theorem iX {E:Value->Shared->Prop} {pins:List (Addr×Obj)} {s:Shared} {σ:St} {H:Hp} {x:Str} {u:Value} {pos:Pos} {Q:Value->Shared->Prop} (I:aP X pins σ H s) (hg:Gl X x) (hm:X.mg x=none) (hv:bootBuiltins x=some u) (h:Q u s)
    (hn:x ≠ "__name__" := by decide) (hd:(x==("__debug__" : Str))=false:=by decide):wpAny (model X.prog X.w) X.A (eval (.Name x pos) X.env) Q E s:=by
  obtain ⟨mb,h1,h2⟩:=I.mod.blt;exact Calls.Name_function_global I.ok.kind hg (Calls.loadGlobal_builtin (by rw [I.ok.glob];exact I.mod.glob.keeps I.bk) hm (by rw [I.ok.blt];exact h1.keeps I.bk) ((h2 x hn).trans hv) h) hd
theorem Au {x:Str} {v:V} {u:Value} {pos:Pos} (hg:Gl X x) (hm:X.mg x=some u) (r:bD v u) (hd:(x==("__debug__" : Str))=false:=by decide):PE X (.Name x pos) (tC v) :=
  fun _ _ _ H _ I h=>nA I hg hm ⟨v,H,I,r,h⟩ hd
theorem AI {x:Str} {v:V} {u:Value} {pos:Pos} (hg:Gl X x) (hm:X.mg x=none) (hv:bootBuiltins x=some u) (r:bD v u) (hn:x ≠ "__name__" := by decide) (hd:(x==("__debug__" : Str))=false:=by decide):PE X (.Name x pos) (tC v) :=
  fun _ _ _ H _ I h=>iX I hg hm hv ⟨v,H,I,r,h⟩ hn hd
variable {a b:Expr} {ta tb:TE} {pos:Pos}
noncomputable def PC (X:Cx) (op:CmpOp) (a b:Expr) (t:TE):Prop :=
  ∀ (pins:List (Addr×Obj)) (s:Shared) (σ:St) (H:Hp) (Q:VK),aP X pins σ H s->t σ H Q ->
    wpAny (model X.prog X.w) X.A (eval a X.env) (fun v s₁=>wpAny (model X.prog X.w) X.A (eval b X.env) (fun u s₂=>wpAny (model X.prog X.w) X.A (compareOp op v u) (EP X pins σ Q) X.xe s₂) X.xe s₁) X.xe s
theorem yP (b:Expr) {op:CmpOp} (h:op≠.In) (h2:op≠.NotIn):behindInMarks op b=false:=by
  have e1:(op==CmpOp.In)=false:=by cases op <;> first | rfl | exact absurd rfl h
  have e2:(op==CmpOp.NotIn)=false:=by cases op <;> first | rfl | exact absurd rfl h2
  cases b <;> simp [behindInMarks,e1,e2]
noncomputable def tB (t:TE):TT:=fun σ H Q=>t σ H fun x H1=>∃ c,x=.bl c/\Q c H1
theorem Ft {op:CmpOp} {t:TE} (h:PC X op a b t) (h1:behindInMarks op b=false:=by first | exact yP _ (by decide) (by decide) | rfl):PT X (.Compare a [op] [b] pos) (tB t):=by
  intro pins s σ H Q I hw;refine wpAny_isTrue_Compare1 (dg (h pins s σ H _ I hw) fun v s1 h1=>dg h1 fun u s2 h2=>dg h2 fun c s3 ⟨x,H1,I1,r1,q1⟩=>?_) h1;obtain ⟨d,rfl,q⟩:=q1;cases r1;exact wpAny_truthy_bool ⟨H1,I1,q⟩
theorem CS {e:Expr} {t:TE} (h:PE X e t) (he:∀ whole,isTrue e X.env whole=(do let v <- whole;standAt e.pos;holding [v] (truthy v)):=by intro _;rfl):PT X e (tB t):=by
  intro pins s σ H Q I hw;refine isTrue_plain (dg (h pins s σ H _ I hw) fun v s1 ⟨x,H1,I1,r1,q1⟩=>?_) (he _);obtain ⟨d,rfl,q⟩:=q1;cases r1;exact wpAny_truthy_bool ⟨H1,I1,q⟩
variable {tA tB':TT} {eT:List Expr}
noncomputable def Fi (t u:TT):TT:=fun σ H Q=>t σ H fun c H1=>if c=true then u σ H1 Q else Q false H1
noncomputable def FU (t u:TT):TT:=fun σ H Q=>t σ H fun c H1=>if c=true then Q true H1 else u σ H1 Q
noncomputable def FC (t:TT):TT:=fun σ H Q=>t σ H fun c H1=>Q (!c) H1
theorem pw_and1 (ha:PT X a tA):PW X (.BoolOp .And [a] pos) tA:=by
  intro wh pins s σ H Q I h;refine isTrue_and (dg (ha pins s σ H Q I h) fun c s1 e=>?_);cases c with
  | true=>exact isTrue_and_nil e
  | false=>exact e
theorem pw_or1 (ha:PT X a tA):PW X (.BoolOp .Or [a] pos) tA:=by
  intro wh pins s σ H Q I h;refine isTrue_or (dg (ha pins s σ H Q I h) fun c s1 e=>?_);cases c with
  | false=>exact isTrue_or_nil e
  | true=>exact e
theorem pw_and (ha:PT X a tA) (hb:PW X (.BoolOp .And (b::eT) pos) tB'):PW X (.BoolOp .And (a::b::eT) pos) (Fi tA tB'):=by
  intro wh pins s σ H Q I h;refine isTrue_and (dg (ha pins s σ H _ I h) fun c s1 ⟨H1,I1,q1⟩=>?_);cases c with
  | true=>exact hb wh pins s1 σ H1 Q I1 q1
  | false=>exact ⟨H1,I1,q1⟩
theorem pw_or (ha:PT X a tA) (hb:PW X (.BoolOp .Or (b::eT) pos) tB'):PW X (.BoolOp .Or (a::b::eT) pos) (FU tA tB'):=by
  intro wh pins s σ H Q I h;refine isTrue_or (dg (ha pins s σ H _ I h) fun c s1 ⟨H1,I1,q1⟩=>?_);cases c with
  | true=>exact ⟨H1,I1,q1⟩
  | false=>exact hb wh pins s1 σ H1 Q I1 q1
theorem CZ (ha:PT X a tA):PT X (.UnaryOp .Not a pos) (FC tA):=by
  intro pins s σ H Q I h;exact isTrue_not (ha pins s σ H (fun c H1=>Q (!c) H1) I h)
noncomputable def Du (ta tb:TE):TE:=fun σ H Q=>ta σ H fun x H1=>∃ c,x=.bl c/\if c=true then tb σ H1 Q else Q (.bl false) H1
noncomputable def FB (ta tb:TE):TE:=fun σ H Q=>ta σ H fun x H1=>∃ c,x=.bl c/\if c=true then Q (.bl true) H1 else tb σ H1 Q
noncomputable def D5 (ta:TE):TE:=fun σ H Q=>ta σ H fun x H1=>∃ c,x=.bl c/\Q (.bl (!c)) H1
theorem BU {op} {t:TE} (h:PE X a t):PE X (.BoolOp op [a] pos) t:=fun pins s σ H Q I hw=>BoolOp_one (h pins s σ H Q I hw)
theorem BO (ha:PE X a ta) (hb:PE X (.BoolOp .And (b::eT) pos) tb):PE X (.BoolOp .And (a::b::eT) pos) (Du ta tb):=by
  intro pins s σ H Q I h;refine BoolOp_and (dg (ha pins s σ H _ I h) fun v s1 ⟨x,H1,I1,r1,q1⟩=>?_);obtain ⟨c,rfl,q1⟩:=q1;cases r1;refine wpAny_truthy_bool ?_;cases c with
  | true=>exact hb pins s1 σ H1 Q I1 q1
  | false=>exact ⟨.bl false,H1,I1,rfl,q1⟩
theorem Et (ha:PE X a ta) (hb:PE X (.BoolOp .Or (b::eT) pos) tb):PE X (.BoolOp .Or (a::b::eT) pos) (FB ta tb):=by
  intro pins s σ H Q I h;refine BoolOp_or (dg (ha pins s σ H _ I h) fun v s1 ⟨x,H1,I1,r1,q1⟩=>?_);obtain ⟨c,rfl,q1⟩:=q1;cases r1;refine wpAny_truthy_bool ?_;cases c with
  | false=>exact hb pins s1 σ H1 Q I1 q1
  | true=>exact ⟨.bl true,H1,I1,rfl,q1⟩
theorem CQ (ha:PE X a ta):PE X (.UnaryOp .Not a pos) (D5 ta):=by
  intro pins s σ H Q I h;refine UnaryOp_ (dg (ha pins s σ H _ I h) fun v s1 ⟨x,H1,I1,r1,q1⟩=>?_);obtain ⟨c,rfl,q1⟩:=q1;cases r1;exact not_of (wpAny_truthy_bool ⟨.bl (!c),H1,I1,rfl,q1⟩)
noncomputable def F8 (t:TT) (ta tb:TE):TE:=fun σ H Q=>t σ H fun c H1=>if c=true then ta σ H1 Q else tb σ H1 Q
theorem yw {c:Expr} (hc:PT X c tA) (ha:PE X a ta) (hb:PE X b tb):PE X (.IfExp c a b pos) (F8 tA ta tb):=by
  intro pins s σ H Q I h;refine wpAny_IfExp (dg (hc pins s σ H _ I h) fun d s1 ⟨H1,I1,q1⟩=>?_);cases d with
  | true=>exact ha pins s1 σ H1 Q I1 q1
  | false=>exact hb pins s1 σ H1 Q I1 q1
end
noncomputable def nk (K:PySem.W.Frag) (H:Hp) (a:Addr) (xs:List V):Prop :=
  Rd H a (.lst xs) \/
    ∃ (o:Obj) (its:Array Value) (n:Nat),K.lookup a=some o/\o.cls=.type "list" /\ o.dict=none/\o.data=.seq its n/\its.size<=sizeLine/\bA xs its.toList
noncomputable def eP (K:PySem.W.Frag) (H:Hp) (a:Addr) (xs:List V):Prop :=
  Rd H a (.tup xs) \/
    ∃ (o:Obj) (its:Array Value) (n:Nat),K.lookup a=some o/\o.cls=.type "tuple" /\ o.data=.seq its n/\its.size<=sizeLine/\bA xs its.toList
noncomputable def Fb:Value->Option V
  | .none=>some .non
  | .bool b=>some (.bl b)
  | .int i _=>some (.int i)
  | .str x _=>some (.str x)
  | .bytes b _=>some (.byt b)
  | .float b _=>some (.flt b)
  | .ref a=>some (.ref a)
  | .type n=>some (.ty n)
  | _=>none
theorem bD.abs {x:V} {u:Value} (r:bD x u):Fb u=some x:=by
  cases x with
  | non=>cases r;rfl
  | bl _=>cases r;rfl
  | int _=>obtain ⟨t,rfl⟩:=r;rfl
  | str _=>obtain ⟨t,rfl⟩:=r;rfl
  | byt _=>obtain ⟨t,rfl⟩:=r;rfl
  | flt _=>obtain ⟨t,rfl⟩:=r;rfl
  | ref _=>cases r;rfl
  | ty _=>cases r;rfl
theorem bD.inj {x y:V} {u:Value} (r:bD x u) (q:bD y u):x=y:=Option.some.inj (r.abs.symm.trans q.abs)
theorem bA.inj:∀ {xs ys:List V} {us:List Value},bA xs us->bA ys us->xs=ys
  | _,_,_,.nil,.nil=>rfl
  | _,_,_,.cons r t,.cons r' t'=>by rw [r.inj r',bA.inj t t']
section
variable {X:Cx} {pins:List (Addr×Obj)} {σ:St} {H:Hp} {s:Shared} {a:Addr} {xs ys:List V}
theorem nk.of {K:PySem.W.Frag} (h:H a=some (.lst xs)):nk K H a xs:=.inl (.inl h)
theorem eP.of {K:PySem.W.Frag} (h:H a=some (.tup xs)):eP K H a xs:=.inl (.inl h)
theorem aP.list (I:aP X pins σ H s) (h:nk X.K H a xs):∃ its:List Value,bA xs its/\PlainL s.heap a its.toArray/\xs.length<=sizeLine:=by
  rcases h with h | ⟨o,its,n,hk,hc,hd,hs,hz,r⟩
  · obtain ⟨z,its,n,r,e⟩:=h.ok I.hok;exact ⟨its,r,⟨_,n,e,rfl,rfl,rfl⟩,z⟩
  · refine ⟨its.toList,r,⟨o,n,I.kIn a o hk,hc,hd,by simpa using hs⟩,?_⟩;have e:=r.length;simp only [Array.length_toList] at e;omega
theorem aP.tuple (I:aP X pins σ H s) (h:eP X.K H a xs):∃ its:List Value,bA xs its/\IsTup s.heap a its.toArray/\xs.length<=sizeLine:=by
  rcases h with h | ⟨o,its,n,hk,hc,hs,hz,r⟩
  · obtain ⟨z,its,r,p⟩:=h.ok I.hok;exact ⟨its,r,p,z⟩
  · refine ⟨its.toList,r,⟨o,I.kIn a o hk,hc,n,by simpa using hs⟩,?_⟩;have e:=r.length;simp only [Array.length_toList] at e;omega
theorem aP.list_inj (I:aP X pins σ H s) (h:nk X.K H a xs) (h':nk X.K H a ys):xs=ys:=by
  obtain ⟨its,r,⟨o,n,e,_,_,d⟩,_⟩:=I.list h;obtain ⟨its',r',⟨o',n',e',_,_,d'⟩,_⟩:=I.list h';rw [e] at e';cases e';rw [d] at d';injection d' with d1 _
  have:its=its':=by simpa using congrArg Array.toList d1
  subst this;exact r.inj r'
theorem aP.tuple_inj (I:aP X pins σ H s) (h:eP X.K H a xs) (h':eP X.K H a ys):xs=ys:=by
  obtain ⟨its,r,⟨o,e,_,n,d⟩,_⟩:=I.tuple h;obtain ⟨its',r',⟨o',e',_,n',d'⟩,_⟩:=I.tuple h';rw [e] at e';cases e';rw [d] at d';injection d' with d1 _
  have:its=its':=by simpa using congrArg Array.toList d1
  subst this;exact r.inj r'
end
noncomputable abbrev Cx.wish (X:Cx) (E:Value->Shared->Prop):Cx:={ X with xe:=E }
noncomputable abbrev Cx.nox (X:Cx):Cx:=X.wish fun _ _=>False
theorem Cx.Ok.wish {X:Cx} (ok:X.Ok) (E:Value->Shared->Prop):(X.wish E).Ok :=
  ⟨ok.mod,ok.kind,ok.glob,ok.blt,ok.above,ok.inj,ok.has,ok.cab,ok.hd,ok.frames,ok.stk,ok.exf,ok.bs,ok.bsz,ok.noex,ok.exfs,ok.funs,ok.frf⟩
theorem Cx.Ok.unwish {X:Cx} {E:Value->Shared->Prop} (ok:(X.wish E).Ok):X.Ok :=
  ⟨ok.mod,ok.kind,ok.glob,ok.blt,ok.above,ok.inj,ok.has,ok.cab,ok.hd,ok.frames,ok.stk,ok.exf,ok.bs,ok.bsz,ok.noex,ok.exfs,ok.funs,ok.frf⟩
section
variable {X:Cx} {pins:List (Addr×Obj)} {σ:St} {H:Hp} {s:Shared} {E:Value->Shared->Prop}
theorem aP.wish (I:aP X pins σ H s) (E:Value->Shared->Prop):aP (X.wish E) pins σ H s:=⟨I.ok.wish E,I.os,I.bare,I.base,I.loc,I.cell,I.free,I.freeC,I.pin,I.hok,I.len⟩
theorem aP.unwish (I:aP (X.wish E) pins σ H s):aP X pins σ H s:=⟨I.ok.unwish,I.os,I.bare,I.base,I.loc,I.cell,I.free,I.freeC,I.pin,I.hok,I.len⟩
theorem SP.unwish {D:rS} {f:Flow} {s':Shared} (h:SP (X.wish E) pins D f s'):SP X pins D f s':=by
  cases f with
  | next=>obtain ⟨σ',H',I,q⟩:=h;exact ⟨σ',H',I.unwish,q⟩
  | brk=>obtain ⟨σ',H',I,q⟩:=h;exact ⟨σ',H',I.unwish,q⟩
  | cont=>obtain ⟨σ',H',I,q⟩:=h;exact ⟨σ',H',I.unwish,q⟩
  | ret u=>obtain ⟨v,σ',H',I,r,q⟩:=h;exact ⟨v,σ',H',I.unwish,r,q⟩
theorem PE.nox {e:Expr} {t:TE} (h:PE X.nox e t):PE X e t:=fun pins s σ H Q I hw =>
  wpAny_mono (h pins s σ H Q (I.wish _) hw) (fun _ _ ⟨v,H',I',r,q⟩=>⟨v,H',I'.unwish,r,q⟩) fun _ _ z=>False.elim z
theorem PT.nox {e:Expr} {t:TT} (h:PT X.nox e t):PT X e t:=fun pins s σ H Q I hw =>
  wpAny_mono (h pins s σ H Q (I.wish _) hw) (fun _ _ ⟨H',I',q⟩=>⟨H',I'.unwish,q⟩) fun _ _ z=>False.elim z
theorem qX.nox {st:List Stmt} {t:TS} (h:qX X.nox st t):qX X st t:=fun pins s σ H D I hw =>
  wpAny_mono (h pins s σ H D (I.wish _) hw) (fun _ _ q=>q.unwish) fun _ _ z=>False.elim z
end
section
variable {X:Cx} {st:Stmt} {eT:List Stmt} {t u:TS} {e:Expr} {te:TE} {pos:Pos}
noncomputable def D1:TS:=fun D σ H=>D.nx σ H
noncomputable def FA (t u:TS):TS:=fun D σ H=>t { D with nx:=u D } σ H
theorem Af:qX X [] D1:=fun _ _ σ H _ I h=>wpAny_execs_nil ⟨σ,H,I,h⟩
theorem nN (h1:PS X st t) (h2:qX X eT u):qX X (st::eT) (FA t u):=by
  intro pins s σ H D I h;refine wpAny_execs_cons (dg (h1 pins s σ H { D with nx:=u D } I h) fun f s1 q=>?_);cases f with
  | next =>
    obtain ⟨σ',H',I',q⟩:=q;exact h2 pins s1 σ' H' D I' q
  | ret v=>exact q
  | brk=>exact q
  | cont=>exact q
theorem uZ (h1:PS X st t):qX X [st] t:=by
  intro pins s σ H D I h;refine wpAny_execs_cons (dg (h1 pins s σ H D I h) fun f s1 q=>?_);cases f with
  | next=>exact wpAny_execs_nil q
  | ret v=>exact q
  | brk=>exact q
  | cont=>exact q
theorem aP.quiet {pins:List (Addr×Obj)} {σ:St} {H:Hp} {s:Shared} (I:aP X pins σ H s):interactive X.env=false:=by simp [interactive,I.ok.kind]
noncomputable def Er (te:TE):TS:=fun D σ H=>te σ H fun _ H1=>D.nx σ H1
theorem Bc (he:PE X e te) (hs:swapsWith e none pos.line X.env=pure false:=by rfl):PS X (.Expr e pos) (Er te):=by
  intro pins s σ H D I h;exact wpAny_Expr_any (dg (he pins s σ H _ I h) fun v s1 ⟨x,H1,I1,r1,q1⟩=>⟨σ,H1,I1,q1⟩) I.quiet hs
noncomputable def E0 (te:TE):TS:=fun D σ H=>te σ H D.rt
theorem Cd (he:PE X e te):PS X (.Return (some e) pos) (E0 te):=by
  intro pins s σ H D I h;exact wpAny_Return_some (dg (he pins s σ H _ I h) fun v s1 ⟨x,H1,I1,r1,q1⟩=>⟨x,σ,H1,I1,r1,q1⟩)
noncomputable def E1 (c:TT) (t u:TS):TS:=fun D σ H=>c σ H fun b H1=>if b=true then t D σ H1 else u D σ H1
theorem El {c:Expr} {a b:List Stmt} {tc:TT} (hc:PT X c tc) (ha:qX X a t) (hb:qX X b u):PS X (.If c a b pos) (E1 tc t u):=by
  intro pins s σ H D I h;refine wpAny_If (dg (hc pins s σ H _ I h) fun d s1 ⟨H1,I1,q1⟩=>?_);cases d with
  | true=>exact ha pins s1 σ H1 D I1 q1
  | false=>exact hb pins s1 σ H1 D I1 q1
end
noncomputable abbrev TG:=V->St->Hp->(St->Hp->Prop)->Prop
noncomputable abbrev BY:=List V->St->Hp->(St->Hp->Prop)->Prop
noncomputable def PG (X:Cx) (target:Expr) (t:TG):Prop :=
  ∀ (pins:List (Addr×Obj)) (s:Shared) (σ:St) (H:Hp) (v:V) (u:Value) (Q:St->Hp->Prop),aP X pins σ H s->bD v u->t v σ H Q ->
    wpAny (model X.prog X.w) X.A (assign target X.env u) (fun _ s'=>∃ σ' H',aP X pins σ' H' s'/\Q σ' H') X.xe s
noncomputable def EG (X:Cx) (ts:List Expr) (t:BY):Prop :=
  ∀ (pins:List (Addr×Obj)) (s:Shared) (σ:St) (H:Hp) (vs:List V) (us:List Value) (Q:St->Hp->Prop),aP X pins σ H s->bA vs us->t vs σ H Q ->
    wpAny (model X.prog X.w) X.A (assignInOrder ((assignEach ts X.env).map (·.2)) us) (fun _ s'=>∃ σ' H',aP X pins σ' H' s'/\Q σ' H') X.xe s
noncomputable abbrev CL:=V->V->V->Hp->(Hp->Prop)->Prop
noncomputable def D6 (X:Cx) (t:CL):Prop :=
  ∀ (pins:List (Addr×Obj)) (s:Shared) (σ:St) (H:Hp) (o i v:V) (ov iv u:Value) (Q:Hp->Prop),aP X pins σ H s->bD o ov->bD i iv->bD v u->t o i v H Q ->
    wpAny (model X.prog X.w) X.A (setItem ov iv u) (fun _ s'=>∃ H',aP X pins σ H' s'/\Q H') X.xe s
noncomputable abbrev EQ:=V->V->Hp->VK->Prop
noncomputable def Fr (X:Cx) (op:Operator) (t:EQ):Prop :=
  ∀ (pins:List (Addr×Obj)) (s:Shared) (σ:St) (H:Hp) (x y:V) (v u:Value) (Q:VK),aP X pins σ H s->bD x v->bD y u->t x y H Q ->
    wpAny (model X.prog X.w) X.A (inplaceOp op v u) (EP X pins σ Q) X.xe s
section
variable {X:Cx} {pos:Pos}
noncomputable def BD (i:Nat):TG:=fun v σ H Q=>Q (σ.set i (some v)) H
theorem jU {i:Nat} {x:Str} (hN:X.N.Nodup) (hi:X.N[i]?=some x) (hx:Bu X.env.scope x) (hf:X.fn x=true\/X.env.scope.names.lookup x=some .local:=by first | exact .inl rfl | exact .inr rfl | assumption):PG X (.Name x pos) (BD i):=by
  intro pins s σ H v u Q I r h;exact wpAny_assign_Name (oG I hN hi hx r (fun s' I'=>⟨_,H,I',h⟩) hf)
noncomputable def Fd:BY:=fun vs σ H Q=>vs=[]/\Q σ H
noncomputable def DH (t:TG) (u:BY):BY:=fun vs σ H Q=>∃ v r,vs=v::r/\t v σ H fun σ' H'=>u r σ' H' Q
theorem vf:EG X [] Fd:=by
  intro pins s σ H vs us Q I r h;obtain ⟨e,h⟩:=h;subst e;cases r;exact assignInOrder_nil ⟨σ,H,I,h⟩
theorem jD {e:Expr} {es:List Expr} {t:TG} {u:BY} (h1:PG X e t) (h2:EG X es u)
    (hs:(assignEach (e::es) X.env).map (·.2)=assign e X.env::(assignEach es X.env).map (·.2):=by rfl):EG X (e::es) (DH t u):=by
  intro pins s σ H vs us Q I r h;obtain ⟨v,vr,e1,h⟩:=h;subst e1;cases r with
  | cons r rr =>
    rw [hs];refine assignInOrder_cons (dg (h1 pins s σ H _ _ _ I r h) fun _ s1 ⟨σ1,H1,I1,q1⟩=>?_);exact h2 pins s1 σ1 H1 _ _ Q I1 rr q1
noncomputable def EW (K:PySem.W.Frag) (n:Nat) (t:BY):TG:=fun v σ H Q=>∃ a xs,v=.ref a/\eP K H a xs/\xs.length=n/\t xs σ H Q
theorem xE {es:List Expr} {k:Nat} {t:BY} {n:Nat} (hc:X.calm=true) (h:EG X es t)
    (hn:(assignEach es X.env).length=n:=by rfl) (hst:(assignEach es X.env).findIdx? (·.1)=none:=by rfl):PG X (.Tuple es k pos) (EW X.K n t):=by
  intro pins s σ H v u Q I r hw;obtain ⟨a,xs,e1,hq,hl,hw⟩:=hw;subst e1;cases r;obtain ⟨its,rv,ht,hz⟩:=I.tuple hq;refine assign_Tuple_tuple (I.ok.hd hc) ht (by simp [hn,<- hl,rv.length]) hst fun h' hx=>?_
  have I1:aP X pins σ H { s with heap:=h' }:=I.kept (t':=s.toks) fun b o e=>hx b o (Nat.ne_of_lt (Heap.lt_size e)) e
  exact h pins _ σ H xs _ Q I1 (by simpa using rv) hw
noncomputable def Fn (to ti:TE) (t:CL):TG:=fun v σ H Q=>to σ H fun o H1=>ti σ H1 fun i H2=>t o i v H2 fun H3=>Q σ H3
theorem Cy {o i:Expr} {to ti:TE} {t:CL} (ho:PE X o to) (hi:PE X i ti) (hs:D6 X t)
    (ha:∀ v,assign (.Subscript o i pos) X.env v=(do
      let ov <- holding [v] (eval o X.env)
      let iv <- holding [v,ov] (eval i X.env)
      standAt pos
      holding [v,ov,iv] (setItem ov iv v)
      release [v,ov,iv] []):=by intro _;rfl):PG X (.Subscript o i pos) (Fn to ti t):=by
  intro pins s σ H v u Q I r h;rw [ha];refine wpAny_bind (wpAny_holding (dg (ho pins s σ H _ I h) fun ov s1 ⟨x,H1,I1,r1,q1⟩=>?_));refine wpAny_bind (wpAny_holding (dg (hi pins s1 σ H1 _ I1 q1) fun iv s2 ⟨y,H2,I2,r2,q2⟩=>?_));refine wpAny_bind (wpAny_standAt (wpAny_bind (wpAny_holding (dg (hs pins s2 σ H2 x y v ov iv u _ I2 r1 r2 r q2) fun _ s3 ⟨H3,I3,q3⟩=>?_))));exact wpAny_release ⟨σ,H3,I3,q3⟩
noncomputable def Eu (te:TE) (g:TG):TS:=fun D σ H=>te σ H fun x H1=>g x σ H1 D.nx
theorem zx {tg e:Expr} {te:TE} {g:TG} (he:PE X e te) (hg:PG X tg g) (hs:swapsWithSole [tg] e pos.line X.env=pure false:=by rfl) (hw:swappedStores [tg] e X.env=pure none:=by rfl)
    (h1:(assignEach [tg] X.env).map (·.2)=[assign tg X.env]:=by rfl):PS X (.Assign [tg] e pos) (Eu te g):=by
  intro pins s σ H D I h;refine wpAny_Assign_stores (dg (he pins s σ H _ I h) fun v s1 ⟨x,H1,I1,r1,q1⟩=>?_) hs hw;rw [h1];exact dg (hg pins s1 σ H1 x v _ I1 r1 q1) fun _ s2 q=>q
theorem xF {i:Nat} {x:Str} {e:Expr} {te:TE} {pos':Pos} (hN:X.N.Nodup) (hi:X.N[i]?=some x) (hx:Bu X.env.scope x) (he:PE X e te) (hs:swapsWith e (some (.Name x pos')) pos.line X.env=pure false:=by rfl) (hf:X.fn x=true\/X.env.scope.names.lookup x=some .local:=by first | exact .inl rfl | exact .inr rfl | assumption) :
    PS X (.Assign [.Name x pos'] e pos) (Eu te (BD i)):=by
  intro pins s σ H D I h;refine wpAny_Assign_Name (dg (he pins s σ H _ I h) fun v s1 ⟨y,H1,I1,r1,q1⟩=>?_) hs;exact oG I1 hN hi hx r1 (fun s2 I2=>⟨_,H1,I2,q1⟩) hf
noncomputable def FF (i:Nat) (te:TE) (ti:EQ):TS:=fun D σ H=>∃ x,σ[i]?=some (some x)/\te σ H fun y H1=>ti x y H1 fun z H2=>D.nx (σ.set i (some z)) H2
theorem BJ {i:Nat} {x:Str} {e:Expr} {te:TE} {op:Operator} {ti:EQ} {pos':Pos} (hN:X.N.Nodup) (hi:X.N[i]?=some x) (hx:Bu X.env.scope x) (he:PE X e te) (ho:Fr X op ti) (hf:X.fn x=true\/X.env.scope.names.lookup x=some .local:=by first | exact .inl rfl | exact .inr rfl | assumption) :
    PS X (.AugAssign (.Name x pos') op e pos) (FF i te ti):=by
  intro pins s σ H D I h;obtain ⟨v,e1,h⟩:=h;obtain ⟨m,hn,hl⟩:=I.loc;have vis:BM X.env.scope x:=by rcases hx with k | k;exact .inl k;exact .inr (.inl k)
  obtain ⟨u,r,l⟩:=hl i x v hi e1 vis;refine wpAny_AugAssign_Name ?_;have go:wpAny (model X.prog X.w) X.A (eval e X.env) (fun w s₂=>wpAny (model X.prog X.w) X.A (inplaceOp op u w) (fun r s₃=>wpAny (model X.prog X.w) X.A (storeName X.env x r) (fun _=>SP X pins D .next) X.xe s₃) X.xe s₂) X.xe s:=by
    refine dg (he pins s σ H _ I h) fun w s1 ⟨y,H1,I1,r1,q1⟩=>?_
    refine dg (ho pins s1 σ H1 v y u w _ I1 r r1 q1) fun z s2 ⟨zv,H2,I2,r2,q2⟩=>?_
    exact oG I2 hN hi hx r2 (fun s3 I3=>⟨_,H2,I3,q2⟩) hf
  rcases l with ⟨hk,hm⟩ | ⟨hk,c,hc,hcell⟩
  · exact wpAny_loadName_local I.ok.kind hk hn hm go
  · rcases hk with hk | hk
    · exact wpAny_loadName_cell I.ok.kind hk hc hcell go
    · rcases hx with k | k
      · have:X.env.scope.names.lookup x=some .free:=hk;rw [k] at this;cases this
      · have:X.env.scope.names.lookup x=some .free:=hk;rw [k] at this;cases this
noncomputable def FK (f:Int->Int->Int):EQ:=fun x y H Q=>∃ i j,x=.int i/\y=.int j/\Q (.int (f i j)) H
theorem BI:Fr X .Add (FK fun i j=>i+j):=by
  intro pins s σ H x y v u Q I r1 r2 h;obtain ⟨i,j,e1,e2,q⟩:=h;subst e1;subst e2;obtain ⟨t,rfl⟩:=r1;obtain ⟨t',rfl⟩:=r2;exact iadd_int ⟨.int _,H,I.tok _,⟨_,rfl⟩,q⟩
end
section
variable {X:Cx} {pos:Pos}
noncomputable def Co (c:TT) (tb:TS):TS:=fun D σ H=>∃ W:Nat->St->Hp->Prop,(∃ m,W m σ H)/\∀ m σ H,W m σ H ->
  c σ H fun b H1=>if b=true then ∃ N:St->Hp->Prop,(∀ σ' H',N σ' H'->∃ m',m' < m/\W m' σ' H')/\tb { D with nx:=N,ct:=N,bk:=D.nx } σ H1 else D.nx σ H1
theorem x6 {c:Expr} {body:List Stmt} {tc:TT} {tb:TS} (hp:PassesOwn (model X.prog X.w) X.A X.env X.xe) (hc:PT X c tc) (hb:qX X body tb):PS X (.While c body [] pos) (Co tc tb):=by
  intro pins s σ H D I h;obtain ⟨W,⟨m0,w0⟩,turn⟩:=h;refine wpAny_While (codeAny_whileLoop (fun n s'=>∃ σ' H',aP X pins σ' H' s'/\W n σ' H') ?_ m0 ⟨σ,H,I,w0⟩);rintro n s1 ⟨σ1,H1,I1,w1⟩;refine wpAny_passesOwn hp (dg (hc pins s1 σ1 H1 _ I1 (turn n σ1 H1 w1)) fun b s2 ⟨H2,I2,q2⟩=>?_);cases b with
  | true =>
    obtain ⟨N,hN,q2⟩:=q2;rw [if_pos rfl];refine wpAny_passesOwn hp (dg (hb pins s2 σ1 H2 _ I2 q2) fun f s3 q3=>?_);cases f with
    | next =>
      obtain ⟨σ3,H3,I3,n3⟩:=q3;obtain ⟨m',hm,w3⟩:=hN σ3 H3 n3;exact ⟨m',hm,σ3,H3,I3,w3⟩
    | cont =>
      obtain ⟨σ3,H3,I3,n3⟩:=q3;obtain ⟨m',hm,w3⟩:=hN σ3 H3 n3;exact ⟨m',hm,σ3,H3,I3,w3⟩
    | brk=>exact q3
    | ret v=>exact q3
  | false =>
    rw [if_neg Bool.false_ne_true];exact wpAny_execs_nil ⟨σ1,H2,I2,q2⟩
end
structure It where
  go:Nat->Hp->Prop
  yld:Nat->Hp->V->Hp->Prop
  stop:Nat->Hp->Prop
noncomputable def lN (X:Cx) (pins:List (Addr×Obj)) (H:Hp) (b:Addr):Prop :=
  H b=none/\b≠X.env.locals/\b∉X.fs/\(b∈X.ex\/X.s₀.heap.objs.size<=b)/\(∀ x c,X.env.cells.lookup x=some c->c≠b)/\∀ p∈X.pn++pins,p.1≠b
theorem aP.fpOk {X:Cx} {pins:List (Addr×Obj)} {σ:St} {H H':Hp} {s:Shared} {b:Addr} (I:aP X pins σ H s) (hb:s.heap.objs.size<=b) (hn:H' b=none):lN X pins H' b:=by
  refine ⟨hn,Nat.ne_of_gt (Nat.lt_of_lt_of_le I.lt hb),I.nofs hb,.inr (Nat.le_trans I.sz hb),fun x c e z=>?_,fun p hp z=>?_⟩
  · obtain ⟨v,q⟩:=I.cell x c e;exact absurd (Nat.lt_of_lt_of_le q.lt (by rw [z];exact hb)) (Nat.lt_irrefl _)
  · exact absurd (Nat.lt_of_lt_of_le (Heap.lt_size (I.pin p hp).1) (by rw [z];exact hb)) (Nat.lt_irrefl _)
structure rd (P:Program) (w:World) (K:PySem.W.Frag) (tg:Expr) (J:It) (fp:List Addr) (it:Addr) (tn:Nat->Heap->Prop):Prop where
  mem:it∈fp
  obj:∀ i h,tn i h->∀ b∈fp,∃ o,h.get? b=some o/\∀ v,o.data≠.cell v
  keep:∀ i h h',tn i h->(∀ b∈fp,∀ o,h.get? b=some o->h'.get? b=some o)->tn i h'
  item:∀ (X:Cx),X.prog=P->X.w=w->X.K=K->X.calm=true->∀ (i:Nat) (pins:List (Addr×Obj)) (s:Shared) (σ:St) (H:Hp) (E:Value->Shared->Prop),aP X pins σ H s->(∀ b∈fp,lN X pins H b)->tn i s.heap->J.go i H ->
    wpAny (model P w) X.A (pyNext (.ref it)) (fun r s1=>∃ u,r=some u /\
      wpAny (model P w) X.A (letOwnedTupleGo tg (.ref it) u) (fun _ s2=>∃ x H',aP X pins σ H' s2/\bD x u/\J.yld i H x H'/\tn (i+1) s2.heap/\∀ b∈fp,H' b=none) E s1) E s
  done:∀ (X:Cx),X.prog=P->X.w=w->X.K=K->X.calm=true->∀ (i:Nat) (pins:List (Addr×Obj)) (s:Shared) (σ:St) (H:Hp) (E:Value->Shared->Prop),aP X pins σ H s->(∀ b∈fp,lN X pins H b)->tn i s.heap->J.stop i H ->
    wpAny (model P w) X.A (pyNext (.ref it)) (fun r s1=>r=none/\aP X pins σ H s1) E s
  self:∀ (A:Around) (i:Nat) (s:Shared) (Q:Value->Shared->Prop) (E:Value->Shared->Prop),tn i s.heap->Q (.ref it) s->wpAny (model P w) A (pyIter (.ref it)) Q E s
noncomputable abbrev TI:=St->Hp->(It->Hp->Prop)->Prop
noncomputable def FH (X:Cx) (pins:List (Addr×Obj)) (σ:St) (tg:Expr) (R:It->Hp->Prop) (itv:Value) (s2:Shared):Prop :=
  ∃ (it:Addr) (fp:List Addr) (tn:Nat->Heap->Prop) (J:It) (H':Hp),itv=.ref it/\aP X pins σ H' s2/\rd X.prog X.w X.K tg J fp it tn/\tn 0 s2.heap/\(∀ b∈fp,lN X pins H' b)/\R J H'
noncomputable def PI (X:Cx) (tg iter:Expr) (wi:TI):Prop :=
  ∀ (pins:List (Addr×Obj)) (s:Shared) (σ:St) (H:Hp) (R:It->Hp->Prop),aP X pins σ H s->wi σ H R ->
    wpAny (model X.prog X.w) X.A (eval iter X.env) (fun v s1=>wpAny (model X.prog X.w) X.A (pyIter v) (FH X pins σ tg R) X.xe s1) X.xe s
theorem yW {M:Model} {A:Around} {E:Value->Shared->Prop} {s:Shared} {tg:Expr} {it:Addr} {u:Value} {o:Obj} {n:String} {vs:Array Value} {Q:Unit->Shared->Prop} (ho:s.heap.get? it=some o) (hc:o.cls=.type n) (hd:o.data=.fields vs)
    (hn:["enumerate","zip","dict_itemiterator","dict_reverseitemiterator","odict_iterator","itertools.zip_longest","itertools.pairwise"].contains n=false) (hQ:Q () s):wpAny M A (letOwnedTupleGo tg (.ref it) u) Q E s:=by
  unfold letOwnedTupleGo;cases tg <;> first
    | exact wpAny_pure hQ
    | (cases u <;> first
        | exact wpAny_pure hQ
        | (refine wpAny_bind (wpAny_load ho ?_)
           rw [hc,hd];show wpAny M A (if (["enumerate","zip","dict_itemiterator","dict_reverseitemiterator","odict_iterator","itertools.zip_longest","itertools.pairwise"].contains n&&vs[0]?==some (rawInt _))=true then _ else _) Q E s;rw [if_neg (by intro h;rw [hn,Bool.false_and] at h;cases h)];exact wpAny_pure hQ))
noncomputable def Fa (K:PySem.W.Frag) (a:Addr):It :=
  ⟨fun i H=>∃ xs x,nk K H a xs/\xs[i]?=some x,fun i H x H'=>H'=H/\∀ xs,nk K H a xs->xs[i]?=some x,fun i H=>∃ xs,nk K H a xs/\xs.length<=i⟩
noncomputable def Fy (K:PySem.W.Frag) (a:Addr):It :=
  ⟨fun i H=>∃ xs x,eP K H a xs/\xs[i]?=some x,fun i H x H'=>H'=H/\∀ xs,eP K H a xs->xs[i]?=some x,fun i H=>∃ xs,eP K H a xs/\xs.length<=i⟩
noncomputable def ER (lo:Int) (n:Nat):It:=⟨fun i _=>i < n,fun i H x H'=>H'=H/\x=.int (lo+i),fun i _=>n<=i⟩
theorem v8 {P:Program} {w:World} {K:PySem.W.Frag} {tg:Expr} (a it:Addr):rd P w K tg (Fa K a) [it] it (fun i h=>h.IsListIter it a i) where
  mem:=by simp
  obj:=fun i h st b hb=>by
    have e:b=it:=by simpa using hb
    subst e;obtain ⟨o,e,c,d⟩:=st;exact ⟨o,e,fun v z=>by rw [d] at z;cases z⟩
  keep:=fun i h h' st k=>st.at fun o e=>k it (by simp) o e
  item:=by
    intro X hP hw hK hc i pins s σ H E I hf st hg;subst hP hw hK;obtain ⟨xs,x,hq,hx⟩:=hg;obtain ⟨its,rv,p,hz⟩:=I.list hq;obtain ⟨u,hu,ru⟩:=rv.get hx;obtain ⟨f0,f1,f2,f3,f4,f5⟩:=hf it (by simp);refine wpAny_pyNext_list_item st p.isList (x:=u) (by simpa using hu) fun h' st' sb=>?_
    have I1:aP X pins σ H { s with heap:=h' }:=I.turned (t':=s.toks) (fun b o hb e=>(sb.2 b hb).trans e) f0 f1 f3 f4 f5;obtain ⟨o,e,c,d⟩:=id st';exact ⟨u,rfl,yW (s:={ s with heap:=h' }) e c d (by decide) ⟨x,H,I1,ru,⟨rfl,fun ys hy=>by rw [I.list_inj hy hq];exact hx⟩,st',fun b hb=>(hf b hb).1⟩⟩
  done:=by
    intro X hP hw hK hc i pins s σ H E I hf st hg;subst hP hw hK;obtain ⟨xs,hq,hx⟩:=hg;obtain ⟨its,rv,p,hz⟩:=I.list hq;obtain ⟨f0,f1,f2,f3,f4,f5⟩:=hf it (by simp);have hl:=rv.length;exact wpAny_pyNext_list_end (I.ok.hd hc) st p.isList (by simp;omega) fun h' eb=>⟨rfl,I.turned (t':=s.toks) (fun b o hb e=>eb b o hb e) f0 f1 f3 f4 f5⟩
  self:=fun _ _ _ _ _ st h=>wpAny_pyIter_listiter st h
theorem tT {P:Program} {w:World} {K:PySem.W.Frag} {tg:Expr} (a it:Addr):rd P w K tg (Fy K a) [it] it (fun i h=>h.IsTupleIter it a i) where
  mem:=by simp
  obj:=fun i h st b hb=>by
    have e:b=it:=by simpa using hb
    subst e;obtain ⟨o,e,c,d⟩:=st;exact ⟨o,e,fun v z=>by rw [d] at z;cases z⟩
  keep:=fun i h h' st k=>st.at fun o e=>k it (by simp) o e
  item:=by
    intro X hP hw hK hc i pins s σ H E I hf st hg;subst hP hw hK;obtain ⟨xs,x,hq,hx⟩:=hg;obtain ⟨its,rv,p,hz⟩:=I.tuple hq;obtain ⟨u,hu,ru⟩:=rv.get hx;obtain ⟨f0,f1,f2,f3,f4,f5⟩:=hf it (by simp);refine wpAny_pyNext_tuple_item st (show s.heap.IsTuple a its.toArray from p) (x:=u) (by simpa using hu) fun h' st' sb=>?_
    have I1:aP X pins σ H { s with heap:=h' }:=I.turned (t':=s.toks) (fun b o hb e=>(sb.2 b hb).trans e) f0 f1 f3 f4 f5;obtain ⟨o,e,c,d⟩:=id st';exact ⟨u,rfl,yW (s:={ s with heap:=h' }) e c d (by decide) ⟨x,H,I1,ru,⟨rfl,fun ys hy=>by rw [I.tuple_inj hy hq];exact hx⟩,st',fun b hb=>(hf b hb).1⟩⟩
  done:=by
    intro X hP hw hK hc i pins s σ H E I hf st hg;subst hP hw hK;obtain ⟨xs,hq,hx⟩:=hg;obtain ⟨its,rv,p,hz⟩:=I.tuple hq;obtain ⟨f0,f1,f2,f3,f4,f5⟩:=hf it (by simp);have hl:=rv.length;exact wpAny_pyNext_tuple_end (I.ok.hd hc) st (show s.heap.IsTuple a its.toArray from p) (by simp;omega) fun h' eb=>⟨rfl,I.turned (t':=s.toks) (fun b o hb e=>eb b o hb e) f0 f1 f3 f4 f5⟩
  self:=fun _ _ _ _ _ st h=>wpAny_pyIter_tupleiter st h
theorem tm {P:Program} {w:World} {K:PySem.W.Frag} {tg:Expr} (it:Addr) (lo:Int) (n:Nat):rd P w K tg (ER lo n) [it] it (fun i h=>IsRangeIter h it (lo+(i:Nat)*1) ((n:Int)-(i:Nat)) 1) where
  mem:=by simp
  obj:=fun i h st b hb=>by
    have e:b=it:=by simpa using hb
    subst e;exact ⟨_,st,fun v z=>by
      have z':Data.fields _=Data.cell v:=z;cases z'⟩
  keep:=fun i h h' st k=>k it (by simp) _ st
  item:=by
    intro X hP hw hK hc i pins s σ H E I hf st hg;subst hP hw hK;obtain ⟨f0,f1,f2,f3,f4,f5⟩:=hf it (by simp);have W:=Walks.range (prog:=X.prog) (w:=X.w) (I.ok.hd hc) it lo 1 n;refine W.item i s _ _ hg st fun v h' tk hv st' kk=>?_
    obtain ⟨t,rfl⟩:=hv;have I1:aP X pins σ H { s with heap:=h',toks:=tk }:=I.turned (fun b o hb e=>kk b o (by simpa using hb) e) f0 f1 f3 f4 f5;refine ⟨_,rfl,yW (s:={ s with heap:=h',toks:=tk }) (n := "range_iterator") st' rfl rfl (by decide) ⟨.int (lo+i),H,I1,⟨t,?_⟩,⟨rfl,rfl⟩,st',fun b hb=>(hf b hb).1⟩⟩;rw [Int.mul_one]
  done:=by
    intro X hP hw hK hc i pins s σ H E I hf st hg;subst hP hw hK;obtain ⟨f0,f1,f2,f3,f4,f5⟩:=hf it (by simp);exact wpAny_pyNext_range_end (I.ok.hd hc) st (by have:n<=i:=hg;omega) fun h' eb=>⟨rfl,I.turned (t':=s.toks) (fun b o hb e=>eb b o hb e) f0 f1 f3 f4 f5⟩
  self:=fun _ _ _ _ _ st h=>wpAny_pyIter_rangeiter st h
section
variable {X:Cx} {tg:Expr}
theorem zm {pins:List (Addr×Obj)} {σ:St} {H:Hp} {s:Shared} {R:It->Hp->Prop} {E:Value->Shared->Prop} {lo hi:Int} {t u v:Tok} {tk:Nat} (I:aP X pins σ H s) (h1:-(2 ^ 62)<=lo) (h2:lo < 2 ^ 62) (h3:-(2 ^ 62)<=hi) (h4:hi < 2 ^ 62)
    (q:R (ER lo (hi-lo).toNat) H):wpAny (model X.prog X.w) X.A (pyIter (.ref s.heap.objs.size)) (FH X pins σ tg R) E { s with heap:=s.heap.push { cls:=.type "range",data:=.fields #[.int lo t,.int hi u,.int 1 v] },toks:=tk }:=by
  refine wpAny_pyIter_range (IsRange.new ..) (small_one h1 h2 h3 h4) ?_;have I1:aP X pins σ H { s with heap:=s.heap.push { cls:=.type "range",data:=.fields #[.int lo t,.int hi u,.int 1 v] },toks:=tk }:=I.kept fun b o e=>Heap.get?_push_of_some _ e
  refine ⟨(s.heap.push { cls:=.type "range",data:=.fields #[.int lo t,.int hi u,.int 1 v] }).objs.size,[(s.heap.push { cls:=.type "range",data:=.fields #[.int lo t,.int hi u,.int 1 v] }).objs.size],_,_,H,rfl,
    I1.kept (t':=tk) fun b o e=>Heap.get?_push_of_some _ e,tm _ lo (hi-lo).toNat,?_,fun b hb=>?_,q⟩
  · have e1:lo+((0:Nat):Int)*1=lo:=by simp
    have e2:(((hi-lo).toNat:Nat):Int)-((0:Nat):Int)=Builtin.Range.rangeSize lo hi 1:=by rw [rangeSize_one];split <;> omega
    show IsRangeIter _ _ (lo+((0:Nat):Int)*1) ((((hi-lo).toNat:Nat):Int)-((0:Nat):Int)) 1;rw [e1,e2];exact Heap.get?_push_size _ rfl
  · have e:b=(s.heap.push { cls:=.type "range",data:=.fields #[.int lo t,.int hi u,.int 1 v] }).objs.size:=by simpa using hb
    subst e;exact I1.fpOk (Nat.le_refl _) (I1.hok.fresh (Nat.le_refl _))
noncomputable def Ei (ta:TA):TI:=fun σ H R=>ta σ H fun vs H1=>∃ j:Int,vs=[.int j]/\-(2 ^ 62)<=j/\j < 2 ^ 62/\R (ER 0 j.toNat) H1
theorem vV {a:Expr} {ta:TA} {p pos:Pos} (hg:Gl X "range") (hm:X.mg "range" = none) (ha:PA X [a] ta) (hs:starEach [a] X.env=[(false,eval a X.env)]:=by rfl):PI X tg (.Call (.Name "range" p) [a] [] pos) (Ei ta):=by
  intro pins s σ H R I h;refine Call_ (iX I hg hm boot_range (PyProof.Rows.callWith_type1 (dg (ha pos pins s σ H _ I h) fun us s1 ⟨vs,H1,I1,r1,q1⟩=>?_) hs rfl));obtain ⟨j,e,q1,q2,q⟩:=q1;subst e;cases r1 with
  | cons r rr =>
    cases rr;obtain ⟨t,rfl⟩:=r;exact call_range_1 (zm I1 (by omega) (by omega) q1 q2 (by simpa using q))
noncomputable def Fl (wi:TI) (g:TG) (tb:TS):TS:=fun D σ H=>wi σ H fun J H1=>∃ W:Nat->Nat->St->Hp->Prop,(∃ m,W 0 m σ H1)/\∀ i m σ H,W i m σ H ->
  (J.stop i H/\D.nx σ H)\/(J.go i H/\∃ N:St->Hp->Prop,(∀ σ' H',N σ' H'->∃ m',m' < m/\W (i+1) m' σ' H')/\∀ x H',J.yld i H x H'->g x σ H' fun σ2 H2=>tb { D with nx:=N,ct:=N,bk:=D.nx } σ2 H2)
noncomputable def oJ (fp:List Addr) (h:Heap):List (Addr×Obj):=fp.filterMap fun b=>(h.get? b).map fun o=>(b,o)
theorem iH {fp:List Addr} {h:Heap} {b:Addr} {o:Obj} (hb:b∈fp) (e:h.get? b=some o):(b,o)∈oJ fp h:=List.mem_filterMap.mpr ⟨b,hb,by rw [e];rfl⟩
theorem wK {fp:List Addr} {h:Heap} {p:Addr×Obj} (hp:p∈oJ fp h):p.1∈fp/\h.get? p.1=some p.2:=by
  obtain ⟨b,hb,e⟩:=List.mem_filterMap.mp hp;cases q:h.get? b with
  | none=>rw [q] at e;cases e
  | some o =>
    rw [q] at e;have e':(b,o)=p:=Option.some.inj e;subst e';exact ⟨hb,q⟩
theorem aP.pinned {pins:List (Addr×Obj)} {σ:St} {H:Hp} {s:Shared} {fp:List Addr} (I:aP X pins σ H s) (hf:∀ b∈fp,lN X pins H b) (ho:∀ b∈fp,∃ o,s.heap.get? b=some o/\∀ v,o.data≠.cell v):aP X (pins++oJ fp s.heap) σ H s :=
  I.pins_of fun p hp=>(List.mem_append.mp hp).elim (fun z=>I.pin p (List.mem_append_right _ z)) fun z=>by
    obtain ⟨hb,e⟩:=wK z;obtain ⟨f0,f1,f2,_⟩:=hf p.1 hb;obtain ⟨o,e',d⟩:=ho p.1 hb;rw [e] at e';cases e';exact ⟨e,f0,f1,f2,d⟩
theorem aP.unpinned {pins pl:List (Addr×Obj)} {σ:St} {H:Hp} {s:Shared} (I:aP X (pins++pl) σ H s):aP X pins σ H s:=I.pins_of fun p hp=>I.pin p (List.mem_append_right _ (List.mem_append_left _ hp))
theorem Ca {iter:Expr} {body:List Stmt} {wi:TI} {g:TG} {tb:TS} {pos:Pos} (hp:PassesOwn (model X.prog X.w) X.A X.env X.xe) (hc:X.calm=true) (hi:PI X tg iter wi) (hg:PG X tg g) (hb:qX X body tb)
    (hs:∀ x,foldedSetIterable iter X.env x=pure x:=by intro _;rfl):PS X (.For tg iter body [] pos) (Fl wi g tb):=by
  intro pins s σ H D I h;refine wpAny_For (dg (hi pins s σ H _ I h) fun v s1 h1=>dg h1 fun itv s2 h2=>?_) hs;obtain ⟨it,fp,tn,J,H2,e,I2,T,st2,f2,W,⟨m0,w0⟩,turn⟩:=h2;subst e
  -- what stays true of the iterator's objects through the loop
  have stat:∀ {H':Hp},(∀ b∈fp,H' b=none)->∀ b∈fp,lN X pins H' b:=fun hn b hb=>⟨hn b hb,(f2 b hb).2⟩
  refine codeAny_forLoop_any (fun n s'=>∃ i σ' H',aP X pins σ' H' s'/\tn i s'.heap/\(∀ b∈fp,H' b=none)/\W i n σ' H') ?_ m0 ⟨0,σ,H2,I2,st2,fun b hb=>(f2 b hb).1,w0⟩;rintro n s3 ⟨i,σ3,H3,I3,st3,fr3,w3⟩;rcases turn i n σ3 H3 w3 with ⟨stop,qn⟩ | ⟨go,N,hN,step⟩
  · refine wpAny_passesOwn hp (dg (T.done X rfl rfl rfl hc i pins s3 σ3 H3 X.xe I3 (stat fr3) st3 stop) fun r s4 ⟨hr,I4⟩=>?_);subst hr;exact wpAny_execs_nil ⟨σ3,H3,I4,qn⟩
  · refine wpAny_passesOwn hp (dg (T.item X rfl rfl rfl hc i pins s3 σ3 H3 X.xe I3 (stat fr3) st3 go) fun r s4 ⟨u,hr,h4⟩=>?_);subst hr;refine wpAny_passesOwn hp (dg h4 fun _ s5 ⟨x,H5,I5,r5,y5,st5,fr5⟩=>?_);have I5':=I5.pinned (stat fr5) (T.obj _ _ st5);refine wpAny_passesOwn hp (dg (hg _ s5 σ3 H5 x u _ I5' r5 (step x H5 y5)) fun _ s6 ⟨σ6,H6,I6,q6⟩=>?_);refine wpAny_passesOwn hp (dg (hb _ s6 σ6 H6 _ I6 q6) fun f s7 q7=>?_);have again:∀ {σ7:St} {H7:Hp},aP X (pins++oJ fp s5.heap) σ7 H7 s7->N σ7 H7->∃ m,m < n/\∃ i σ' H',aP X pins σ' H' s7/\tn i s7.heap/\(∀ b∈fp,H' b=none)/\W i m σ' H':=fun {σ7 H7} I7 n7=>by
      obtain ⟨m',hm,w7⟩:=hN σ7 H7 n7;refine ⟨m',hm,i+1,σ7,H7,I7.unpinned,T.keep _ _ _ st5 fun b hb o e=>(I7.pin (b,o) (List.mem_append_right _ (List.mem_append_right _ (iH hb e)))).1,fun b hb=>?_,w7⟩;obtain ⟨o,e,d⟩:=T.obj _ _ st5 b hb;exact (I7.pin (b,o) (List.mem_append_right _ (List.mem_append_right _ (iH hb e)))).2.1
    cases f with
    | next=>obtain ⟨σ7,H7,I7,n7⟩:=q7;exact again I7 n7
    | cont=>obtain ⟨σ7,H7,I7,n7⟩:=q7;exact again I7 n7
    | brk=>obtain ⟨σ7,H7,I7,q7⟩:=q7;exact ⟨σ7,H7,I7.unpinned,q7⟩
    | ret v=>obtain ⟨x7,σ7,H7,I7,r7,q7⟩:=q7;exact ⟨x7,σ7,H7,I7.unpinned,r7,q7⟩
end
noncomputable abbrev R2:=V->V->Hp->VK->Prop
noncomputable def jc (X:Cx) (f:Value->Value->Sem Value) (r:R2):Prop :=
  ∀ (pins:List (Addr×Obj)) (s:Shared) (σ:St) (H:Hp) (x y:V) (v u:Value) (Q:VK),aP X pins σ H s->bD x v->bD y u->r x y H Q ->
    wpAny (model X.prog X.w) X.A (f v u) (EP X pins σ Q) X.xe s
noncomputable def dW (X:Cx) (f:Value) (r:List V->Hp->VK->Prop):Prop :=
  ∀ (pins:List (Addr×Obj)) (s:Shared) (σ:St) (H:Hp) (xs:List V) (us:List Value) (Q:VK),aP X pins σ H s->bA xs us->r xs H Q ->
    wpAny (model X.prog X.w) X.A (call f us) (EP X pins σ Q) X.xe s
noncomputable def DV (r:R2) (ta tb:TE):TE:=fun σ H Q=>ta σ H fun x H1=>tb σ H1 fun y H2=>r x y H2 Q
noncomputable def rI (C:Int->Int->Prop) (g:Int->Int->V):R2:=fun x y H Q=>∃ i j,x=.int i/\y=.int j/\C i j/\Q (g i j) H
noncomputable def zH (g:Int->Int->V):R2:=fun x y H Q=>∃ i j,x=.int i/\y=.int j/\Q (g i j) H
section
variable {X:Cx} {a b c:Expr} {ta tb tc:TE} {pos:Pos}
theorem CO (ha:PE X a ta) (hb:PE X b tb) {pins:List (Addr×Obj)} {s:Shared} {σ:St} {H:Hp} {R:V->V->Hp->Prop} (I:aP X pins σ H s)
    (h:ta σ H fun x H1=>tb σ H1 fun y H2=>R x y H2) {Q:Value->Shared->Prop} {f:Value->Value->Sem Value}
    (hf:∀ v u s2 x y H2,aP X pins σ H2 s2->bD x v->bD y u->R x y H2->wpAny (model X.prog X.w) X.A (f v u) Q X.xe s2) :
    wpAny (model X.prog X.w) X.A (eval a X.env) (fun v s₁=>wpAny (model X.prog X.w) X.A (eval b X.env) (fun u s₂=>wpAny (model X.prog X.w) X.A (f v u) Q X.xe s₂) X.xe s₁) X.xe s:=by
  refine dg (ha pins s σ H _ I h) fun v s1 ⟨x,H1,I1,r1,q1⟩=>?_
  refine dg (hb pins s1 σ H1 _ I1 q1) fun u s2 ⟨y,H2,I2,r2,q2⟩=>?_
  exact hf v u s2 x y H2 I2 r1 r2 q2
theorem DT {op:Operator} {r:R2} (ho:jc X (binaryOp op) r) (ha:PE X a ta) (hb:PE X b tb):PE X (.BinOp a op b pos) (DV r ta tb):=by
  intro pins s σ H Q I h;exact wpAny_BinOp (CO ha hb I h fun v u s2 x y H2 I2 rx ry q=>ho pins s2 σ H2 x y v u Q I2 rx ry q)
theorem Fx {f:Value->Value->Sem Value} {C:Int->Int->Prop} {g:Int->Int->Int}
    (rule:∀ (i j:Int) (t u:Tok) (s:Shared) (Q:Value->Shared->Prop) (E:Value->Shared->Prop),C i j->Q (.int (g i j) s.toks) { s with toks:=s.toks+1 }->wpAny (model X.prog X.w) X.A (f (.int i t) (.int j u)) Q E s) :
    jc X f (rI C fun i j=>.int (g i j)):=by
  intro pins s σ H x y v u Q I rx ry h;obtain ⟨i,j,rfl,rfl,hc,q⟩:=h;obtain ⟨t,rfl⟩:=rx;obtain ⟨t',rfl⟩:=ry;exact rule i j t t' s _ _ hc ⟨.int (g i j),H,I.tok _,⟨_,rfl⟩,q⟩
theorem DI {f:Value->Value->Sem Value} {g:Int->Int->Int}
    (rule:∀ (i j:Int) (t u:Tok) (s:Shared) (Q:Value->Shared->Prop) (E:Value->Shared->Prop),Q (.int (g i j) s.toks) { s with toks:=s.toks+1 }->wpAny (model X.prog X.w) X.A (f (.int i t) (.int j u)) Q E s) :
    jc X f (zH fun i j=>.int (g i j)):=by
  intro pins s σ H x y v u Q I rx ry h;obtain ⟨i,j,rfl,rfl,q⟩:=h;obtain ⟨t,rfl⟩:=rx;obtain ⟨t',rfl⟩:=ry;exact rule i j t t' s _ _ ⟨.int (g i j),H,I.tok _,⟨_,rfl⟩,q⟩
theorem Cm {f:Value->Value->Sem Value} {g:Int->Int->Bool}
    (rule:∀ (i j:Int) (t u:Tok) (s:Shared) (Q:Value->Shared->Prop) (E:Value->Shared->Prop),Q (.bool (g i j)) s->wpAny (model X.prog X.w) X.A (f (.int i t) (.int j u)) Q E s) :
    jc X f (zH fun i j=>.bl (g i j)):=by
  intro pins s σ H x y v u Q I rx ry h;obtain ⟨i,j,rfl,rfl,q⟩:=h;obtain ⟨t,rfl⟩:=rx;obtain ⟨t',rfl⟩:=ry;exact rule i j t t' s _ _ ⟨.bl (g i j),H,I,rfl,q⟩
noncomputable def D4 (i j:Int):Prop:=0 < j/\j < 1073741824
noncomputable def AS (i j:Int):Prop:=(-(2 ^ 64) < i/\i < 2 ^ 64)\/(-(2 ^ 64) < j/\j < 2 ^ 64)
theorem AS.ok {i j:Int} (h:AS i j):IntMulOk i j:=by
  rcases h with ⟨h1,h2⟩ | ⟨h1,h2⟩
  · exact .of_left (intBits_le_64 h1 h2)
  · exact .of_right (intBits_le_64 h1 h2)
theorem B8:jc X (binaryOp .Add) (zH fun i j=>.int (i+j)):=DI fun _ _ _ _ _ _ _ q=>add_int q
theorem B9:jc X (binaryOp .Sub) (zH fun i j=>.int (i-j)):=DI fun _ _ _ _ _ _ _ q=>sub_int q
theorem Ci:jc X (binaryOp .Mult) (rI AS fun i j=>.int (i*j)):=Fx fun _ _ _ _ _ _ _ hc q=>mul_int q hc.ok
theorem Aj:jc X (binaryOp .FloorDiv) (rI D4 fun i j=>.int (i / j)):=Fx fun i j _ _ _ _ _ hc q=>by
  have h1:(0:Int) < j:=hc.1;have h2:j < 1073741824:=hc.2;exact floordiv_int (by omega) (by rw [Int.fdiv_eq_ediv_of_nonneg i (by omega)];exact q) (.inl (PyProof.noPylong_small (by omega)))
theorem CG:jc X (binaryOp .Mod) (rI (fun _ j=>0 < j) fun i j=>.int (i%j)):=Fx fun i j _ _ _ _ _ hc q=>by
  have h1:(0:Int) < j:=hc;exact mod_int' (by omega) (by rw [Int.fmod_eq_emod_of_nonneg i (by omega)];exact q)
end
section
variable {X:Cx} {a b c:Expr} {ta tb tc:TE} {pos:Pos}
theorem zu {pins:List (Addr×Obj)} {σ:St} {H:Hp} {s:Shared} {Q:VK} {k k':Bool} (I:aP X pins σ H s) (q:Q (.bl k) H) (e:k=k'):EP X pins σ Q (.bool k') s:=by
  subst e;exact ⟨.bl k,H,I,rfl,q⟩
theorem DD:jc X (compareOp .Lt) (zH fun i j=>.bl (decide (i < j))):=Cm fun _ _ _ _ _ _ _ q=>lt_int q
theorem Bp:jc X (compareOp .LtE) (zH fun i j=>.bl (decide (i<=j))):=Cm fun _ _ _ _ _ _ _ q=>le_int q
theorem Bv:jc X (compareOp .Gt) (zH fun i j=>.bl (decide (j < i))):=Cm fun _ _ _ _ _ _ _ q=>gt_int q
theorem yJ:jc X (compareOp .Is) (fun x y H Q=>y=.non/\Q (.bl (decide (x=.non))) H):=by
  intro pins s σ H x y v u Q I rx ry h;obtain ⟨rfl,q⟩:=h;cases ry;refine is_none_gen (zu I q ?_);cases x <;> first
    | (cases rx;rfl)
    | (obtain ⟨t,rfl⟩:=rx;rfl)
theorem Ay:jc X (compareOp .IsNot) (fun x y H Q=>y=.non/\Q (.bl (!decide (x=.non))) H):=by
  intro pins s σ H x y v u Q I rx ry h;obtain ⟨rfl,q⟩:=h;cases ry;refine isnot_none_gen (zu I q ?_);cases x <;> first
    | (cases rx;rfl)
    | (obtain ⟨t,rfl⟩:=rx;rfl)
theorem jc.or {f:Value->Value->Sem Value} {r r':R2} (h:jc X f r) (h':jc X f r'):jc X f (fun x y H Q=>r x y H Q\/r' x y H Q):=by
  intro pins s σ H x y v u Q I rx ry q;rcases q with q | q
  · exact h pins s σ H x y v u Q I rx ry q
  · exact h' pins s σ H x y v u Q I rx ry q
theorem iI (b:Expr) {op:CmpOp} (h:op≠.In:=by decide) (h2:op≠.NotIn:=by decide):behindInMarks op b=false:=by
  have e1:(op==CmpOp.In)=false:=by cases op <;> first | rfl | exact absurd rfl h
  have e2:(op==CmpOp.NotIn)=false:=by cases op <;> first | rfl | exact absurd rfl h2
  cases b <;> simp [behindInMarks,e1,e2]
theorem A2 {op:CmpOp} {r:R2} (ho:jc X (compareOp op) r) (ha:PE X a ta) (hb:PE X b tb) (hm:behindInMarks op b=false):PE X (.Compare a [op] [b] pos) (DV r ta tb):=by
  intro pins s σ H Q I h;exact wpAny_Compare1 (CO ha hb I h fun v u s2 x y H2 I2 rx ry q=>ho pins s2 σ H2 x y v u Q I2 rx ry q) hm
noncomputable def Ej (t:TE):TT:=fun σ H Q=>t σ H fun x H'=>∃ k,x=.bl k/\Q k H'
theorem zW {op:CmpOp} {r:R2} (ho:jc X (compareOp op) r) (ha:PE X a ta) (hb:PE X b tb) (hm:behindInMarks op b=false):PT X (.Compare a [op] [b] pos) (Ej (DV r ta tb)):=by
  intro pins s σ H Q I h;refine wpAny_isTrue_Compare1 (dg (ha pins s σ H _ I h) fun v s1 ⟨x,H1,I1,r1,q1⟩=>dg (hb pins s1 σ H1 _ I1 q1) fun u s2 ⟨y,H2,I2,r2,q2⟩ =>
    dg (ho pins s2 σ H2 x y v u _ I2 r1 r2 q2) fun c s3 ⟨z,H3,I3,r3,k,e,q3⟩=>?_) hm
  subst e;cases r3;exact wpAny_truthy_bool ⟨H3,I3,q3⟩
noncomputable def x9 (r r':R2) (ta tb tc:TE):TE:=fun σ H Q=>ta σ H fun x H1=>tb σ H1 fun y H2=>r x y H2 fun z H3=>∃ k,z=.bl k /\
  (if k=true then tc σ H3 fun w' H4=>r' y w' H4 Q else Q (.bl false) H3)
theorem ze {op op':CmpOp} {r r':R2} (ho:jc X (compareOp op) r) (ho':jc X (compareOp op') r') (ha:PE X a ta) (hb:PE X b tb) (hc:PE X c tc)
    (hm:lastMarks [op,op'] [b,c]=false:=by with_unfolding_all rfl):PE X (.Compare a [op,op'] [b,c] pos) (x9 r r' ta tb tc):=by
  intro pins s σ H Q I h;refine Compare_chain (dg (ha pins s σ H _ I h) fun v s1 ⟨x,H1,I1,r1,q1⟩=>chain_link (dg (hb pins s1 σ H1 _ I1 q1) fun u s2 ⟨y,H2,I2,r2,q2⟩ =>
    dg (ho pins s2 σ H2 x y v u _ I2 r1 r2 q2) fun d s3 ⟨z,H3,I3,r3,k,e,q3⟩=>?_)) hm
  subst e;cases r3;refine wpAny_truthy_bool ?_;cases k with
  | false=>exact ite_ff ⟨.bl false,H3,I3,rfl,q3⟩
  | true=>exact ite_tt (chain_last (dg (hc pins s3 σ H3 _ I3 q3) fun w' s4 ⟨z',H4,I4,r4,q4⟩=>ho' pins s4 σ H4 y z' u w' Q I4 r2 r4 q4))
theorem lP:(sizeLine:Nat) < 2 ^ 63:=by rw [sizeLine_eq];decide
theorem gH {x:V} {us:List Value} (r:bA [x] us):∃ u,us=[u]/\bD x u:=by
  cases r with
  | cons r1 r2=>cases r2;exact ⟨_,rfl,r1⟩
theorem vQ {x y:V} {us:List Value} (r:bA [x,y] us):∃ u w',us=[u,w']/\bD x u/\bD y w':=by
  cases r with
  | cons r1 r2 =>
    cases r2 with
    | cons r3 r4=>cases r4;exact ⟨_,_,rfl,r1,r3⟩
theorem wO (hc:X.calm=true):dW X (.builtin "max") (fun xs H Q=>∃ i j,xs=[.int i,.int j]/\Q (.int (if j > i then j else i)) H):=by
  intro pins s σ H xs us Q I r h;obtain ⟨i,j,rfl,q⟩:=h;obtain ⟨u,w',rfl,⟨t,rfl⟩,⟨t',rfl⟩⟩:=vQ r;refine max_two_ints (I.ok.hd hc) fun h' tk k=>⟨_,H,I.kept k,?_,q⟩
  by_cases hj:j > i
  · rw [if_pos hj,if_pos hj];exact ⟨_,rfl⟩
  · rw [if_neg hj,if_neg hj];exact ⟨_,rfl⟩
theorem wx (hc:X.calm=true):dW X (.builtin "min") (fun xs H Q=>∃ i j,xs=[.int i,.int j]/\Q (.int (if j < i then j else i)) H):=by
  intro pins s σ H xs us Q I r h;obtain ⟨i,j,rfl,q⟩:=h;obtain ⟨u,w',rfl,⟨t,rfl⟩,⟨t',rfl⟩⟩:=vQ r;refine min_two_ints (I.ok.hd hc) fun h' tk k=>⟨_,H,I.kept k,?_,q⟩
  by_cases hj:j < i
  · rw [if_pos hj,if_pos hj];exact ⟨_,rfl⟩
  · rw [if_neg hj,if_neg hj];exact ⟨_,rfl⟩
theorem wg:dW X (.type "int") (fun xs H Q=>(∃ i,xs=[.int i]/\Q (.int i) H)\/∃ k,xs=[.bl k]/\Q (.int (if k then 1 else 0)) H):=by
  intro pins s σ H xs us Q I r h;rcases h with ⟨i,rfl,q⟩ | ⟨k,rfl,q⟩
  · obtain ⟨u,rfl,t,rfl⟩:=gH r;exact call_int_int ⟨.int i,H,I,⟨_,rfl⟩,q⟩
  · obtain ⟨u,rfl,r1⟩:=gH r;cases r1;exact call_int_bool ⟨.int (if k then 1 else 0),H,I.tok _,⟨_,rfl⟩,q⟩
end
structure xf (h:Heap) (x dx C:Addr) (mA:Str->Option Value):Prop where
  obj:h.get? x=some (PySem.W.instObj C dx)
  ns:h.Ns1 dx mA
  ne:dx≠x
theorem vZ {h:Heap} {dx:Addr} {mA:Str->Option Value} (n:h.Ns1 dx mA):∃ od,h.get? dx=some od/\∀ name,PySem.W.lookIn name od=some (mA name):=by
  obtain ⟨o,es,ep,ho,hd,hk,_,hm⟩:=n;refine ⟨o,ho,fun name=>?_⟩;have e:=hm name;unfold nsFind findBy at e;rw [<- Array.find?_toList] at e;unfold PySem.W.lookIn;rw [hd];dsimp only;split
  · rename_i y q;rw [q] at e;exact congrArg some e
  · rename_i q;rw [q] at e;have a:es.toList.any (·.refKey)=false:=by
      rw [List.any_eq_false];intro y hy;obtain ⟨z,t,hkey⟩:=hk y (Array.mem_toList_iff.mp hy);simp [DictEntry.refKey,hkey]
    have a':¬ es.toList.any (·.refKey)=true:=by rw [a];exact Bool.false_ne_true
    rw [if_neg a'];exact congrArg some e
theorem xf.look {h:Heap} {x dx C:Addr} {mA:Str->Option Value} (I:xf h x dx C mA):∃ od,PySem.W.InstAt h x (PySem.W.instObj C dx) C (some od)/\∀ name,PySem.W.lookIn name od=some (mA name) :=
  let ⟨od,ho,hl⟩:=vZ I.ns
  ⟨od,⟨I.obj,rfl,rfl,ho⟩,hl⟩
section
variable {prog:Program} {w:World} {A:Around} {E:Value->Shared->Prop} {s:Shared} {K:PySem.W.Frag} {x dx C f:Addr} {mA:Str->Option Value} {name:Str} {v:Value}
theorem AJ {expr:Bool} {Q:Value->Shared->Prop} (X:K.In s.heap) (I:xf s.heap x dx C mA) (hg:PySem.W.plainGet K C name=true) (hh:PySem.W.hasDictIn K C=true)
    (ha:PySem.W.findIn K (.ref C) name=some none) (hv:mA name=some v) (hv':PySem.W.handedIn v=true) (h:Q v { s with toks:=s.toks+1 }) :
    wpAny (model prog w) A (getAttr (.ref x) name expr) Q E s:=by
  obtain ⟨od,J,hl⟩:=I.look;exact PySem.W.get_value X J (PySem.W.plainGet_of hg).1 (PySem.W.findObj_own hh ha rfl (by rw [hl,hv])) hv' h
theorem Al {ns:List Str} {Q:Unit->Shared->Prop} (X:K.In s.heap) (I:xf s.heap x dx C mA)
    (hs:PySem.W.findIn K (.ref C) "__setattr__" = some (some (.builtin "object.__setattr__"))) (hp:PySem.W.plainOver K C=true) (ht:PySem.W.takerIn K C name=some none) (hh:PySem.W.hasDictIn K C=true)
    (hw:PySem.Within mA ns) (hsz:ns.length<=sizeLine)
    (h:∀ h',xf h' x dx C (fun y=>if y=name then some v else mA y)->Heap.SameBut dx s.heap h'->Q () { s with heap:=h',toks:=s.toks+2 }) :
    wpAny (model prog w) A (setAttr (.ref x) name v) Q E s:=by
  obtain ⟨od,J,hl⟩:=I.look;refine PySem.W.set_plain X J hs (PySem.W.osa_open (s:={ s with toks:=s.toks+1 }) (r:=none) X J hp ht fun b=>?_);obtain ⟨cd,hc,hd'⟩:=PySem.W.any_some hh;have hx:s.heap.get? x=some ⟨.ref C,some dx,.plain,#[]⟩:=I.obj;refine wpAny_bind (wpAny_pure (wpAny_bind (wpAny_bind (wpAny_loadPart hx (wpAny_bind (PySem.W.Looks.here (s:={ s with toks:=s.toks+1 }) (PySem.W.looks_clsIn X hc) ?_))))));rw [hd'];refine wpAny_pure (a:=some dx) (wpAny_bind (wpAny_pure (wpAny_bind ?_)));refine wpAny_nsSet1 (s:={ s with toks:=s.toks+1 }) I.ns fun h' hn2 hs2=>?_
  obtain ⟨oD,esD,epD,hoD,hdD,hcD⟩:=hn2.count (PySem.Within.cons name v hw);refine wpAny_bind (wpAny_lookBehind hoD (by rw [hdD];exact pastItsLine_dict (Nat.le_trans hcD (by rw [List.length_cons];omega))) ?_);exact wpAny_pure (h _ ⟨(hs2.2 _ (Ne.symm I.ne)).trans I.obj,hn2,I.ne⟩ hs2)
theorem zt {R:Result->Shared->Prop} {vs:List Value} {kw:List (Str×Value)} (X:K.In s.heap) (hm:PySem.W.makesIn K C=true)
    (hi:PySem.W.findIn K (.ref C) "__init__" = some (some (.ref f))) (hf:PySem.W.typeIn K (.ref f)=some (.type "function"))
    (h:codeAny (model prog w) (A.under (.builtin "type.__call__" ⟨.ref C::vs,kw⟩)) (.call (.ref f) ⟨.ref (s.heap.objs.size+1)::vs,kw⟩) (PySem.W.InitBack (s.heap.objs.size+1) R)
      { s with heap:=(s.heap.push PySem.W.emptyDict).push (PySem.W.instObj C s.heap.objs.size) }) :
    codeAny (model prog w) A (.call (.ref C) ⟨vs,kw⟩) R s:=by
  obtain ⟨hh,g,d,t,os⟩:=s;exact PySem.W.make_core (PySem.W.makes_of X hm) (PySem.W.looks_findIn X hi) (fun self=>PySem.W.bind_fn X self hf) (.inl rfl) h
end
noncomputable def im (f:Str) (v:V):List (Str×V)->List (Str×V)
  | []=>[(f,v)]
  | (g,x)::r=>if g=f then (g,v)::r else (g,x)::im f v r
theorem mE (f g:Str) (v:V):∀ fs:List (Str×V),(im f v fs).lookup g=if g=f then some v else fs.lookup g
  | []=>by
    show List.lookup g [(f,v)]=_;by_cases h:g=f
    · have hb:(g==f)=true:=beq_iff_eq.mpr h;simp only [List.lookup,hb,if_pos h]
    · have hb:(g==f)=false:=beq_eq_false_iff_ne.mpr h;simp only [List.lookup,hb,if_neg h]
  | (k,x)::r=>by
    have ih:=mE f g v r;rw [show im f v ((k,x)::r)=(if k=f then (k,v)::r else (k,x)::im f v r) from rfl];by_cases hk:k=f
    · rw [if_pos hk];by_cases h:g=k
      · have hb:(g==k)=true:=beq_iff_eq.mpr h;simp only [List.lookup,hb,if_pos (h.trans hk)]
      · have hb:(g==k)=false:=beq_eq_false_iff_ne.mpr h;simp only [List.lookup,hb,if_neg (fun e:g=f=>h (e.trans hk.symm))]
    · rw [if_neg hk];by_cases h:g=k
      · have hb:(g==k)=true:=beq_iff_eq.mpr h;simp only [List.lookup,hb,if_neg (fun e:g=f=>hk (h.symm.trans e))]
      · have hb:(g==k)=false:=beq_eq_false_iff_ne.mpr h;simp only [List.lookup,hb];exact ih
theorem lM (f:Str) (v:V):∀ fs:List (Str×V),f∈(im f v fs).map (·.1)/\∀ g,g∈fs.map (·.1)->g∈(im f v fs).map (·.1)
  | []=>⟨by simp [im],fun g h=>by simp at h⟩
  | (k,x)::r=>by
    obtain ⟨i1,i2⟩:=lM f v r;rw [show im f v ((k,x)::r)=(if k=f then (k,v)::r else (k,x)::im f v r) from rfl];by_cases hk:k=f
    · rw [if_pos hk];subst hk;exact ⟨by simp,fun g h=>by simpa using h⟩
    · rw [if_neg hk];refine ⟨?_,fun g h=>?_⟩
      · rw [List.map_cons];exact List.mem_cons_of_mem _ i1
      · rw [List.map_cons] at h ⊢;rcases List.mem_cons.mp h with e | e
        · exact List.mem_cons.mpr (.inl e)
        · exact List.mem_cons_of_mem _ (i2 g e)
theorem gZ (f:Str) (v:V):∀ fs:List (Str×V),(im f v fs).length<=fs.length+1
  | []=>by simp [im]
  | (k,x)::r=>by
    have ih:=gZ f v r;rw [show im f v ((k,x)::r)=(if k=f then (k,v)::r else (k,x)::im f v r) from rfl];by_cases hk:k=f
    · rw [if_pos hk,List.length_cons,List.length_cons];omega
    · rw [if_neg hk,List.length_cons,List.length_cons];omega
theorem l4.some_of {v:V} {o:Option Value} (r:l4 (some v) o):∃ u,o=some u/\bD v u:=by
  cases o with
  | none=>exact (show False from r).elim
  | some u=>exact ⟨u,rfl,r⟩
theorem wY {v:V} {u:Value} (r:bD v u):PySem.W.handedIn u=true:=by
  cases v with
  | non=>cases (show u=Value.none from r);rfl
  | bl b=>cases (show u=Value.bool b from r);rfl
  | int i=>obtain ⟨t,e⟩:=(show ∃ t,u=Value.int i t from r);cases e;rfl
  | str x=>obtain ⟨t,e⟩:=(show ∃ t,u=Value.str x t from r);cases e;rfl
  | byt b=>obtain ⟨t,e⟩:=(show ∃ t,u=Value.bytes b t from r);cases e;rfl
  | flt b=>obtain ⟨t,e⟩:=(show ∃ t,u=Value.float b t from r);cases e;rfl
  | ref a=>cases (show u=Value.ref a from r);rfl
  | ty n=>cases (show u=Value.type n from r);rfl
section
variable {P:Program} {w:World} {H H':Hp} {h h':Heap} {a C dx:Addr} {fs fs':List (Str×V)}
theorem vc (hok:iB P w H h) (e:H a=some (.ins C dx fs)):∃ mA,xf h a dx C mA/\(∀ f,l4 (fs.lookup f) (mA f))/\PySem.Within mA (fs.map (·.1))/\fs.length<=1000/\H dx=some (.own a):=by
  obtain ⟨d,z,ne,ob,mA,n,r,q⟩:=(show bS P w H h a (.ins C dx fs) from hok a _ e)
  exact ⟨mA,⟨ob,n,ne⟩,r,q,z,d⟩
end
structure xq (K:PySem.W.Frag) (C:Addr):Prop where
  pg:PySem.W.plainGet K C Str.empty=true
  hd:PySem.W.hasDictIn K C=true
  po:PySem.W.plainOver K C=true
  sa:PySem.W.findIn K (.ref C) "__setattr__" = some (some (.builtin "object.__setattr__"))
theorem xq.get {K:PySem.W.Frag} {C:Addr} (c:xq K C) (f:Str):PySem.W.plainGet K C f=true:=c.pg
noncomputable def eI (K:PySem.W.Frag) (C:Addr) (f:Str):Prop:=PySem.W.findIn K (.ref C) f=some none
theorem eI.taker {K:PySem.W.Frag} {C:Addr} {f:Str} (n:eI K C f):PySem.W.takerIn K C f=some none:=by
  unfold PySem.W.takerIn;rw [show PySem.W.findIn K (.ref C) f=some none from n];rfl
section
variable {X:Cx} {pins:List (Addr×Obj)} {σ:St} {H:Hp} {s:Shared} {a C dx:Addr} {fs:List (Str×V)} {f:Str} {v:V} {A:Around} {E:Value->Shared->Prop}
theorem uv {y:V} {u:Value} {Q:Unit->Shared->Prop} (I:aP X pins σ H s) (e:H a=some (.ins C dx fs)) (c:xq X.K C) (n:eI X.K C f) (hl:fs.length < 1000) (ry:bD y u)
    (h:∀ s',aP X pins σ (cw H a (.ins C dx (im f y fs))) s'->Q () s'):wpAny (model X.prog X.w) A (setAttr (.ref a) f u) Q E s:=by
  obtain ⟨mA,O,r,wi,_,ho⟩:=vc I.hok e;have hz:(fs.map (·.1)).length<=sizeLine:=by rw [List.length_map,sizeLine_eq];omega
  refine Al I.kIn O c.sa c.po n.taker c.hd wi hz fun h' O' sb=>h _ ?_
  have hd:∃ o,h'.get? dx=some o:=let ⟨o,_,_,e',_⟩:=O'.ns;⟨o,e'⟩
  refine I.write (x:=a) (e:=dx) (by rw [e];exact True.intro) (.inr ho) (fun b q hb z=>(sb.2 b hb).trans z) hd ?_;refine ⟨by rw [av O.ne];exact ho,?_,O.ne,O'.obj,_,O'.ns,fun g=>?_,fun g hg=>?_⟩
  · have:=gZ f y fs;omega
  · show l4 ((im f y fs).lookup g) (if g=f then some u else mA g);rw [mE];by_cases q:g=f
    · rw [if_pos q,if_pos q];exact ry
    · rw [if_neg q,if_neg q];exact r g
  · by_cases q:g=f
    · rw [q];exact (lM f y fs).1
    · refine (lM f y fs).2 g (wi g fun z=>hg ?_);show (if g=f then some u else mA g)=none;rw [if_neg q];exact z
theorem aP.made (I:aP X pins σ H s):aP X pins σ (cw (cw H s.heap.objs.size (.own (s.heap.objs.size+1))) (s.heap.objs.size+1) (.ins C s.heap.objs.size []))
    { s with heap:=(s.heap.push PySem.W.emptyDict).push (PySem.W.instObj C s.heap.objs.size) }:=by
  have e1:(s.heap.push PySem.W.emptyDict).get? s.heap.objs.size=some PySem.W.emptyDict:=Heap.get?_push_size s.heap rfl;have e2:((s.heap.push PySem.W.emptyDict).push (PySem.W.instObj C s.heap.objs.size)).get? (s.heap.objs.size+1)=some (PySem.W.instObj C s.heap.objs.size):=by
    have:=Heap.get?_push_size (s.heap.push PySem.W.emptyDict) (o:=PySem.W.instObj C s.heap.objs.size) rfl
    rwa [Heap.size_push] at this
  have e3:(s.heap.push PySem.W.emptyDict).Ns s.heap.objs.size (fun _=>none):=⟨PySem.W.emptyDict,#[],_,e1,rfl,(fun e he=>absurd he (by simp)),fun _=>rfl⟩
  have I1:=I.laid (a:=s.heap.objs.size) (o:=.own (s.heap.objs.size+1)) (h':=s.heap.push PySem.W.emptyDict) (t':=s.toks) (fun b u q=>Heap.get?_push_of_some _ q) (Nat.le_refl _) ⟨_,e1⟩;refine I1.laid (a:=s.heap.objs.size+1) (o:=.ins C s.heap.objs.size []) (t':=s.toks) (fun b u q=>Heap.get?_push_of_some _ q) (Nat.le_of_eq (Heap.size_push _ _)) ?_;have ne:s.heap.objs.size≠s.heap.objs.size+1:=Nat.ne_of_lt (Nat.lt_succ_self _);refine ⟨by rw [av ne,bi],Nat.zero_le _,ne,e2,fun _=>none,(Heap.Ns1.of_empty e3).at fun o q=>Heap.get?_push_of_some _ q,fun _=>True.intro,fun y hy=>absurd rfl hy⟩
theorem AX {prog:Program} {w:World} {env:Env} {e:Expr} {f:Str} {pos:Pos} {s:Shared} {Q:Value->Shared->Prop} (hb:attributeBase e f env (eval e env)=eval e env)
    (h:wpAny (model prog w) A (eval e env) (fun o s₁=>wpAny (model prog w) A (getAttr o f true) Q E s₁) E s):wpAny (model prog w) A (eval (.Attribute e f pos) env) Q E s :=
  Attribute_any_ h (by rw [arm_eval_Attribute,hb])
end
noncomputable def E2 (K:PySem.W.Frag) (ta tv:TE) (f:Str):TS:=fun D σ H=>tv σ H fun y H1=>ta σ H1 fun x H2=>∃ a C dx fs,x=.ref a/\H2 a=some (.ins C dx fs)/\xq K C/\eI K C f/\fs.length < 1000 /\
  D.nx σ (cw H2 a (.ins C dx (im f y fs)))
section
variable {X:Cx} {o e value:Expr} {f:Str} {pos pos' tpos:Pos} {ta tv:TE}
theorem uE (ha:PE X o ta) (hv:PE X value tv) (hs:swapsWith value (some (.Attribute o f pos')) pos.line X.env=pure false):PS X (.Assign [.Attribute o f pos'] value pos) (E2 X.K ta tv f):=by
  intro pins s σ H D I h;refine plainObj_wpAny_Assign_Attribute (dg (hv pins s σ H _ I h) fun u s1 ⟨y,H1,I1,ry,q⟩=>dg (ha pins s1 σ H1 _ I1 q) fun ov s2 ⟨x,H2,I2,rx,a,C,dx,fs,ex,ea,c,n,l,q2⟩=>?_) hs;subst ex;obtain rfl:ov=Value.ref a:=rx;exact uv I2 ea c n l ry fun s3 I3=>⟨σ,_,I3,q2⟩
end
section
variable {X:Cx} {pins:List (Addr×Obj)} {σ:St} {H:Hp} {s:Shared} {A:Around} {E:Value->Shared->Prop} {Q:Value->Shared->Prop} {c:Value} {b:Bool}
inductive k8 (K:PySem.W.Frag) (H:Hp):V->Value->Prop where
  | non:k8 K H .non (.type "NoneType")
  | bl (x:Bool):k8 K H (.bl x) (.type "bool")
  | int (i:Int):k8 K H (.int i) (.type "int")
  | str (x:Str):k8 K H (.str x) (.type "str")
  | flt (x:UInt64):k8 K H (.flt x) (.type "float")
  | lst {a:Addr} {xs:List V} (e:H a=some (.lst xs)):k8 K H (.ref a) (.type "list")
  | frz {a:Addr} {o:Obj} {xs:List V} (e:H a=some (.frz o (.lst xs))):k8 K H (.ref a) (.type "list")
  | tup {a:Addr} {xs:List V} (e:H a=some (.tup xs)):k8 K H (.ref a) (.type "tuple")
  | dK {a:Addr} {kvs:List (dj×V)} (e:H a=some (.dK kvs)):k8 K H (.ref a) (.type "dict")
  | dT {a:Addr} {kvs:List (List dj×V)} (e:H a=some (.dT kvs)):k8 K H (.ref a) (.type "dict")
  | ins {a C dx:Addr} {fs:List (Str×V)} (e:H a=some (.ins C dx fs)) (cl:xq K C) (ha:PySem.W.findIn K (.ref C) "__class__" = some (some (.builtin "object.__class__")))
      (hn:PySem.W.specialIn K (.builtin "object.__class__") "__get__" = some (some (.builtin "getset_descriptor.__get__"))) (htk:PySem.W.takesIn K (.builtin "object.__class__")=some true)
      (hm:PySem.W.mroIn K C (.type "object")=some true):k8 K H (.ref a) (.ref C)
theorem wG {x:V} {u t:Value} (I:aP X pins σ H s) (rx:bD x u) (ty:k8 X.K H x t) (e:PySem.W.kitOne X.K t c=some b) (h:∀ tk,Q (.bool b) { s with toks:=tk }) :
    wpAny (model X.prog X.w) A (call (.builtin "isinstance") [u,c]) Q E s:=by
  cases ty with
  | non=>cases (show u=Value.none from rx);exact PySem.W.kia_one PySem.W.kitx_none I.kIn True.intro e (fun z=>nomatch z) h
  | bl y=>cases (show u=Value.bool y from rx);exact PySem.W.kia_one PySem.W.kitx_bool I.kIn True.intro e (fun z=>nomatch z) h
  | int i=>obtain ⟨t,q⟩:=(show ∃ t,u=Value.int i t from rx);cases q;exact PySem.W.kia_one PySem.W.kitx_int I.kIn True.intro e (fun z=>nomatch z) h
  | str y=>obtain ⟨t,q⟩:=(show ∃ t,u=Value.str y t from rx);cases q;exact PySem.W.kia_one PySem.W.kitx_str I.kIn True.intro e (fun z=>nomatch z) h
  | flt y=>obtain ⟨t,q⟩:=(show ∃ t,u=Value.float y t from rx);cases q;exact PySem.W.kia_one PySem.W.kitx_float I.kIn True.intro e (fun z=>nomatch z) h
  | @lst a xs ea =>
    cases (show u=Value.ref a from rx);obtain ⟨_,_,n,_,h1⟩:=(show bS X.prog X.w H s.heap a (.lst xs) from I.hok a _ ea)
    exact PySem.W.kia_one PySem.W.kitx_list I.kIn ⟨_,h1,rfl⟩ e (fun z=>nomatch z) h
  | @frz a ob xs ea =>
    cases (show u=Value.ref a from rx);obtain ⟨_,_,_,n,_,h1⟩:=(show bS X.prog X.w H s.heap a (.frz ob (.lst xs)) from I.hok a _ ea)
    exact PySem.W.kia_one PySem.W.kitx_list I.kIn ⟨_,h1,rfl⟩ e (fun z=>nomatch z) h
  | @tup a xs ea =>
    cases (show u=Value.ref a from rx);obtain ⟨_,_,_,p⟩:=(show bS X.prog X.w H s.heap a (.tup xs) from I.hok a _ ea)
    obtain ⟨o,h1,h2,_⟩:=p;exact PySem.W.kia_one PySem.W.kitx_tuple I.kIn ⟨o,h1,h2⟩ e (fun z=>nomatch z) h
  | @dK a kvs ea =>
    cases (show u=Value.ref a from rx);obtain ⟨_,_,vs,_,p⟩:=(show bS X.prog X.w H s.heap a (.dK kvs) from I.hok a _ ea)
    obtain ⟨o,es,ep,h1,h2,_⟩:=p;exact PySem.W.kia_one PySem.W.kitx_dict I.kIn ⟨o,h1,h2.1⟩ e (fun z=>nomatch z) h
  | @dT a kvs ea =>
    cases (show u=Value.ref a from rx);obtain ⟨_,_,xs,_,o,es,ep,h1,h2,_⟩:=(show bS X.prog X.w H s.heap a (.dT kvs) from I.hok a _ ea)
    exact PySem.W.kia_one PySem.W.kitx_dict I.kIn ⟨o,h1,h2.1⟩ e (fun z=>nomatch z) h
  | @ins a C dx fs ea cl ha hn htk hm =>
    cases (show u=Value.ref a from rx);obtain ⟨mA,O,_⟩:=vc I.hok ea;obtain ⟨od,J,_⟩:=O.look;exact PySem.W.kia_one (PySem.W.kitx_own (cl.get _) cl.hd ha hn htk hm) I.kIn J e (fun z=>nomatch z) h
end
structure fx (k:Nat) (A:Around):Prop where
  hd:A.handled=none
  dp:A.depth+3*k+5 < recursionLimit
  un:A.units+16*k+200 < cLine
theorem fx.mono {j k:Nat} {A:Around} (r:fx k A) (h:j<=k):fx j A:=⟨r.hd,by have:=r.dp;omega,by have:=r.un;omega⟩
theorem fx.deeper {k:Nat} {A:Around} (r:fx (k+1) A) (env:Env):fx k (A.deeper env) :=
  ⟨r.hd,by have:=r.dp;show A.depth+1+3*k+5 < _;omega,by have:=r.un;show A.units+3+16*k+200 < _;omega⟩
theorem uL {A:Around} {C:Addr} {us:List Value} {kw:List (Str×Value)}:(A.under (.builtin "type.__call__" ⟨.ref C::us,kw⟩)).depth=A.depth+1:=by
  first | rfl | simp [Around.under,Code.weight,Code.isCreation,Code.isGuard,Code.isCaller,Code.frames,Code.isFrame,guardIds]
theorem ub {A:Around} {C:Addr} {us:List Value} {kw:List (Str×Value)}:(A.under (.builtin "type.__call__" ⟨.ref C::us,kw⟩)).units=A.units+1:=by
  first | rfl | simp [Around.under,Code.cUnits,Code.frames,Code.isFrame]
theorem fx.make {k:Nat} {A:Around} (r:fx (k+1) A) (C:Addr) (us:List Value) (kw:List (Str×Value)):fx k (A.under (.builtin "type.__call__" ⟨.ref C::us,kw⟩)) :=
  ⟨r.hd,by have:=r.dp;rw [uL];omega,by have:=r.un;rw [ub];omega⟩
theorem fx.depth {k:Nat} {A:Around} (r:fx k A):A.depth < recursionLimit:=by have:=r.dp;omega
theorem fx.units {k:Nat} {A:Around} (r:fx k A):A.units+64 < cLine:=by have:=r.un;omega
noncomputable def E9:TA:=fun _ H Q=>Q [] H
noncomputable def EA (ta:TE) (tr:TA):TA:=fun σ H Q=>ta σ H fun x H1=>tr σ H1 fun xs H2=>Q (x::xs) H2
section
variable {X:Cx} {e:Expr} {es:List Expr} {te:TE} {t:TA} {pos:Pos}
theorem xy:PA X [] E9:=fun _ _ _ _ H Q I h=>Calls.spliced_nil ⟨[],H,I,.nil,h⟩
theorem qU (ha:PE X e te) (hr:PA X es t) (hs:starEach (e::es) X.env=(false,eval e X.env)::starEach es X.env:=by rfl):PA X (e::es) (EA te t):=by
  intro pos pins s σ H Q I h;rw [hs];show wpAny _ _ (spliced ((false,eval e X.env)::backTo pos (starEach es X.env))) _ _ s;refine Calls.spliced_cons (dg (ha pins s σ H _ I h) fun u s1 ⟨x,H1,I1,r1,q1⟩=>?_);exact dg (hr pos pins s1 σ H1 _ I1 q1) fun us s2 ⟨xs,H2,I2,r2,q2⟩=>⟨x::xs,H2,I2,.cons r1 r2,q2⟩
noncomputable def Fz (t:TA):TE:=fun σ H Q=>t σ H fun xs H1=>xs.length<=sizeLine/\∀ p,H1 p=none->Q (.ref p) (cw H1 p (.tup xs))
noncomputable def Fj (t:TA):TE:=fun σ H Q=>t σ H fun xs H1=>xs.length<=sizeLine/\∀ p,H1 p=none->Q (.ref p) (cw H1 p (.lst xs))
theorem Cp {x1} (h:PA X es t):PE X (.Tuple es x1 pos) (Fz t):=by
  intro pins s σ H Q I hq;refine wpAny_Tuple_spliced (dg (h pos pins s σ H _ I hq) fun us s1 ⟨xs,H1,I1,r,z,q⟩=>⟨by rw [<- r.length];exact z,?_⟩);have hf:H1 s1.heap.objs.size=none:=I1.hok.fresh (Nat.le_refl _);refine ⟨.ref s1.heap.objs.size,cw H1 s1.heap.objs.size (.tup xs),I1.laid (t':=s1.toks) (fun b u e=>Heap.get?_push_of_some _ e) (Nat.le_refl _) ?_,rfl,q _ hf⟩;exact ⟨z,us,r,⟨_,Heap.get?_push_size _ rfl,rfl,_,rfl⟩⟩
theorem BR (h:PA X es t):PE X (.List es pos) (Fj t):=by
  intro pins s σ H Q I hq;refine wpAny_List_spliced (dg (h pos pins s σ H _ I hq) fun us s1 ⟨xs,H1,I1,r,z,q⟩=>⟨by rw [<- r.length];exact z,?_⟩);have hf:H1 s1.heap.objs.size=none:=I1.hok.fresh (Nat.le_refl _);refine ⟨.ref s1.heap.objs.size,cw H1 s1.heap.objs.size (.lst xs),I1.laid (t':=s1.toks) (fun b u e=>Heap.get?_push_of_some _ e) (Nat.le_refl _) ?_,rfl,q _ hf⟩;exact ⟨z,us,0,r,Heap.get?_push_size _ rfl⟩
end
noncomputable abbrev Sp:=List V->Hp->VK->XK->Prop
noncomputable abbrev xo:=List Env->Hp->Shared->XK->Value->Shared->Prop
structure tL (P:Program) (w:World) (K:PySem.W.Frag) (mg:Str->Option Value) (base:Heap) (A:Around) (outer:List Env) (s:Shared) (H:Hp):Prop where
  frames:A.frames=some outer
  mod:Mod K mg base
  bs:∀ b o,base.get? b=some o->s.heap.get? b=some o/\H b=none
  bsz:base.objs.size<=s.heap.objs.size
  funs:s.heap.FunFrames base outer
  frf:∀ b∈lG outer,H b=none
  hok:iB P w H s.heap
  bare:AllBare s.gens
noncomputable def CE (outer:List Env) (P:Program) (w:World) (H:Hp) (s:Shared) (Q:VK) (u:Value) (s':Shared):Prop :=
  ∃ v H',s'.os=s.os/\AllBare s'.gens/\Un (lG outer) [] H H' s.heap s'.heap/\iB P w H' s'.heap/\bD v u/\Q v H'
noncomputable def CR (CX:xo) (outer:List Env) (P:Program) (w:World) (H:Hp) (s:Shared) (Q:VK) (E:XK) (r:Result) (s':Shared):Prop :=
  match r with
  | .ok (.ret u)=>CE outer P w H s Q u s'
  | .ok _=>False
  | .error e=>CX outer H s E e s'
structure bg (P:Program) (w:World) (K:PySem.W.Frag) (mg:Str->Option Value) (base:Heap) (CX:xo) (k:Nat) (f:Addr) (fd:FuncData) (ps:List Str) (sp:Sp):Prop where
  len:∀ vs H Q E,sp vs H Q E->vs.length=ps.length
  run:∀ (A:Around) (outer:List Env) (s:Shared) (H:Hp) (args:Args) (us:List Value) (vs:List V) (Q:VK) (E:XK),fx k A->tL P w K mg base A outer s H->BindsTo s fd args (ps.zip us)->bA vs us->sp vs H Q E ->
    codeAny (model P w) A (.call (.ref f) args) (CR CX outer P w H s Q E) s
theorem bg.mono {P:Program} {w:World} {K:PySem.W.Frag} {mg:Str->Option Value} {base:Heap} {CX:xo} {j k:Nat} {f:Addr} {fd:FuncData} {ps:List Str} {sp:Sp} (F:bg P w K mg base CX j f fd ps sp) (h:j<=k) :
    bg P w K mg base CX k f fd ps sp:=⟨F.len,fun A outer s H args us vs Q E hr=>F.run A outer s H args us vs Q E (hr.mono h)⟩
theorem bg.imp {P:Program} {w:World} {K:PySem.W.Frag} {mg:Str->Option Value} {base:Heap} {CX:xo} {k:Nat} {f:Addr} {fd:FuncData} {ps:List Str} {sp sp':Sp} (F:bg P w K mg base CX k f fd ps sp)
    (h:∀ vs H Q E,sp' vs H Q E->sp vs H Q E):bg P w K mg base CX k f fd ps sp' :=
  ⟨fun vs H Q E q=>F.len vs H Q E (h _ _ _ _ q),fun A outer s H args us vs Q E hr he hb hv hs=>F.run A outer s H args us vs Q E hr he hb hv (h _ _ _ _ hs)⟩
theorem tL.make {P:Program} {w:World} {K:PySem.W.Frag} {mg:Str->Option Value} {base:Heap} {A:Around} {outer:List Env} {s:Shared} {H:Hp} (e:tL P w K mg base A outer s H) (C:Addr) (us:List Value) (kw:List (Str×Value)) :
    tL P w K mg base (A.under (.builtin "type.__call__" ⟨.ref C::us,kw⟩)) outer s H:=⟨by first | exact e.frames | (simpa [Around.under,Code.envs,Code.isFrame,pushEnvs] using e.frames),e.mod,e.bs,e.bsz,e.funs,e.frf,e.hok,e.bare⟩
section
variable {X:Cx} {pins:List (Addr×Obj)} {σ:St} {H:Hp} {s s':Shared}
theorem aP.env0 (I:aP X pins σ H s):tL X.prog X.w X.K X.mg X.base X.A X.stack s H :=
  ⟨I.ok.frames,I.ok.mod,I.bs,Nat.le_trans I.ok.bsz I.sz,I.stack,I.stkFree,I.hok,I.bare⟩
theorem aP.after {Q:VK} {u:Value} (I:aP X pins σ H s) (h:CE X.stack X.prog X.w H s Q u s'):EP X pins σ Q u s':=by
  obtain ⟨v,H',os,bare,un,hok,r,q⟩:=h;obtain ⟨hh,g,d,t,os'⟩:=s';obtain rfl:os'=s.os:=os;exact ⟨v,H',I.call (h':=hh) (g':=g) (d':=d) (t':=t) (ch:=[]) un hok bare (fun b z=>absurd z (by simp)),r,q⟩
end
noncomputable def En (sp:Sp) (dvs:List V) (E:XK) (t:TA):TE:=fun σ H Q=>t σ H fun vs H1=>sp (vs++dvs) H1 Q E
noncomputable def D0 (C:Addr) (sp:Sp) (dvs:List V) (E:XK) (t:TA):TE:=fun σ H Q=>t σ H fun vs H1=>∀ x dx,H1 x=none->H1 dx=none->dx≠x ->
  sp (.ref x::(vs++dvs)) (cw (cw H1 dx (.own x)) x (.ins C dx [])) (fun v H2=>v=.non/\Q (.ref x) H2) E
noncomputable def bF (K:PySem.W.Frag) (fd:FuncData) (ps:List Str) (ds:List Value):Prop :=
  ∀ (s:Shared) (us:List Value),K.In s.heap->(us++ds).length=ps.length->BindsTo s fd ⟨us,[]⟩ (ps.zip (us++ds))
theorem bF.all {K:PySem.W.Frag} {fd:FuncData} {ps:List Str} (h:∀ us:List Value,us.length=ps.length->bindArgs fd ⟨us,[]⟩=pure (ps.zip us)):bF K fd ps []:=fun s us _ hl=>by
  rw [List.append_nil] at hl ⊢;exact .of_eq (h us hl)
noncomputable def n5 (CX:xo) (X:Cx) (E:XK):Prop:=∀ (pins:List (Addr×Obj)) (σ:St) (H:Hp) (s:Shared) (e:Value) (s':Shared),aP X pins σ H s->CX X.stack H s E e s'->X.xe e s'
section
variable {X:Cx} {CX:xo} {k:Nat} {f C:Addr} {fd:FuncData} {ps:List Str} {sp:Sp} {dvs:List V} {ds:List Value} {E:XK} {x m:Str} {p pos apos:Pos} {e o:Expr} {es:List Expr} {ta:TE} {t:TA}
theorem BS {pins:List (Addr×Obj)} {σ:St} {H:Hp} {s:Shared} {Q:VK} {us:List Value} {vs:List V} (F:bg X.prog X.w X.K X.mg X.base CX k f fd ps sp) (hr:fx k X.A) (hb:bF X.K fd ps ds) (hd:bA dvs ds) (hx:n5 CX X E)
    (I:aP X pins σ H s) (r:bA vs us) (h:sp (vs++dvs) H Q E):wpAny (model X.prog X.w) X.A (call (.ref f) us) (EP X pins σ Q) X.xe s:=by
  have r2:bA (vs++dvs) (us++ds):=r.append hd;have hl:(us++ds).length=ps.length:=by rw [<- r2.length];exact F.len _ _ _ _ h
  refine wpAny_call (codeAny_mono (F.run X.A X.stack s H ⟨us,[]⟩ (us++ds) (vs++dvs) Q E hr I.env0 (hb s us I.kIn hl) r2 h) fun r s' hq=>?_);cases r with
  | error e=>exact hx pins σ H s e s' I hq
  | ok fl =>
    cases fl with
    | ret u=>exact I.after hq
    | next=>exact False.elim hq
    | brk=>exact False.elim hq
    | cont=>exact False.elim hq
theorem A6 (F:bg X.prog X.w X.K X.mg X.base CX k f fd ps sp) (hr:fx k X.A) (hg:Gl X x) (hm:X.mg x=some (.ref f)) (hk:PySem.W.keepIn X.K (.ref f)=true) (hb:bF X.K fd ps ds) (hd:bA dvs ds) (hx:n5 CX X E)
    (ha:PA X (e::es) t) (hdb:(x==("__debug__" : Str))=false:=by decide) (he:starEach (e::es) X.env=(false,eval e X.env)::starEach es X.env:=by rfl) (hpl:(backTo pos (starEach es X.env)).any (·.1)=false:=by rfl) :
    PE X (.Call (.Name x p) (e::es) [] pos) (En sp dvs E t):=by
  intro pins s σ H Q I h;refine wpAny_Call_Name_kw (nA I hg hm ?_ hdb);refine PySem.W.callWith_K (h₀:=X.base) I.ok.mod.kin hk (dg (ha pos pins s σ H _ I h) fun us s1 ⟨vs,H1,I1,r,q⟩=>⟨I1.kIn,?_⟩) he hpl;exact BS F hr hb hd hx I1 r q
structure Mk (K:PySem.W.Frag) (C f:Addr):Prop where
  makes:PySem.W.makesIn K C=true
  init:PySem.W.findIn K (.ref C) "__init__" = some (some (.ref f))
  fn:PySem.W.isFn K (.ref f)=true
  kp:PySem.W.keepIn K (.ref C)=true
theorem zk {pins:List (Addr×Obj)} {σ:St} {H:Hp} {s:Shared} {Q:VK} {us:List Value} {vs:List V} (M:Mk X.K C f) (F:bg X.prog X.w X.K X.mg X.base CX k f fd ps sp) (hr:fx (k+1) X.A) (hb:bF X.K fd ps ds) (hd:bA dvs ds)
    (hx:n5 CX X E) (I:aP X pins σ H s) (r:bA vs us)
    (h:∀ x dx,H x=none->H dx=none->dx≠x->sp (.ref x::(vs++dvs)) (cw (cw H dx (.own x)) x (.ins C dx [])) (fun v H2=>v=.non/\Q (.ref x) H2) E) :
    wpAny (model X.prog X.w) X.A (call (.ref C) us) (EP X pins σ Q) X.xe s:=by
  have hq:=h (s.heap.objs.size+1) s.heap.objs.size (I.hok.fresh (Nat.le_succ _)) (I.hok.fresh (Nat.le_refl _)) (Nat.ne_of_lt (Nat.lt_succ_self _));have I2:=aP.made (C:=C) I;have r2:bA (V.ref (s.heap.objs.size+1)::(vs++dvs)) (Value.ref (s.heap.objs.size+1)::(us++ds)):=.cons rfl (r.append hd);have hl:(Value.ref (s.heap.objs.size+1)::us++ds).length=ps.length:=by
    have e:=r2.length;rw [F.len _ _ _ _ hq] at e;exact e.symm
  refine wpAny_call (zt (f:=f) I.kIn M.makes M.init (beq_iff_eq.mp M.fn) (codeAny_mono (F.run _ X.stack _ _ ⟨Value.ref (s.heap.objs.size+1)::us,[]⟩ (Value.ref (s.heap.objs.size+1)::(us++ds)) _ _ E (hr.make C us [])
    (I2.env0.make C us []) (hb _ (Value.ref (s.heap.objs.size+1)::us) I2.kIn hl) r2 hq) fun r s' hq'=>?_))
  cases r with
  | error e=>exact hx pins σ _ _ e s' I2 hq'
  | ok fl =>
    cases fl with
    | ret u =>
      obtain ⟨v,H',I3,rv,ev,q3⟩:=I2.after hq';subst ev;exact ⟨rv,⟨V.ref (s.heap.objs.size+1),H',I3,rfl,q3⟩⟩
    | next=>exact False.elim hq'
    | brk=>exact False.elim hq'
    | cont=>exact False.elim hq'
theorem Ab (M:Mk X.K C f) (F:bg X.prog X.w X.K X.mg X.base CX k f fd ps sp) (hr:fx (k+1) X.A) (hg:Gl X x) (hm:X.mg x=some (.ref C)) (hb:bF X.K fd ps ds) (hd:bA dvs ds) (hx:n5 CX X E)
    (ha:PA X (e::es) t) (hdb:(x==("__debug__" : Str))=false:=by decide) (he:starEach (e::es) X.env=(false,eval e X.env)::starEach es X.env:=by rfl) (hpl:(backTo pos (starEach es X.env)).any (·.1)=false:=by rfl) :
    PE X (.Call (.Name x p) (e::es) [] pos) (D0 C sp dvs E t):=by
  intro pins s σ H Q I h;refine wpAny_Call_Name_kw (nA I hg hm ?_ hdb);refine PySem.W.callWith_K (h₀:=X.base) I.ok.mod.kin M.kp (dg (ha pos pins s σ H _ I h) fun us s1 ⟨vs,H1,I1,r,q⟩=>⟨I1.kIn,?_⟩) he hpl;exact zk M F hr hb hd hx I1 r q
end
structure aV (N P:List Str) (sc:Scope):Prop where
  kind:sc.kind=.function
  co:sc.isCoroutine=false
  gen:sc.isGenerator=false
  nd:N.Nodup
  pre:N.take P.length=P
  par:∀ x∈P,sc.names.lookup x=some .local\/sc.names.lookup x=some .cell
  nofree:∀ y∈sc.names,y.2≠.free
theorem pY {kindOf:Str->Option NameKind} {x:Str}:∀ {binds:List (Str×Value)} {m:Str->Option Value},(∀ v,(x,v)∉binds)->bindL kindOf binds m x=m x
  | [],_,_=>rfl
  | (n,v)::r,m,h=>by
    unfold bindL;rw [pY fun w hw=>h w (List.mem_cons_of_mem _ hw)];split
    · have:x≠n:=by rintro rfl;exact h v List.mem_cons_self
      simp [this]
    · rfl
theorem pR {kindOf:Str->Option NameKind} {x:Str}:∀ {binds:List (Str×Value)} {m:Str->Option Value},(∀ v,(x,v)∉binds)->bindC kindOf binds m x=m x
  | [],_,_=>rfl
  | (n,v)::r,m,h=>by
    unfold bindC;rw [pR fun w hw=>h w (List.mem_cons_of_mem _ hw)];split
    · rfl
    · have:x≠n:=by rintro rfl;exact h v List.mem_cons_self
      simp [this]
theorem pI {kindOf:Str->Option NameKind} {x:Str} {v:Value}:∀ {P:List Str} {vs:List Value} {i:Nat} {m:Str->Option Value},P.Nodup->P[i]?=some x->vs[i]?=some v->kindOf x=some .local ->
    bindL kindOf (P.zip vs) m x=some v
  | [],_,_,_,_,h,_,_=>by simp at h
  | _::_,[],_,_,_,_,h,_=>by simp at h
  | p::P,w::vs,0,m,nd,h1,h2,hk=>by
    simp at h1 h2;subst h1;subst h2;show bindL kindOf ((p,w)::P.zip vs) m p=_;unfold bindL;rw [pY fun v hv=>(List.nodup_cons.mp nd).1 (List.of_mem_zip hv).1,if_pos hk];simp
  | p::P,w::vs,i+1,m,nd,h1,h2,hk=>by
    show bindL kindOf ((p,w)::P.zip vs) m x=_;unfold bindL;exact pI (i:=i) (List.nodup_cons.mp nd).2 (by simpa using h1) (by simpa using h2) hk
theorem pT {kindOf:Str->Option NameKind} {x:Str} {v:Value}:∀ {P:List Str} {vs:List Value} {i:Nat} {m:Str->Option Value},P.Nodup->P[i]?=some x->vs[i]?=some v->kindOf x≠some .local ->
    bindC kindOf (P.zip vs) m x=some v
  | [],_,_,_,_,h,_,_=>by simp at h
  | _::_,[],_,_,_,_,h,_=>by simp at h
  | p::P,w::vs,0,m,nd,h1,h2,hk=>by
    simp at h1 h2;subst h1;subst h2;show bindC kindOf ((p,w)::P.zip vs) m p=_;unfold bindC;rw [pR fun v hv=>(List.nodup_cons.mp nd).1 (List.of_mem_zip hv).1,if_neg hk];simp
  | p::P,w::vs,i+1,m,nd,h1,h2,hk=>by
    show bindC kindOf ((p,w)::P.zip vs) m x=_;unfold bindC;exact pT (i:=i) (List.nodup_cons.mp nd).2 (by simpa using h1) (by simpa using h2) hk
noncomputable def i4 (N:List Str) (vs:List V):St:=vs.map some++List.replicate (N.length-vs.length) none
noncomputable def fV (CX:xo) (P:Program) (w:World) (K:PySem.W.Frag) (mg:Str->Option Value) (base:Heap) (N:List Str) (qual:Str) (scope:Scope) (f:Addr) (cd:Value) (A:Around) (outer:List Env) (s:Shared) (H:Hp) (E:XK):Cx where
  prog:=P
  w:=w
  K:=K
  mg:=mg
  base:=base
  A:=A.deeper (envOfC qual scope s.heap.objs.size f cd)
  N:=N
  s₀:=s
  H₀:=H
  env:=envOfC qual scope s.heap.objs.size f cd
  outer:=outer
  stack:=envOfC qual scope s.heap.objs.size f cd::outer
  ex:=[]
  calm:=true
  fn:=fun _=>true
  pn:=[]
  xe:=fun e s'=>wpAny (model P w) (A.deeper (envOfC qual scope s.heap.objs.size f cd)) (leaving (envOfC qual scope s.heap.objs.size f cd) e) (fun _ s''=>CX outer H s E e s'') (fun e' s''=>CX outer H s E e' s'') s'
theorem sO {sc:Scope} {n:Nat} {x:Str} (h:sc.names.lookup x=some .cell):∃ c,(cellsFrom n sc.names []).lookup x=some c:=by
  have q:=PySem.W.cellsFrom_some sc.names n [] (.inl h);exact Option.isSome_iff_exists.mp q
theorem wf {CX:xo} {P:Program} {w:World} {K:PySem.W.Frag} {mg:Str->Option Value} {base:Heap} {N ps:List Str} {qual:Str} {scope:Scope} {f:Addr} {cd:Value} {A:Around} {outer:List Env} {s s1:Shared} {H:Hp} {E:XK} {us:List Value} {vs:List V}
    (S:aV N ps scope) (hd:A.handled=none) (e0:tL P w K mg base A outer s H) (hl:vs.length=ps.length) (r:bA vs us)
    (x:InCallC s s.heap.objs.size (bindL (envOfC qual scope s.heap.objs.size f cd).kindOf (ps.zip us) fun _=>none) (cellsFrom (s.heap.objs.size+1) scope.names []) (bindC (envOfC qual scope s.heap.objs.size f cd).kindOf (ps.zip us) fun _=>none) s1) :
    aP (fV CX P w K mg base N qual scope f cd A outer s H E) [] (i4 N vs) H s1:=by
  have hpl:ps.length<=N.length:=by have:=congrArg List.length S.pre;rw [List.length_take] at this;omega
  obtain ⟨h1,tk,rfl,hk⟩:=x.done;have noA:∀ b:Addr,b∉(fV CX P w K mg base N qual scope f cd A outer s H E).ex:=fun b z=>absurd (show b∈([]:List Addr) from z) (by simp)
  refine ⟨⟨e0.mod,S.kind,rfl,rfl,Nat.le_refl _,fun y z c h1 h2=>?_,fun y hy=>?_,fun y c _ h=>?_,fun _=>hd,Around.frames_deeper e0.frames,.inr ⟨rfl,rfl⟩,fun b z=>absurd z (noA b),e0.bs,e0.bsz,fun b _ _=>noA b,fun b z=>absurd z (noA b),e0.funs,e0.frf⟩,
    rfl,e0.bare,Un.kept hk,⟨_,x.toInCall.ns,fun i y v h1 h2 h3=>?_⟩,fun y c h=>⟨_,x.cell y c h⟩,e0.hok.fresh (Nat.le_refl _),fun y c h=>?_,fun p hp=>absurd (show p∈([]:List (Addr×Obj)) from hp) (by simp),e0.hok.kept hk,?_⟩
  · exact name_of_addr x.apart (PySem.mem_of_lookup h1) (PySem.mem_of_lookup h2)
  · have hy:scope.names.lookup y=some .cell\/scope.names.lookup y=some .free:=hy;rcases hy with hy | hy
    · exact sO hy
    · exact absurd rfl (S.nofree _ (PySem.mem_of_lookup hy))
  · exact Nat.le_of_lt (x.above y c (PySem.mem_of_lookup h))
  · have hi:i < vs.length:=by
      unfold i4 at h2;by_cases hi:i < vs.length
      · exact hi
      · rw [List.getElem?_append_right (by simpa using hi)] at h2;rw [List.getElem?_replicate] at h2;split at h2 <;> cases h2
    have ha:vs[i]?=some v:=by
      unfold i4 at h2;rw [List.getElem?_append_left (by simpa using hi),List.getElem?_map] at h2;cases e:vs[i]? with
      | none=>rw [e] at h2;cases h2
      | some a=>rw [e] at h2;cases h2;rfl
    obtain ⟨u,hu,rv⟩:=r.get ha;have hp:ps[i]?=some y:=by
      rw [<- S.pre,List.getElem?_take_of_lt (by omega)];exact h1
    have ndP:ps.Nodup:=by rw [<- S.pre];exact S.nd.sublist (List.take_sublist _ _)
    refine ⟨u,rv,?_⟩;rcases S.par y (List.mem_of_getElem? hp) with k | k
    · exact .inl ⟨k,pI ndP hp hu k⟩
    · obtain ⟨c,e⟩:=sO (n:=s.heap.objs.size+1) k;refine .inr ⟨.inl k,c,e,?_⟩;have q:=x.cell y c e;rw [pT ndP hp hu (by show scope.names.lookup y≠_;rw [k];decide)] at q;exact q
  · exact e0.hok.fresh (Nat.le_of_lt (x.above y c (PySem.mem_of_lookup h)))
  · unfold i4;show _=N.length;rw [List.length_append,List.length_map,List.length_replicate];omega
theorem yl {CX:xo} {P:Program} {w:World} {K:PySem.W.Frag} {mg:Str->Option Value} {base:Heap} {k:Nat} {f:Addr} {name qual:Str} {params:Arguments} {body:List Stmt} {scope:Scope} {dV kV doc pm cdv ct oc:Value} {an od:Option Addr}
    {osl:Array (Option Value)} {N ps:List Str} {sp:Sp} (lk:K.lookup f=some ⟨oc,od,.func (PySem.W.fnOf name qual params body scope dV kV doc pm an cdv ct),osl⟩) (hcd:PySem.W.codeIn K cdv qual=true) (S:aV N ps scope)
    (len:∀ vs H Q E,sp vs H Q E->vs.length=ps.length)
    (hbody:∀ (A:Around) (outer:List Env) (s:Shared) (H:Hp) (vs:List V) (Q:VK) (E:XK),fx k (A.deeper (envOfC qual scope s.heap.objs.size f cdv))->sp vs H Q E ->
      ∃ t,qX (fV CX P w K mg base N qual scope f cdv A outer s H E) body t/\t { nx:=fun _ H'=>Q .non H',rt:=Q } (i4 N vs) H) :
    bg P w K mg base CX (k+1) f (PySem.W.fnOf name qual params body scope dV kV doc pm an cdv ct) ps sp:=by
  refine ⟨len,fun A outer s H args us vs Q E hr e0 hb r hsp=>?_⟩;have hl:=len _ _ _ _ hsp;have KX:K.In s.heap:=e0.mod.kin.keeps fun b o e=>(e0.bs b o e).1
  have lim:s.heap.NoLimit:=e0.mod.nolimit.keeps fun b o e=>(e0.bs b o e).1
  have hkind:∀ y∈ps.zip us,scope.names.lookup y.1=some .local\/(scope.names.lookup y.1=some .cell/\((cellsFrom (s.heap.objs.size+1) scope.names []).lookup y.1).isSome=true):=fun ⟨n,v⟩ hy=>by
    rcases S.par n (List.of_mem_zip hy).1 with q | q
    · exact .inl q
    · exact .inr ⟨q,PySem.W.cellsFrom_some _ _ _ (.inl q)⟩
  refine codeAny_call_function hr.depth (KX _ _ lk) rfl S.co S.gen rfl (PySem.W.codeRec_of KX hcd) (hb _ _ _ _ ?_);refine wpAny_newFunctionEnv_cells S.kind hkind fun env he s1 x=>?_
  subst he;refine ⟨lim.keeps x.toInCall.keep,codeAny_func ?_⟩;obtain ⟨t,ht,hq⟩:=hbody A outer s H vs Q E (hr.deeper _) hsp;have I:aP (fV CX P w K mg base N qual scope f cdv A outer s H E) [] (i4 N vs) H s1:=wf S hr.hd e0 hl r x;refine wpAny_mono (ht [] s1 (i4 N vs) H _ I hq) (fun fl s' hs=>?_) fun e s' hs=>hs
  have fin:∀ {σ':St} {H':Hp} {v:V} {u:Value},aP (fV CX P w K mg base N qual scope f cdv A outer s H E) [] σ' H' s'->bD v u->Q v H'->CE outer P w H s Q u s' :=
    fun {σ' H' v u} J rv q=>⟨v,H',J.os,J.bare,J.base,J.hok,rv,q⟩
  cases fl with
  | ret u =>
    obtain ⟨v,σ',H',J,rv,q⟩:=hs;exact fin J rv q
  | next =>
    obtain ⟨σ',H',J,q⟩:=hs;exact fin (v:=V.non) (u:=Value.none) J rfl q
  | brk =>
    obtain ⟨_,_,_,q⟩:=hs;exact False.elim q
  | cont =>
    obtain ⟨_,_,_,q⟩:=hs;exact False.elim q
section
variable {X:Cx} {x:Str} {p pos:Pos} {e:Expr} {es:List Expr} {t:TA} {id T:String} {r:List V->Hp->VK->Prop}
noncomputable def E4 (r:List V->Hp->VK->Prop) (t:TA):TE:=fun σ H Q=>t σ H fun vs H1=>r vs H1 Q
theorem nO (hc:dW X (.builtin id) r) (hg:Gl X x) (hm:X.mg x=none) (hv:bootBuiltins x=some (.builtin id)) (ha:PA X (e::es) t) (hn:x ≠ "__name__" := by decide) (hdb:(x==("__debug__" : Str))=false:=by decide)
    (he:starEach (e::es) X.env=(false,eval e X.env)::starEach es X.env:=by rfl) (hpl:(backTo pos (starEach es X.env)).any (·.1)=false:=by rfl):PE X (.Call (.Name x p) (e::es) [] pos) (E4 r t):=by
  intro pins s σ H Q I h;refine wpAny_Call_Name_kw (iX I hg hm hv ?_ hn hdb);exact PyProof.Rows.callWith_builtin1 (dg (ha pos pins s σ H _ I h) fun us s1 ⟨vs,H1,I1,r1,q1⟩=>hc pins s1 σ H1 vs us Q I1 r1 q1) he hpl
theorem ww (hc:dW X (.type T) r) (hg:Gl X x) (hm:X.mg x=none) (hv:bootBuiltins x=some (.type T)) (ha:PA X (e::es) t) (hn:x ≠ "__name__" := by decide) (hdb:(x==("__debug__" : Str))=false:=by decide)
    (he:starEach (e::es) X.env=(false,eval e X.env)::starEach es X.env:=by rfl) (hpl:(backTo pos (starEach es X.env)).any (·.1)=false:=by rfl):PE X (.Call (.Name x p) (e::es) [] pos) (E4 r t):=by
  intro pins s σ H Q I h;refine wpAny_Call_Name_kw (iX I hg hm hv ?_ hn hdb);exact PyProof.Rows.callWith_type1 (dg (ha pos pins s σ H _ I h) fun us s1 ⟨vs,H1,I1,r1,q1⟩=>hc pins s1 σ H1 vs us Q I1 r1 q1) he hpl
end
end L2
namespace HT
open PySem PyProof.Rows
section
open PySem.SeqAt
open PySem.AutoSeq1 (wpAny_loadPart')
open PySem.MeetsSeq PySem.MeetsSeq2 PySem.MeetsSeq3
end
section
variable {prog:Program} {w:World} {A:Around} {E:Value->Shared->Prop} {s:Shared}
theorem cat_tup {t b:Addr} {vs ws:List Value} {Q:Value->Shared->Prop} (ht:IsTup s.heap t vs.toArray) (hb:IsTup s.heap b ws.toArray) (hv:vs≠[])
    (h1:ws=[]->Q (.ref t) s) (h2:ws≠[]->Q (.ref s.heap.objs.size) { s with heap:=s.heap.push { cls:=.type "tuple",data:=.seq (vs++ws).toArray } })
    (hsz:vs.length+ws.length<=sizeLine):wpAny (model prog w) A (binaryOp .Add (.ref t) (.ref b)) Q E s:=by
  obtain ⟨⟨cls,dd,data,sl⟩,ho,hc,n,hd⟩:=id ht;obtain ⟨⟨cls2,dd2,data2,sl2⟩,ho2,hc2,n2,hd2⟩:=id hb;simp only at hc hd hc2 hd2;subst hc hd hc2 hd2;have e:vs.toArray++ws.toArray=(vs++ws).toArray:=by simp
  by_cases hw:ws=[]
  · exact concat_meets ⟨_,ho,rfl⟩ ⟨_,ho2,rfl⟩ noFill_tuple_add seq_tuple_add PySem.F.slot_tuple_add PySem.F.entry_tuple_add (PySem.F.args_tuple_add_2 _ _)
      (tuple_addW1 t b vs.toArray ws.toArray n n2 dd dd2 sl sl2 (by simpa using hv) (by simp [hw])) ⟨ho,ho2,h1 hw⟩
  · refine concat_meets ⟨_,ho,rfl⟩ ⟨_,ho2,rfl⟩ noFill_tuple_add seq_tuple_add PySem.F.slot_tuple_add PySem.F.entry_tuple_add (PySem.F.args_tuple_add_2 _ _)
      (tuple_addW2 t b vs.toArray ws.toArray n n2 dd dd2 sl sl2 (by simpa using hv) (by simpa using hw) (by rw [List.size_toArray,List.size_toArray];exact hsz)) ⟨ho,ho2,?_⟩
    rw [e];exact h2 hw
noncomputable def sIx (n d:Nat):Option Int->Nat
  | none=>d
  | some v=>if v < 0 then (v+(n:Int)).toNat else min v.toNat n
theorem nK (n d:Nat):sIx n d none=d:=rfl
theorem qW (n d k:Nat):sIx n d (some (k:Int))=min k n:=by
  show (if (k:Int) < 0 then ((k:Int)+(n:Int)).toNat else min (k:Int).toNat n)=min k n;rw [if_neg (by omega),Int.toNat_natCast]
theorem Cr (n d:Nat) (hd:d<=n) (o:Option Int):sIx n d o<=n:=by
  cases o with
  | none=>exact hd
  | some v =>
    show (if v < 0 then (v+(n:Int)).toNat else min v.toNat n)<=n;by_cases hv:v < 0
    · rw [if_pos hv];omega
    · rw [if_neg hv];exact Nat.min_le_right _ _
theorem vp (v:Int) (n d:Nat):(if v < 0 then max (v+(n:Int)) 0 else min v (n:Int))=((sIx n d (some v):Nat):Int):=by
  show (if v < 0 then max (v+(n:Int)) 0 else min v (n:Int))=(((if v < 0 then (v+(n:Int)).toNat else min v.toNat n):Nat):Int)
  by_cases hv:v < 0
  · simp only [if_pos hv];omega
  · simp only [if_neg hv];omega
theorem tq (lo hi:Option Int) (n:Nat):Builtin.Slice.sliceAdjust lo hi 1 (n:Int)=(((sIx n 0 lo:Nat):Int),((sIx n n hi:Nat):Int)):=by
  have h1:¬ ((1:Int) < 0):=by omega
  unfold Builtin.Slice.sliceAdjust;simp only [h1,if_false];refine Prod.ext ?_ ?_
  · cases lo with
    | none=>rfl
    | some v=>exact vp v n 0
  · cases hi with
    | none=>rfl
    | some v=>exact vp v n n
theorem uM (i j:Nat):Builtin.Slice.slicePlaces (i:Int) (j:Int) 1=j-i:=by
  unfold Builtin.Slice.slicePlaces;have h1:(1:Int) > 0:=by omega
  simp only [h1,if_true,Int.ediv_one];split <;> omega
theorem n4 {v:Value} {o:Option Int} {Q:Option Int->Shared->Prop} (p:IsPart v o) (h:Q o s):wpAny (model prog w) A (Builtin.Slice.slicePartIndex v) Q E s:=by
  cases p with
  | none=>exact slicePart_none h
  | int i t=>exact slicePart_int h
theorem sliceApplied_gen {sl:Addr} {vl vu:Value} {lo hi:Option Int} {n:Nat} {Q:Int×Int×Nat->Shared->Prop} (hs:s.heap.IsSliceOf sl vl vu .none) (pl:IsPart vl lo) (pu:IsPart vu hi)
    (h:Q (((sIx n 0 lo:Nat):Int),1,sIx n n hi-sIx n 0 lo) s):wpAny (model prog w) A (Builtin.Slice.sliceApplied (.ref sl) (pure (n:Int))) Q E s:=by
  obtain ⟨os,hos,hcs,hds⟩:=id hs;unfold Builtin.Slice.sliceApplied Builtin.Slice.sliceFields;refine wpAny_bind (wpAny_bind (wpAny_field hos hds (x:=vl) rfl (wpAny_bind (wpAny_field hos hds (x:=vu) rfl (wpAny_bind (wpAny_field hos hds (x:=.none) rfl (wpAny_pure ?_)))))));refine wpAny_bind (slicePart_none ?_);show wpAny _ _ (if ((1:Int)==0)=true then _ else _) _ _ s;rw [if_neg (by decide)];refine wpAny_bind (n4 pl (wpAny_bind (n4 pu (wpAny_bind (wpAny_pure ?_)))));show wpAny _ _ (match Builtin.Slice.sliceAdjust lo hi 1 (n:Int) with | (lo,hi)=>pure (lo,(1:Int),Builtin.Slice.slicePlaces lo hi 1)) _ _ s;rw [tq lo hi n];show wpAny _ _ (pure (((sIx n 0 lo:Nat):Int),(1:Int),Builtin.Slice.slicePlaces ((sIx n 0 lo:Nat):Int) ((sIx n n hi:Nat):Int) 1)) _ _ s;rw [uM];exact wpAny_pure h
theorem xC (xs:Array Value) (i k:Nat):((List.range k).filterMap fun (m:Nat)=>xs[((i:Int)+(m:Int)*1).toNat]?).toArray=((xs.toList.drop i).take k).toArray:=by
  have e:(fun (m:Nat)=>xs[((i:Int)+(m:Int)*1).toNat]?)=fun m=>xs[i+m]?:=by
    funext m;have:((i:Int)+(m:Int)*1).toNat=i+m:=by omega
    rw [this]
  rw [e];have:=pick_run xs i k;rw [List.filterMap_map] at this;have e2:((fun x=>xs[x]?)∘fun x=>i+x)=fun m=>xs[i+m]?:=rfl
  rw [e2] at this;rw [this]
theorem getItem_tuple_cut {t sl:Addr} {items:Array Value} {vl vu:Value} {lo hi:Option Int} {Q:Value->Shared->Prop} (ht:IsTup s.heap t items) (hs:s.heap.IsSliceOf sl vl vu .none) (pl:IsPart vl lo) (pu:IsPart vu hi)
    (hw:¬ (sIx items.size 0 lo=0/\sIx items.size items.size hi=items.size))
    (h:Q (.ref s.heap.objs.size) { s with heap:=s.heap.push { cls:=.type "tuple",data:=.seq ((items.toList.drop (sIx items.size 0 lo)).take (sIx items.size items.size hi-sIx items.size 0 lo)).toArray } })
    (hsz:items.size<=sizeLine):wpAny (model prog w) A (getItem (.ref t) (.ref sl)) Q E s:=by
  have htake:sizeOk (.seq ((items.toList.drop (sIx items.size 0 lo)).take (sIx items.size items.size hi-sIx items.size 0 lo)).toArray):=by
    show ((items.toList.drop (sIx items.size 0 lo)).take (sIx items.size items.size hi-sIx items.size 0 lo)).toArray.size<=sizeLine;rw [List.size_toArray,List.length_take,List.length_drop,Array.length_toList];omega
  have hj:sIx items.size items.size hi<=items.size:=Cr _ _ (Nat.le_refl _) hi;obtain ⟨os,hos,hcs,hds⟩:=id hs;have hTs:s.TypeIs (.ref sl) "slice" := ⟨os,hos,hcs⟩
  unfold getItem
  try with_reducible refine wpAny_holding ?_
  first | refine wpAny_bind (wpAny_pure ?_) | skip
  refine wpAny_bind (wpAny_sequenceKey ht.typeIs (by decide) ?_);refine wpAny_bind (wpAny_callSpecial?_slot (name:=Str.ofString "__getitem__") ht.typeIs PyProof.Rows.slot_tuple_getitem
    (wpAny_call_entry PyProof.Rows.slot_tuple_getitem ht.typeIs entry_tuple_getitem ?_ (args_tuple_getitem _ _)))
  show wpAny _ _ (Builtin.Tuple.tupleItemsOf (.ref t)>>=_) _ _ s;refine wpAny_bind (tupleItemsOf_ ht ?_);refine wpAny_bind (wpAny_typeOf hTs ?_);rw [if_pos (by decide)];refine wpAny_bind (sliceApplied_gen hs pl pu ?_);have hno:¬ ((((sIx items.size 0 lo:Nat):Int)==0&&(1:Int)==1&&(sIx items.size items.size hi-sIx items.size 0 lo)==items.size)=true):=by
    intro q;rw [Bool.and_eq_true,Bool.and_eq_true] at q;have q1:((sIx items.size 0 lo:Nat):Int)=0:=eq_of_beq q.1.1;have q2:sIx items.size items.size hi-sIx items.size 0 lo=items.size:=eq_of_beq q.2;exact hw ⟨by omega,by omega⟩
  show wpAny _ _ (if (((sIx items.size 0 lo:Nat):Int)==0&&(1:Int)==1&&(sIx items.size items.size hi-sIx items.size 0 lo)==items.size)=true then _ else _) _ _ s;rw [if_neg hno,xC]
  first
    | exact wpAny_bind (m:=Builtin.Tuple.tupleExact _) (wpAny_newObj_type (wpAny_pure ⟨_,rfl,wpAny_pure h⟩) htake)
    | exact wpAny_bind (m:=Builtin.Tuple.tupleExact _) (wpAny_newObj_type (wpAny_bind (wpAny_pure (wpAny_pure ⟨_,rfl,wpAny_pure h⟩))) htake)
    | exact wpAny_bind (wpAny_bind (m:=Builtin.Tuple.tupleExact _) (wpAny_newObj_type (wpAny_pure (wpAny_pure ⟨_,rfl,wpAny_pure h⟩)) htake))
    | exact wpAny_bind (wpAny_bind (m:=Builtin.Tuple.tupleExact _) (wpAny_newObj_type (wpAny_pure ⟨_,rfl,wpAny_pure h⟩) htake))
end
end HT
namespace L2
open PySem PySem.Spec PyProof.Rows
noncomputable abbrev TO:=St->Hp->(Option Int->Hp->Prop)->Prop
noncomputable def PO (X:Cx) (e:Option Expr) (t:TO):Prop :=
  ∀ (pins:List (Addr×Obj)) (s:Shared) (σ:St) (H:Hp) (Q:Option Int->Hp->Prop),aP X pins σ H s->t σ H Q ->
    wpAny (model X.prog X.w) X.A (evalPart e X.env) (fun u s'=>∃ o H',aP X pins σ H' s'/\IsPart u o/\Q o H') X.xe s
noncomputable def Bd:TO:=fun _ H Q=>Q none H
noncomputable def Dv (t:TE):TO:=fun σ H Q=>t σ H fun x H1=>∃ i,x=.int i/\Q (some i) H1
theorem iW {ns:List Int}:∀ {us:List Value},bA (ns.map V.int) us->IntsAre us ns:=by
  induction ns with
  | nil=>intro us r;rw [List.map_nil] at r;cases r;exact .nil
  | cons n ns ih =>
    intro us r;rw [List.map_cons] at r;cases r with
    | cons r1 r2 =>
      obtain ⟨t,e⟩:=r1;subst e;exact .cons n t (ih r2)
section
variable {X:Cx} {e:Expr} {te:TE} {lo hi:Option Expr} {tl th:TO} {pos p2:Pos}
theorem Bg:PO X none Bd:=by
  intro pins s σ H Q I h;rw [evalPart_none];exact wpAny_pure ⟨none,H,I,.none,h⟩
theorem Ak (h:PE X e te):PO X (some e) (Dv te):=by
  intro pins s σ H Q I hw;rw [evalPart_some];refine dg (h pins s σ H _ I hw) fun u s1 ⟨x,H1,I1,r1,q1⟩=>?_
  obtain ⟨i,rfl,q⟩:=q1;obtain ⟨t,rfl⟩:=r1;exact ⟨some i,H1,I1,.int i t,q⟩
noncomputable def Ap (X:Cx) (r:V->Option Int->Option Int->Hp->VK->Prop):Prop :=
  ∀ (pins:List (Addr×Obj)) (s:Shared) (σ:St) (H:Hp) (x:V) (v vl vu:Value) (lo hi:Option Int) (sl:Addr) (Q:VK),aP X pins σ H s->bD x v->s.heap.IsSliceOf sl vl vu .none->IsPart vl lo->IsPart vu hi->r x lo hi H Q ->
    ∃ T id,typeLookup (.type T) "__getitem__" = pure (some (.builtin id))/\s.TypeIs v T/\wpAny (model X.prog X.w) X.A (getItem v (.ref sl)) (EP X pins σ Q) X.xe s
theorem Ap.or {r r':V->Option Int->Option Int->Hp->VK->Prop} (h:Ap X r) (h':Ap X r'):Ap X (fun x lo hi H Q=>r x lo hi H Q\/r' x lo hi H Q):=by
  intro pins s σ H x v vl vu lo hi sl Q I rx hs pl pu q;rcases q with q | q
  · exact h pins s σ H x v vl vu lo hi sl Q I rx hs pl pu q
  · exact h' pins s σ H x v vl vu lo hi sl Q I rx hs pl pu q
noncomputable def F7 (r:V->Option Int->Option Int->Hp->VK->Prop) (te:TE) (tl th:TO):TE:=fun σ H Q=>te σ H fun x H1=>tl σ H1 fun l H2=>th σ H2 fun u H3=>r x l u H3 Q
theorem yG {r:V->Option Int->Option Int->Hp->VK->Prop} (hr:Ap X r) (he:PE X e te) (hl:PO X lo tl) (hu:PO X hi th):PE X (.Subscript e (.Slice lo hi none p2) pos) (F7 r te tl th):=by
  intro pins s σ H Q I h;refine Subscript_ (dg (he pins s σ H _ I h) fun v s1 ⟨x,H1,I1,r1,q1⟩=>?_);refine wpAny_Slice (dg (hl pins s1 σ H1 _ I1 q1) fun vl s2 ⟨l,H2,I2,pl,q2⟩=>dg (hu pins s2 σ H2 _ I2 q2) fun vu s3 ⟨u,H3,I3,pu,q3⟩=>?_);rw [evalPart_none];refine wpAny_pure ?_;have I4:aP X pins σ H3 { s3 with heap:=s3.heap.push { cls:=.type "slice",data:=.fields #[vl,vu,.none] } }:=I3.kept (t':=s3.toks) fun b ob q=>Heap.get?_push_of_some _ q
  obtain ⟨T,id,hT,ht,hg⟩:=hr pins { s3 with heap:=s3.heap.push { cls:=.type "slice",data:=.fields #[vl,vu,.none] } } σ H3 x v vl vu l u s3.heap.objs.size Q I4 r1 (Heap.IsSliceOf.new ..) pl pu q3;show wpAny (model X.prog X.w) X.A (subscriptTail e (.Slice lo hi none p2) v (.ref s3.heap.objs.size)) (EP X pins σ Q) X.xe { s3 with heap:=s3.heap.push { cls:=.type "slice",data:=.fields #[vl,vu,.none] } };exact tail_any (ops:=[.ref s3.heap.objs.size,v]) ht hT hg (by with_unfolding_all rfl)
noncomputable def rh (xs:List V) (lo hi:Option Int):List V:=(xs.drop (HT.sIx xs.length 0 lo)).take (HT.sIx xs.length xs.length hi-HT.sIx xs.length 0 lo)
theorem mB (xs:List V) (lo hi:Option Int):(rh xs lo hi).length<=xs.length:=by
  unfold rh;rw [List.length_take,List.length_drop];omega
noncomputable def Fv (K:PySem.W.Frag):V->Option Int->Option Int->Hp->VK->Prop:=fun x lo hi H Q=>∃ a xs,x=.ref a/\eP K H a xs /\
  ¬ (HT.sIx xs.length 0 lo=0/\HT.sIx xs.length xs.length hi=xs.length)/\∀ p,H p=none->Q (.ref p) (cw H p (.tup (rh xs lo hi)))
theorem Cb:Ap X (Fv X.K):=by
  intro pins s σ H x v vl vu lo hi sl Q I rx hs pl pu h;obtain ⟨a,xs,rfl,hx,hw,q⟩:=h;cases rx;obtain ⟨its,r,ht,hz⟩:=I.tuple hx;have hlen:its.toArray.size=xs.length:=by rw [List.size_toArray];exact r.length.symm
  refine ⟨"tuple",_,PyProof.Rows.slot_tuple_getitem.lookup,ht.typeIs,?_⟩;refine HT.getItem_tuple_cut ht hs pl pu (by rw [hlen];exact hw) ?_ (by rw [hlen];exact hz);rw [hlen];refine ⟨.ref s.heap.objs.size,_,I.laid (t':=s.toks) (o:=.tup (rh xs lo hi)) (fun b ob q=>Heap.get?_push_of_some _ q) (Nat.le_refl _) ?_,rfl,q _ (I.hok.fresh (Nat.le_refl _))⟩;exact ⟨Nat.le_trans (mB xs lo hi) hz,_,(r.drop (HT.sIx xs.length 0 lo)).take (HT.sIx xs.length xs.length hi-HT.sIx xs.length 0 lo),IsTup.new _ _⟩
noncomputable def Bq (K:PySem.W.Frag):R2:=fun x y H Q=>∃ a b xs ys,x=.ref a/\y=.ref b/\eP K H a xs/\eP K H b ys/\xs≠[]/\xs.length+ys.length<=sizeLine /\
  (ys=[]->Q (.ref a) H)/\(ys≠[]->∀ p,H p=none->Q (.ref p) (cw H p (.tup (xs++ys))))
theorem bA.nil_iff {xs:List V} {us:List Value} (r:bA xs us):us=[]<->xs=[]:=by
  cases r with
  | nil=>simp
  | cons _ _=>simp
theorem AY:jc X (binaryOp .Add) (Bq X.K):=by
  intro pins s σ H x y v u Q I rx ry h;obtain ⟨a,b,xs,ys,rfl,rfl,ha,hb,hx,hz,q1,q2⟩:=h;cases rx;cases ry;obtain ⟨its,r1,p1,_⟩:=I.tuple ha;obtain ⟨its2,r2,p2,_⟩:=I.tuple hb;refine HT.cat_tup p1 p2 (fun z=>hx (r1.nil_iff.mp z)) (fun z=>⟨.ref a,H,I,rfl,q1 (r2.nil_iff.mp z)⟩) (fun z=>?_) (by rw [<- r1.length,<- r2.length];exact hz);refine ⟨.ref s.heap.objs.size,_,I.laid (t':=s.toks) (o:=.tup (xs++ys)) (fun b ob q=>Heap.get?_push_of_some _ q) (Nat.le_refl _) ?_,rfl,q2 (fun w=>z (r2.nil_iff.mpr w)) _ (I.hok.fresh (Nat.le_refl _))⟩;exact ⟨by rw [List.length_append];exact hz,_,r1.append r2,IsTup.new _ _⟩
end
noncomputable def vb (n:Nat) (i:Int):Option Nat:=if 0<=i then (if i < n then some i.toNat else none) else if -(n:Int)<=i then some (i+n).toNat else none
noncomputable def atI {α:Type} (xs:List α) (i:Int):Option α:=(vb xs.length i).bind fun j=>xs[j]?
theorem vI {n:Nat} {i:Int} {j:Nat} (h:vb n i=some j):seqIndex? i n=some j/\j < n/\-(n:Int)<=i/\i < n:=by
  unfold vb at h;by_cases h0:0<=i
  · rw [if_pos h0] at h;by_cases h1:i < n
    · rw [if_pos h1] at h;have e:i.toNat=j:=Option.some.inj h;exact ⟨by rw [seqIndex_of h0 h1,e],by omega,by omega,h1⟩
    · rw [if_neg h1] at h;cases h
  · rw [if_neg h0] at h;by_cases h1:-(n:Int)<=i
    · rw [if_pos h1] at h;have e:(i+n).toNat=j:=Option.some.inj h;exact ⟨by rw [seqIndex_neg (by omega) h1,e],by omega,h1,by omega⟩
    · rw [if_neg h1] at h;cases h
theorem qd {α:Type} {xs:List α} {i:Int} {v:α} (h:atI xs i=some v):∃ j,seqIndex? i xs.length=some j/\xs[j]?=some v/\j < xs.length/\-(xs.length:Int)<=i/\i < xs.length:=by
  unfold atI at h;cases e:vb xs.length i with
  | none=>rw [e] at h;cases h
  | some j =>
    rw [e] at h;obtain ⟨h1,h2,h3,h4⟩:=vI e;exact ⟨j,h1,h,h2,h3,h4⟩
theorem qL {α:Type} {xs:List α} {j:Nat} {v:α} (h:xs[j]?=some v):atI xs (j:Int)=some v:=by
  have hj:j < xs.length:=(List.getElem?_eq_some_iff.mp h).1;have e:vb xs.length (j:Int)=some j:=by
    unfold vb;rw [if_pos (by omega),if_pos (by omega)];simp
  unfold atI;rw [e];exact h
noncomputable def u0 (b:Expr):Prop:=∀ o i,subscripted b false o i=operate [o,i] (getItem o i)
noncomputable def At (X:Cx) (r:R2):Prop :=
  ∀ (value slice:Expr) (pins:List (Addr×Obj)) (s:Shared) (σ:St) (H:Hp) (x y:V) (v u:Value) (Q:VK),aP X pins σ H s->bD x v->bD y u->r x y H Q ->
    subscripted slice false v u=operate [v,u] (getItem v u)->wpAny (model X.prog X.w) X.A (subscriptTail value slice v u) (EP X pins σ Q) X.xe s
noncomputable def FR (X:Cx) (id:String) (r:V->List V->Hp->VK->Prop):Prop :=
  ∀ (pins:List (Addr×Obj)) (s:Shared) (σ:St) (H:Hp) (x:V) (xs:List V) (v:Value) (us:List Value) (Q:VK),aP X pins σ H s->bD x v->bA xs us->r x xs H Q ->
    wpAny (model X.prog X.w) X.A (call (.builtin id) (v::us)) (EP X pins σ Q) X.xe s
section
variable {X:Cx} {a b:Expr} {ta tb:TE} {pos:Pos}
theorem At.or {r r':R2} (h:At X r) (h':At X r'):At X (fun x y H Q=>r x y H Q\/r' x y H Q):=by
  intro value slice pins s σ H x y v u Q I rx ry q hs;rcases q with q | q
  · exact h value slice pins s σ H x y v u Q I rx ry q hs
  · exact h' value slice pins s σ H x y v u Q I rx ry q hs
theorem Dr {r:R2} (hr:At X r) (ha:PE X a ta) (hb:PE X b tb) (hs:u0 b):PE X (.Subscript a b pos) (DV r ta tb):=by
  intro pins s σ H Q I h;exact Subscript_ (CO ha hb I h fun v u s2 x y H2 I2 rx ry q=>hr a b pins s2 σ H2 x y v u Q I2 rx ry q (hs _ _))
noncomputable def DY (K:PySem.W.Frag):R2:=fun x y H Q=>∃ p xs i v,x=.ref p/\y=.int i/\nk K H p xs/\atI xs i=some v/\Q v H
noncomputable def D9 (K:PySem.W.Frag):R2:=fun x y H Q=>∃ p xs i v,x=.ref p/\y=.int i/\eP K H p xs/\atI xs i=some v/\Q v H
noncomputable def Dq:R2:=fun x y H Q=>∃ z i c,x=.str z/\y=.int i/\z.length<=sizeLine/\atI z.cps.toList i=some c/\Q (.str ⟨#[c]⟩) H
theorem Ad:At X (DY X.K):=by
  intro value slice pins s σ H x y v u Q I rx ry h hs;obtain ⟨p,xs,i,z,rfl,rfl,hq,he,q⟩:=h;cases rx;obtain ⟨t,rfl⟩:=ry;obtain ⟨its,r,pl,hz⟩:=I.list hq;obtain ⟨j,h1,h2,h3,h4,h5⟩:=qd he;obtain ⟨w,ew,rw'⟩:=r.get h2;have hl:=r.length;have hn:=lP;have fin:EP X pins σ Q w s:=⟨z,H,I,rw',q⟩
  by_cases h0:0<=i
  · have hj:i.toNat=j:=by
      rw [seqIndex_of h0 h5] at h1;exact Option.some.inj h1
    exact item_listR pl.isList h0 (by omega) (by rw [hj];simpa using ew) fin hs
  · have hj:(i+(its.toArray.size:Int)).toNat=j:=by
      rw [seqIndex_neg (by omega) h4] at h1;rw [List.size_toArray,<- hl];exact Option.some.inj h1
    exact subscriptTail_builtinR (x:=w) pl.isList.typeIs slot_list_getitem.lookup
      (wpAny_getItem_list_neg (Q:=fun r s'=>r=w/\EP X pins σ Q r s') pl.isList (by omega) (by rw [List.size_toArray] <;> omega) (by omega) (by rw [hj];simpa using ew) ⟨rfl,fin⟩) hs
theorem B5:At X (D9 X.K):=by
  intro value slice pins s σ H x y v u Q I rx ry h hs;obtain ⟨p,xs,i,z,rfl,rfl,hq,he,q⟩:=h;cases rx;obtain ⟨t,rfl⟩:=ry;obtain ⟨its,r,pl,hz⟩:=I.tuple hq;obtain ⟨j,h1,h2,h3,h4,h5⟩:=qd he;obtain ⟨w,ew,rw'⟩:=r.get h2;have hl:=r.length;have hn:=lP;have fin:EP X pins σ Q w s:=⟨z,H,I,rw',q⟩
  exact subscriptTail_builtinR (x:=w) pl.typeIs slot_tuple_getitem.lookup
    (getItem_tuple (j:=j) (Q:=fun r s'=>r=w/\EP X pins σ Q r s') pl (by omega) (by omega) (by rw [List.size_toArray,<- hl];exact h1) (by simpa using ew) ⟨rfl,fin⟩) hs
theorem CJ:At X Dq:=by
  intro value slice pins s σ H x y v u Q I rx ry h hs;obtain ⟨z,i,c,rfl,rfl,hz,he,q⟩:=h;obtain ⟨t,rfl⟩:=rx;obtain ⟨t',rfl⟩:=ry;obtain ⟨j,h1,h2,h3,h4,h5⟩:=qd he;have hl:z.cps.toList.length=z.length:=by simp [Str.length]
  rw [hl] at h1 h4 h5;have hn:=lP;exact tail_any (typeIs_str s z t) slot_str_getitem.lookup (getItem_str (c:=c) (by
    have e1:decide (i < -(2 ^ 63:Int))=false:=decide_eq_false (by omega);have e2:decide (i>=2 ^ 63)=false:=decide_eq_false (by omega);rw [e1,e2,Bool.or_false]) (by rw [h1];simpa using h2) ⟨.str ⟨#[c]⟩,H,I.tok _,⟨_,rfl⟩,q⟩) hs
theorem tj (its:List Value) (n j:Nat) (u:Value):Obj.mapSeq (·.setIfInBounds j u) { cls:=.type "list",data:=.seq its.toArray n }={ cls:=.type "list",data:=.seq (its.set j u).toArray n }:=by
  simp [Obj.mapSeq]
theorem aP.lst {pins:List (Addr×Obj)} {σ:St} {H:Hp} {s:Shared} {p:Addr} {xs:List V} (I:aP X pins σ H s) (h:H p=some (.lst xs)) :
    ∃ (its:List Value) (n:Nat),bA xs its/\s.heap.get? p=some { cls:=.type "list",data:=.seq its.toArray n }/\xs.length<=sizeLine:=by
  obtain ⟨z,its,n,r,e⟩:=I.hok p _ h;exact ⟨its,n,r,e,z⟩
theorem aP.lstUpd {pins:List (Addr×Obj)} {σ:St} {H:Hp} {s:Shared} {p:Addr} {xs ys:List V} {its its':List Value} {n n':Nat} {f:Obj->Obj} (I:aP X pins σ H s) (h:H p=some (.lst xs))
    (ho:s.heap.get? p=some { cls:=.type "list",data:=.seq its.toArray n }) (hf:f { cls:=.type "list",data:=.seq its.toArray n }={ cls:=.type "list",data:=.seq its'.toArray n' }) (r:bA ys its') (hz:ys.length<=sizeLine) (t:Nat) :
    aP X pins σ (cw H p (.lst ys)) { s with heap:=s.heap.update p f,toks:=t }:=by
  have e:(s.heap.update p f).get? p=some { cls:=.type "list",data:=.seq its'.toArray n' }:=by
    rw [Heap.get?_update_self f ho (by rw [hf] <;> rfl),hf]
  refine I.write (x:=p) (e:=p) (by rw [h];trivial) (.inl rfl) (fun b u hb q=>(Heap.get?_update_other _ _ (Ne.symm hb)).trans q) ⟨_,e⟩ ?_;exact ⟨hz,its',n',r,e⟩
noncomputable def EB:V->V->V->Hp->(Hp->Prop)->Prop:=fun o i v H Q=>∃ p xs k j,o=.ref p/\i=.int k/\H p=some (.lst xs)/\vb xs.length k=some j/\Q (cw H p (.lst (xs.set j v)))
theorem yg:D6 X EB:=by
  intro pins s σ H o i v ov iv u Q I ro ri rv h;obtain ⟨p,xs,k,j,rfl,rfl,hp,hj,q⟩:=h;cases ro;obtain ⟨t,rfl⟩:=ri;obtain ⟨its,n,r,ho,hz⟩:=I.lst hp;obtain ⟨h1,h2,h3,h4⟩:=vI hj;have hl:=r.length;have hn:=lP;have I':aP X pins σ (cw H p (.lst (xs.set j v))) { s with heap:=s.heap.update p (Obj.mapSeq (·.setIfInBounds j u)) } :=
    I.lstUpd hp ho (tj its n j u) (r.set rv j) (by rw [List.length_set];exact hz) s.toks
  by_cases h0:0<=k
  · have hk:k.toNat=j:=by
      rw [seqIndex_of h0 h4] at h1;exact Option.some.inj h1
    exact PySem.W.ki_setAt ho h0 (by omega) (by rw [List.size_toArray,<- hl];exact h4) (by rw [hk];exact ⟨_,I',q⟩)
  · have hk:(k+(its.toArray.size:Int)).toNat=j:=by
      rw [seqIndex_neg (by omega) h3] at h1;rw [List.size_toArray,<- hl];exact Option.some.inj h1
    exact PySem.W.ki_setBack ho (by omega) (by rw [List.size_toArray,<- hl];exact h3) (by omega) (by rw [hk];exact ⟨_,I',q⟩)
theorem qY (lo hi:Option Int) (n:Nat):(sliceBounds lo hi none n).1=((HT.sIx n 0 lo:Nat):Int)/\(sliceBounds lo hi none n).2.1=((HT.sIx n n hi:Nat):Int)/\(sliceBounds lo hi none n).2.2=1:=by
  refine ⟨?_,?_,rfl⟩
  · cases lo with
    | none=>simp [sliceBounds,HT.sIx]
    | some i =>
      simp only [sliceBounds,HT.sIx,Option.getD_none,show (1:Int) > 0 by decide,if_true];by_cases h:i < 0
      · simp only [h,if_true] <;> omega
      · simp only [h,if_false] <;> omega
  · cases hi with
    | none=>simp [sliceBounds,HT.sIx]
    | some i =>
      simp only [sliceBounds,HT.sIx,Option.getD_none,show (1:Int) > 0 by decide,if_true];by_cases h:i < 0
      · simp only [h,if_true] <;> omega
      · simp only [h,if_false] <;> omega
theorem pb (its:List Value) (lo hi:Option Int):slicePick its.toArray lo hi none=((its.drop (HT.sIx its.length 0 lo)).take (HT.sIx its.length its.length hi-HT.sIx its.length 0 lo)).toArray:=by
  obtain ⟨h1,h2,h3⟩:=qY lo hi its.toArray.size;unfold slicePick;rw [h1,h2,h3];simp only [sliceRange_one,pick_run,List.size_toArray] <;> rfl
noncomputable def E5 (K:PySem.W.Frag):V->Option Int->Option Int->Hp->VK->Prop:=fun x lo hi H Q=>∃ a xs,x=.ref a/\nk K H a xs/\∀ p,H p=none->Q (.ref p) (cw H p (.lst (rh xs lo hi)))
theorem Ar:Ap X (E5 X.K):=by
  intro pins s σ H x v vl vu lo hi sl Q I rx hs pl pu h;obtain ⟨a,xs,rfl,hx,q⟩:=h;cases rx;obtain ⟨its,r,ht,hz⟩:=I.list hx;have hlen:=r.length;refine ⟨"list",_,slot_list_getitem.lookup,ht.isList.typeIs,?_⟩;refine wpAny_getItem_list_slice ht.isList hs pl pu .none (by simp) ?_ (by rw [List.size_toArray] <;> omega);rw [pb,<- hlen];refine ⟨.ref s.heap.objs.size,_,I.laid (t':=s.toks) (o:=.lst (rh xs lo hi)) (fun b ob q=>Heap.get?_push_of_some _ q) (Nat.le_refl _) ?_,rfl,q _ (I.hok.fresh (Nat.le_refl _))⟩;exact ⟨Nat.le_trans (mB xs lo hi) hz,_,0,(r.drop (HT.sIx xs.length 0 lo)).take (HT.sIx xs.length xs.length hi-HT.sIx xs.length 0 lo),Heap.get?_push_size _ rfl⟩
theorem qh:dW X (.builtin "len") (fun xs H Q=>∃ p ys,xs=[.ref p]/\(nk X.K H p ys\/eP X.K H p ys)/\Q (.int ys.length) H):=by
  intro pins s σ H xs us Q I r h;obtain ⟨p,ys,rfl,hq,q⟩:=h;obtain ⟨u,rfl,rx⟩:=gH r;cases rx;have hn:=lP;rcases hq with hq | hq
  · obtain ⟨its,r',pl,hz⟩:=I.list hq;have hlen:=r'.length;exact Calls.call_len_list pl.isList (by simp only [List.size_toArray] <;> omega) ⟨.int ys.length,H,I.tok _,⟨s.toks+1,by rw [List.size_toArray,hlen]⟩,q⟩
  · obtain ⟨its,r',pl,hz⟩:=I.tuple hq;have hlen:=r'.length;exact len_tuple pl (by simp only [List.size_toArray] <;> omega) ⟨.int ys.length,H,I.tok _,⟨s.toks+1,by rw [List.size_toArray,hlen]⟩,q⟩
theorem qA:dW X (.builtin "len") (fun xs H Q=>∃ z,xs=[.str z]/\z.length<=sizeLine/\Q (.int z.length) H):=by
  intro pins s σ H xs us Q I r h;obtain ⟨z,rfl,hz,q⟩:=h;obtain ⟨u,rfl,t,rfl⟩:=gH r;have hn:=lP;exact len_str (by omega) ⟨.int z.length,H,I.tok _,⟨_,rfl⟩,q⟩
theorem dW.or {f:Value} {r r':List V->Hp->VK->Prop} (h:dW X f r) (h':dW X f r'):dW X f (fun xs H Q=>r xs H Q\/r' xs H Q):=by
  intro pins s σ H xs us Q I rs q;rcases q with q | q
  · exact h pins s σ H xs us Q I rs q
  · exact h' pins s σ H xs us Q I rs q
theorem qC:dW X (.type "list") (fun xs H Q=>∃ p ys,xs=[.ref p]/\(nk X.K H p ys\/eP X.K H p ys)/\∀ l,H l=none->Q (.ref l) (cw H l (.lst ys))):=by
  intro pins s σ H xs us Q I r h;obtain ⟨p,ys,rfl,hq,q⟩:=h;obtain ⟨u,rfl,rx⟩:=gH r;cases rx;have fin:∀ (its:List Value),bA ys its->ys.length<=sizeLine->∀ (h':Heap) (c':Nat),(∀ b o',s.heap.get? b=some o'->h'.get? b=some o') ->
      h'.get? s.heap.objs.size=some { cls:=.type "list",dict:=none,data:=.seq its.toArray c',slots:=#[] }->EP X pins σ Q (.ref s.heap.objs.size) { s with heap:=h' }:=fun its r' hz h' c' kp e =>
    ⟨.ref s.heap.objs.size,_,I.laid (t':=s.toks) kp (Nat.le_refl _) (show bS X.prog X.w _ h' _ (.lst ys) from ⟨hz,its,c',r',e⟩),rfl,q _ (I.hok.fresh (Nat.le_refl _))⟩
  rcases hq with hq | hq
  · obtain ⟨its,r',pl,hz⟩:=I.list hq;have hlen:=r'.length;obtain ⟨o,ho,hc,n,hd⟩:=pl.isList;exact call_list_seq p (.inl rfl) ho hc hd (fun h' c' kp e=>fin its r' hz h' c' kp e) (by simp only [List.size_toArray] <;> omega)
  · obtain ⟨its,r',pl,hz⟩:=I.tuple hq;have hlen:=r'.length;obtain ⟨o,ho,hc,n,hd⟩:=pl;exact call_list_seq p (.inr rfl) ho hc hd (fun h' c' kp e=>fin its r' hz h' c' kp e) (by simp only [List.size_toArray] <;> omega)
theorem ph:dW X (.type "tuple") (fun xs H Q=>∃ p ys,xs=[.ref p]/\((nk X.K H p ys/\∀ l,H l=none->Q (.ref l) (cw H l (.tup ys)))\/(eP X.K H p ys/\Q (.ref p) H))):=by
  intro pins s σ H xs us Q I r h;obtain ⟨p,ys,rfl,h⟩:=h;obtain ⟨u,rfl,rx⟩:=gH r;cases rx;rcases h with ⟨hq,q⟩ | ⟨hq,q⟩
  · obtain ⟨its,r',pl,hz⟩:=I.list hq;have hlen:=r'.length;refine call_tuple_list pl.isList (fun h' kp=>?_) (by simp only [List.size_toArray] <;> omega);have I1:aP X pins σ H { s with heap:=h' }:=I.kept (t':=s.toks) kp;have I2:aP X pins σ (cw H h'.objs.size (.tup ys)) { s with heap:=h'.push { cls:=.type "tuple",data:=.seq its.toArray } } :=
      I1.laid (t':=s.toks) (fun b o e=>Heap.get?_push_of_some _ e) (Nat.le_refl _) (show bS X.prog X.w _ _ _ (.tup ys) from ⟨hz,its,r',IsTup.new _ _⟩)
    exact ⟨.ref h'.objs.size,_,I2,rfl,q _ (I1.hok.fresh (Nat.le_refl _))⟩
  · obtain ⟨its,r',pl,hz⟩:=I.tuple hq;exact call_tuple_same pl ⟨.ref p,H,I,rfl,q⟩
noncomputable def FO (K:PySem.W.Frag) (T:String) (x:V) (H:Hp):Prop:=match x with
  | .str _=>T = "str"
  | .int _=>T = "int"
  | .ref p=>(T = "list" /\ ∃ xs,nk K H p xs)\/(T = "tuple" /\ ∃ o,K.lookup p=some o/\o.cls=.type "tuple" /\ o.dict=none) \/
      (T = "dict" /\ ((∃ kvs,H p=some (.dK kvs))\/∃ kvs,H p=some (.dT kvs)))\/(T = "set" /\ ∃ S n,H p=some (.set S n))
  | _=>False
theorem CN {pins:List (Addr×Obj)} {σ:St} {H:Hp} {s:Shared} {T:String} {x:V} {v:Value} (I:aP X pins σ H s) (r:bD x v) (ty:FO X.K T x H) :
    s.TypeIs v T/\∀ a,v=.ref a->∃ ob,s.heap.get? a=some ob/\ob.dict=none:=by
  cases x with
  | str z =>
    obtain ⟨t,rfl⟩:=r;cases (show T = "str" from ty);exact ⟨typeIs_str s z t,fun _ e=>nomatch e⟩
  | int i =>
    obtain ⟨t,rfl⟩:=r;cases (show T = "int" from ty);exact ⟨typeIs_int s i t,fun _ e=>nomatch e⟩
  | ref p =>
    cases r;rcases ty with ⟨rfl,xs,hq⟩ | ⟨rfl,o,hk,hc,hd⟩ | ⟨rfl,hk⟩ | ⟨rfl,S,n,hk⟩
    · obtain ⟨its,_,pl,_⟩:=I.list hq;refine ⟨pl.isList.typeIs,fun a e=>?_⟩;cases e;obtain ⟨o,n,e,c,hd,_⟩:=pl;exact ⟨o,e,hd⟩
    · refine ⟨⟨o,I.kIn p o hk,hc⟩,fun a e=>?_⟩;cases e;exact ⟨o,I.kIn _ o hk,hd⟩
    · have z:∃ o,s.heap.get? p=some o/\o.ExactDict:=by
        rcases hk with ⟨kvs,hk⟩ | ⟨kvs,hk⟩
        · obtain ⟨_,_,_,_,o,_,_,e,ex,_⟩:=I.hok p _ hk;exact ⟨o,e,ex⟩
        · obtain ⟨_,_,_,_,o,_,_,e,ex,_⟩:=I.hok p _ hk;exact ⟨o,e,ex⟩
      obtain ⟨o,e,ex⟩:=z;refine ⟨⟨o,e,ex.1⟩,fun a e2=>?_⟩;cases e2;exact ⟨o,e,ex.2.1⟩
    · obtain ⟨o,_,_,_,e,ex,_⟩:=I.hok p _ hk;refine ⟨⟨o,e,ex.1⟩,fun a e2=>?_⟩;cases e2;exact ⟨o,e,ex.2.1⟩
  | _=>exact False.elim ty
noncomputable def F1 (K:PySem.W.Frag) (T:String) (r:V->List V->Hp->VK->Prop) (to:TE) (t:TA):TE:=fun σ H Q=>to σ H fun x H1=>FO K T x H1/\t σ H1 fun xs H2=>r x xs H2 Q
variable {o e:Expr} {es:List Expr} {to:TE} {t:TA} {name:Str} {apos cpos:Pos} {T id:String} {r:V->List V->Hp->VK->Prop}
theorem Br (pa:PlainAttrs T) (slot:Slot T name id) (hty:typeOf (.builtin id)=pure (.type "method_descriptor")) (hm:FR X id r) (ho:PE X o to) (ha:PA X (e::es) t)
    (hbase:attributeBase o name X.env (eval o X.env)=eval o X.env:=by rfl)
    (hfew:((backTo cpos (starEach (e::es) X.env)).all (fun x=>!x.1)&&(backToKw cpos (keywordEach [] X.env)).all (fun x=>x.1.isSome)
      && decide ((e::es).length+([]:List Keyword).length+(if ([]:List Keyword).isEmpty then 0 else 1) < 30))=true:=by rfl)
    (hline:(apos.endLine==cpos.line)=true:=by rfl) (hs:starEach (e::es) X.env=(false,eval e X.env)::starEach es X.env:=by rfl) (hplain:(backTo cpos (starEach es X.env)).any (·.1)=false:=by rfl) :
    PE X (.Call (.Attribute o name apos) (e::es) [] cpos) (F1 X.K T r to t):=by
  intro pins s σ H Q I h;refine wpAny_Call_method_late hbase hfew hline rfl (dg (ho pins s σ H _ I h) fun v s1 ⟨x,H1,I1,r1,ty,q1⟩=>?_);obtain ⟨h1,h2⟩:=CN I1 r1 ty;refine ⟨T,id,pa,slot,hty,h1,h2,?_⟩;have hA:=ha cpos pins s1 σ H1 _ I1 q1;rw [hs] at hA ⊢;refine Calls.callWith_builtin (by show (false||(backTo cpos (starEach es X.env)).any (·.1))=false;rw [hplain] <;> rfl) (Calls.evalArgs_plain ?_);exact dg hA fun us s2 ⟨vs,H2,I2,r2,q2⟩=>hm pins s2 σ H2 x vs v us Q I2 r1 r2 q2
end
noncomputable def F2 (X:Cx) (id:String) (r:V->List V->Hp->VK->Prop):Prop :=
  ∀ (pins:List (Addr×Obj)) (s:Shared) (σ:St) (H:Hp) (x:V) (xs:List V) (v:Value) (us:List Value) (Q:VK),aP X pins σ H s->bD x v->bA xs us->r x xs H Q ->
    wpAny (model X.prog X.w) X.A (call (.builtin id) (v::us)) (EP X pins σ Q) X.xe s
theorem bA.one:∀ {x:V} {us:List Value},bA [x] us->∃ u,us=[u]/\bD x u
  | _,_,.cons r .nil=>⟨_,rfl,r⟩
theorem bA.rep {xs:List V} {us:List Value} (h:bA xs us):∀ k:Nat,bA (List.replicate k xs).flatten (List.replicate k us).flatten
  | 0=>.nil
  | k+1=>by
    rw [List.replicate_succ,List.replicate_succ,List.flatten_cons,List.flatten_cons];exact bA.append h (bA.rep h k)
theorem pB (its:List Value):∀ (k:Nat) (acc:List Value),
    List.foldl (fun x1 x2=>x1++x2) acc.toArray (List.replicate k its.toArray)=(acc++(List.replicate k its).flatten).toArray
  | 0,acc=>by simp
  | k+1,acc=>by
    have e:acc.toArray++its.toArray=(acc++its).toArray:=by simp
    have e2:(acc++its)++(List.replicate k its).flatten=acc++(List.replicate (k+1) its).flatten:=by
      rw [List.replicate_succ,List.flatten_cons,List.append_assoc]
    rw [<- e2,<- pB its k (acc++its),<- e,List.replicate_succ,List.foldl_cons]
section
variable {X:Cx} {pins:List (Addr×Obj)} {σ:St} {H:Hp} {s:Shared} {l b:Addr} {xs ys zs:List V}
theorem aP.lset {its its':List Value} {n:Nat} {f:Array Value->Array Value} {t':Nat} (I:aP X pins σ H s) (hH:H l=some (.lst xs))
    (e:s.heap.get? l=some { cls:=.type "list",data:=.seq its.toArray n }) (hf:f its.toArray=its'.toArray) (hv:bA ys its') (hz:ys.length<=sizeLine) :
    aP X pins σ (cw H l (.lst ys)) { s with heap:=s.heap.update l (Obj.mapSeq f),toks:=t' }:=by
  have q:=PySem.IsL.update e f;rw [hf] at q;refine I.write (x:=l) (e:=l) (by rw [hH];exact trivial) (.inl rfl) (fun b' u hb hu=>(Heap.get?_update_other s.heap (Obj.mapSeq f) (Ne.symm hb)).trans hu) ⟨_,q⟩ ?_;exact ⟨hz,its',_,hv,q⟩
theorem aP.lnew {its:List Value} {t':Nat} (I:aP X pins σ H s) (hv:bA ys its) (hz:ys.length<=sizeLine) :
    aP X pins σ (cw H s.heap.objs.size (.lst ys)) { s with heap:=s.heap.push { cls:=.type "list",data:=.seq its.toArray },toks:=t' } :=
  I.laid (fun _ _ q=>Heap.get?_push_of_some _ q) (Nat.le_refl _) ⟨hz,its,0,hv,Heap.get?_push_size _ rfl⟩
theorem aP.fresh (I:aP X pins σ H s):H s.heap.objs.size=none:=I.hok.fresh (Nat.le_refl _)
theorem aP.lstM (I:aP X pins σ H s) (hH:H l=some (.lst xs)):xs.length<=sizeLine/\∃ (its:List Value) (n:Nat),bA xs its/\xs.length=its.length/\s.heap.get? l=some { cls:=.type "list",data:=.seq its.toArray n }:=by
  obtain ⟨z,its,n,r,e⟩:=I.hok l _ hH;exact ⟨z,its,n,r,r.length,e⟩
end
section
variable {X:Cx}
noncomputable def Am:V->List V->Hp->VK->Prop:=fun x vs H Q=>∃ l xs y,x=.ref l/\vs=[y]/\H l=some (.lst xs)/\xs.length < sizeLine/\Q .non (cw H l (.lst (xs++[y])))
theorem pG:F2 X "list.append" Am:=by
  intro pins s σ H x vs v us Q I rx rv h;obtain ⟨l,xs,y,rfl,rfl,hH,hz,q⟩:=h;cases rx;obtain ⟨u,rfl,ru⟩:=rv.one;obtain ⟨z,its,n,r,hl,e⟩:=I.lstM hH;refine call_meets F.slot_list_append ⟨_,e,rfl⟩ F.entry_list_append (F.args_list_append_2 _ _) (PySem.list_append l its.toArray n u (by rw [List.size_toArray];omega)) ⟨e,?_⟩;refine ⟨.non,_,I.lset (its':=its++[u]) hH e (by simp) (r.append (.cons ru .nil)) ?_,rfl,q⟩;rw [List.length_append,List.length_singleton];omega
theorem vK {α:Type} (xs:List α) (k:Nat):(List.replicate k xs).flatten.length=k*xs.length:=by
  induction k with
  | zero=>simp
  | succ k ih=>rw [List.replicate_succ,List.flatten_cons,List.length_append,ih,Nat.succ_mul,Nat.add_comm]
end
end L2
namespace Att
open PySem PySem.W PySem.Calls PyProof.Rows
theorem mQ {P:Params} {h:Heap}:∀ (ns:List Int) (vs:List Value),WellAll P h vs (ns.map WData.int)->IntsAre vs ns:=by
  intro ns;induction ns with
  | nil =>
    intro vs w;rw [List.map_nil] at w;cases w;exact .nil
  | cons n ns ih =>
    intro vs w;rw [List.map_cons] at w;cases w with
    | cons a b =>
      cases a;exact .cons _ _ (ih _ b)
theorem wM {l:OpenLaw} {n:Nat} (hn:l.most=some n) {P:Params} {h:Heap} {args:List WData} {vals:List Value}
    (hpre:l.row.toRowW.claim.pre args=true) (hwl:WellAll P h vals args) :
    ∃ a vs ns,vals=[Value.ref a]/\args=[WData.list (ns.map WData.int)]/\h.get? a=some { cls:=.type "list",data:=.seq vs.toArray }/\IntsAre vs ns/\ns.length<=n:=by
  have hsh:WShape.hasAll [] args [.list .int]=true:=(pre_splitW hpre).1;have hc:l.pre.holds [] { args:=args }=true:=(pre_splitW hpre).2;obtain ⟨d,r,rfl,h1,h2⟩:=hasAllW_cons hsh;obtain rfl:=hasAllW_nil h2;obtain ⟨xs,rfl,h3⟩:=hasW_list h1;obtain ⟨ns,rfl⟩:=items_int h3;have hlen:ns.length<=n:=by
    unfold OpenLaw.pre at hc;have h4:(WTm.not (.lt (.lit (.int (n:Int))) (.len (.arg 0)))).holds [] { args:=[.list (ns.map .int)] }=true:=by
      have h4:=(holds_andW hc).1;rw [hn] at h4;exact h4
    have h5:=condW_of h4 (w_not (w_lt w_lit (w_len_list (w_arg rfl))));rw [List.length_map] at h5;refine Nat.le_of_not_lt fun q=>?_
    have q':(n:Int) < ((ns.length:Nat):Int):=by omega
    first
      | (rw [decide_eq_true q'] at h5;exact absurd h5 (by decide))
      | (simp at h5;omega)
  cases hwl with
  | cons w1 w2 =>
    cases w2;cases w1 with
    | list ho hall=>exact ⟨_,_,ns,rfl,rfl,ho,mQ ns _ hall,hlen⟩
theorem vS (l:OpenLaw) (args:List WData):l.row.toRowW.claim.post args (.bool true) args=true :=
  postW_of (r:=l.row.toRowW) (X:=(true==true))
    (show WShape.has [] (.bool true) .bool=true by first | rfl | decide | simp [WShape.has,WShape.arms,WShape.armsAll])
    (show (WTm.eq .res (.lit (.bool true))).value [] { args:=args,res:=some (.bool true),after:=args }=some (.bool (true==true)) from w_eq_bool (w_res rfl) w_lit) rfl
theorem attach_call {l:OpenLaw} {n:Nat} {q:Program} {loose:List Str} {XP:(Str->Option Value)->Heap->Prop} {YP:World->Heap->Prop} {d:DefRec}
    (hn:l.most=some n) (hdf:d.params.defaults=[])
    (call:∀ (w:World) (s₀ s₁:Shared) (mg mb:Str->Option Value) (fa:Addr) (o:Obj) (pm cd doc:Value) (a:Addr) (vs:List Value) (ns:List Int),
      Ground q loose [] XP w s₀ mg mb s₁.heap->YP w s₁.heap ->
      s₁.heap.get? fa=some o->o.data=.func (docDef d.name d.params d.body d.scope pm cd doc)->s₁.heap.CodeRec cd d.name->mg d.name=some (.ref fa) ->
      s₁.heap.get? a=some { cls:=.type "list",data:=.seq vs.toArray }->IntsAre vs ns->ns.length<=n->s₁.gens=#[] ->
      codeAny (model l.prog w) callerA (.call (.ref fa) ⟨[.ref a],[]⟩) (fun r s'=>r=.ok (.ret (.bool true))/\OldK s₁.heap s'.heap/\s'.os=s₁.os/\AllBare s'.gens) s₁) :
    WalkO q loose XP YP l.row.toRowW d [] (fun f vs=>PySem.call f vs):=by
  intro w s₀ s₁ mg mb G Y fa o pm cd doc dV kV ho hd hcd hD hmg hg args vals as hpre hlay hrd hwl hlo;obtain rfl:dV=.none:=Dflts.none hD hdf;obtain rfl:kV=.none:=Dflts.noKw hD;obtain ⟨a,vs,ns,rfl,rfl,hobj,hints,hlen⟩:=wM hn hpre hwl;refine enter_call (codeAny_mono (call w s₀ s₁ mg mb fa o pm cd doc a vs ns G Y ho (fd_plain hd) hcd hmg hobj hints hlen hg) fun r s' hq=>?_);obtain ⟨rfl,h2,h3,h4⟩:=hq;exact ⟨.inl ⟨.bool true,.bool true,[],rfl,fun _=>rfl,.bool true,vS l _,fun _=>⟨List.Pairwise.nil,fun _ hm=>(nomatch hm)⟩⟩,h2,h3,h4⟩
end Att
namespace L2
open PySem PySem.Spec PyProof.Rows
theorem jO:∀ {vs:List Value} {ns:List Int},IntsAre vs ns->bA (ns.map V.int) vs
  | _,_,.nil=>.nil
  | _,_,.cons n t h=>.cons ⟨t,rfl⟩ (jO h)
noncomputable def D8 (H:Hp):Prop:=∀ b,H b=none\/∃ o xs,H b=some (.frz o (.lst xs))
theorem zG {P:Program} {w:World} {K:PySem.W.Frag} {mg mb:Str->Option Value} {CX:xo} {k:Nat} {fa a:Addr} {fd:FuncData} {x:Str} {sp:Sp} {s₁:Shared} {vs:List Value} {ns:List Int}
    (KX:K.In s₁.heap) (hns:s₁.heap.Ns mainGlobals mg) (hb:s₁.heap.Ns builtinsNs mb) (hbb:∀ x:Str,x ≠ "__name__" -> mb x=bootBuiltins x) (hlim:s₁.heap.NoLimit) (hg:s₁.gens=#[])
    (ha:s₁.heap.get? a=some { cls:=.type "list",data:=.seq vs.toArray }) (hi:IntsAre vs ns) (hl:ns.length<=sizeLine) (hr:fx k callerA)
    (F:∀ base:Heap,K.In base->base.Ns mainGlobals mg->bg P w K mg base CX k fa fd [x] sp) (hbind:∀ (s:Shared) (u:Value),BindsTo s fd ⟨[u],[]⟩ [(x,u)])
    (hsp:∀ H:Hp,D8 H->nk K H a (ns.map V.int)->sp [.ref a] H (fun v _=>v=.bl true) fun _ _ _=>False)
    (hCX:∀ H e s',CX [] H s₁ (fun _ _ _=>False) e s'->False) :
    codeAny (model P w) callerA (.call (.ref fa) ⟨[.ref a],[]⟩) (fun r s'=>r=.ok (.ret (.bool true))/\OldK s₁.heap s'.heap/\s'.os=s₁.os/\AllBare s'.gens) s₁:=by
  have rv:=jO hi;have lenV:=hi.length
  -- from an abstract heap in which nothing but the script may be tracked
  have core:∀ H:Hp,D8 H->nk K H a (ns.map V.int)->iB P w H s₁.heap->(∀ b,H b≠none->b=a)->(H a≠none->K.lookup a=none) ->
      codeAny (model P w) callerA (.call (.ref fa) ⟨[.ref a],[]⟩) (fun r s'=>r=.ok (.ret (.bool true))/\OldK s₁.heap s'.heap/\s'.os=s₁.os/\AllBare s'.gens) s₁:=by
    intro H hO hS hok hA hK;have base_of:∀ {b:Addr} {o:Obj},s₁.heap.get? b=some o->H b=none->(qN s₁.heap H).get? b=some o:=fun e n=>zE e n
    have noA:∀ {b:Addr} {o:Obj} {es:Array DictEntry} {ep:Nat},s₁.heap.get? b=some o->o.data=.dict es ep->H b=none:=fun {b o es ep} e d=>by
      cases q:H b with
      | none=>rfl
      | some u =>
        have e':b=a:=hA b (by rw [q];simp);subst e';rw [ha] at e;cases e;have d':Data.seq vs.toArray _=Data.dict es ep:=d;cases d'
    have nsK:∀ {b:Addr} {m:Str->Option Value},s₁.heap.Ns b m->(qN s₁.heap H).Ns b m:=fun {b m} ⟨o,es,ep,e,d,r⟩=>⟨o,es,ep,base_of e (noA e d),d,r⟩
    have hKb:K.In (qN s₁.heap H):=fun b o e=>base_of (KX b o e) (by
      cases q:H b with
      | none=>rfl
      | some u =>
        have e':b=a:=hA b (by rw [q];simp);subst e';rw [hK (by rw [q];simp)] at e;cases e)
    have hM:Mod K mg (qN s₁.heap H):=⟨hKb,nsK hns,⟨mb,nsK hb,hbb⟩,let ⟨mc,h1,h2⟩:=hlim;⟨mc,nsK h1,h2⟩⟩
    have e0:tL P w K mg (qN s₁.heap H) callerA [] s₁ H:=⟨rfl,hM,fun b o e=>AC e,Nat.le_of_eq (wm _ _),trivial,fun b hb=>absurd (show b∈([]:List Addr) from hb) (by simp),hok,.of_eq hg⟩
    refine codeAny_mono ((F _ hKb (nsK hns)).run callerA [] s₁ H ⟨[.ref a],[]⟩ [.ref a] [.ref a] _ _ hr e0 (hbind s₁ (.ref a)) (.cons rfl .nil) (hsp H hO hS)) fun r s' h=>?_
    cases r with
    | error e=>exact (hCX H e s' h).elim
    | ok fl =>
      cases fl with
      | next=>exact False.elim h
      | brk=>exact False.elim h
      | cont=>exact False.elim h
      | ret u =>
        obtain ⟨v,H',os,bare,un,hok',r',q⟩:=h;have q':v=.bl true:=q;subst q';obtain rfl:u=Value.bool true:=r';refine ⟨rfl,OldK.of_keep fun b o e=>?_,os,bare⟩;cases q:H b with
        | none=>exact un.keep b o e q (by intro z;exact absurd (show b∈([]:List Addr) from z) (by simp)) (by simp)
        | some u =>
          rcases hO b with z | ⟨ob,xs,z⟩
          · rw [q] at z;cases z
          · have z2:=un.frzs b ob _ z;obtain ⟨e1,_⟩:=hok b _ z;obtain ⟨e2,_⟩:=hok' b _ z2;rw [e] at e1;cases e1;exact e2
  cases hk:K.lookup a with
  | some o =>
    -- the script is one of the module's own objects
    have e:=KX a o hk;rw [ha] at e;cases e;refine core (fun _=>none) (fun _=>.inl rfl) (.inr ⟨_,vs.toArray,_,hk,rfl,rfl,rfl,by rw [List.size_toArray,lenV];exact hl,by simpa using rv⟩) (fun b u z=>by have z':(none:Option HO)=some u:=z;cases z') (fun b z=>absurd rfl z) fun z=>absurd rfl z
  | none =>
    refine core (fun b=>if b=a then some (.frz { cls:=.type "list",data:=.seq vs.toArray } (.lst (ns.map V.int))) else none) (fun b=>?_) (.inl (.inr ⟨{ cls:=.type "list",data:=.seq vs.toArray },if_pos rfl⟩)) (fun b u z=>?_) (fun b z=>?_) fun _=>hk
    · by_cases hb:b=a
      · exact .inr ⟨_,_,if_pos hb⟩
      · exact .inl (if_neg hb)
    · by_cases hb:b=a
      · have z':=(if_pos hb).symm.trans z;cases z';subst hb;exact ⟨ha,by rw [List.length_map];exact hl,vs,_,rv,ha⟩
      · have z':=(if_neg hb).symm.trans z;cases z'
    · by_cases hb:b=a
      · exact hb
      · exact absurd (if_neg hb) z
noncomputable def AT (s:Stmt) (j:Nat):Stmt:=match s with
  | .ClassDef _ _ _ body _ _ _ _ _ _ _=>body.getD j (.Pass ⟨0,0,0,0⟩)
  | _=>.Pass ⟨0,0,0,0⟩
noncomputable def dZ (s:Stmt):Arguments:=match s with
  | .FunctionDef _ a _ _ _ _ _ _ _ _=>a
  | _=>{ posonlyargs:=[],args:=[],vararg:=none,kwonlyargs:=[],kw_defaults:=[],kwarg:=none,defaults:=[] }
noncomputable def cV (s:Stmt):List Stmt:=match s with
  | .FunctionDef _ _ b _ _ _ _ _ _ _=>b
  | _=>[]
noncomputable def ai (s:Stmt):Scope:=match s with
  | .FunctionDef _ _ _ _ _ _ sc _ _ _=>sc
  | _=>{ kind:=.function,names:=[],isGenerator:=false,isCoroutine:=false }
noncomputable abbrev FP:xo:=fun _ _ _ _ _ _=>False
structure gN (K:PySem.W.Frag) (x qual:Str) (st:Stmt) (f:Addr) (fd:FuncData):Prop where
  ex:∃ (oc:Value) (od:Option Addr) (kV doc pm:Value) (an:Option Addr) (cdv ct:Value) (osl:Array (Option Value)),
    fd=PySem.W.fnOf x qual (dZ st) (cV st) (ai st) .none kV doc pm an cdv ct/\K.lookup f=some ⟨oc,od,.func fd,osl⟩/\PySem.W.codeIn K cdv qual=true
  kp:PySem.W.keepIn K (.ref f)=true
section
variable {P:Program} {w:World} {K:PySem.W.Frag} {mg:Str->Option Value} {base:Heap}
theorem gN.ok {x qual:Str} {st:Stmt} {f:Addr} {fd:FuncData} {N ps:List Str} {k:Nat} {sp:Sp} (F:gN K x qual st f fd) (S:aV N ps (ai st)) (len:∀ vs H Q E,sp vs H Q E->vs.length=ps.length)
    (hbody:∀ (cdv:Value) (A:Around) (outer:List Env) (s:Shared) (H:Hp) (vs:List V) (Q:VK) (E:XK),fx k (A.deeper (envOfC qual (ai st) s.heap.objs.size f cdv))->sp vs H Q E ->
      ∃ t,qX (fV FP P w K mg base N qual (ai st) f cdv A outer s H E).nox (cV st) t/\t { nx:=fun _ H'=>Q .non H',rt:=Q } (i4 N vs) H):bg P w K mg base FP (k+1) f fd ps sp:=by
  obtain ⟨oc,od,kV,doc,pm,an,cdv,ct,osl,rfl,lk,hcd⟩:=F.ex;refine yl lk hcd S len fun A outer s H vs Q E hr hsp=>?_
  obtain ⟨t,h,q⟩:=hbody cdv A outer s H vs Q E hr hsp;exact ⟨t,h.nox,q⟩
theorem gN.binds {x qual:Str} {st:Stmt} {f:Addr} {fd:FuncData} {ps:List Str} (F:gN K x qual st f fd)
    (h:∀ (kV doc pm:Value) (an:Option Addr) (cdv ct:Value) (us:List Value),us.length=ps.length->bindArgs (PySem.W.fnOf x qual (dZ st) (cV st) (ai st) .none kV doc pm an cdv ct) ⟨us,[]⟩=pure (ps.zip us)):bF K fd ps []:=by
  obtain ⟨oc,od,kV,doc,pm,an,cdv,ct,osl,rfl,lk,hcd⟩:=F.ex;exact .all (h kV doc pm an cdv ct)
theorem uw {x qual:Str} {st:Stmt} {f:Addr} {oc:Value} {od an:Option Addr} {osl:Array (Option Value)} {kV doc pm cdv ct:Value} (l:K.lookup f=some ⟨oc,od,.func (PySem.W.fnOf x qual (dZ st) (cV st) (ai st) .none kV doc pm an cdv ct),osl⟩)
    (c:PySem.W.codeIn K cdv qual=true) (k:PySem.W.keepIn K (.ref f)=true):gN K x qual st f (PySem.W.fnOf x qual (dZ st) (cV st) (ai st) .none kV doc pm an cdv ct):=⟨⟨oc,od,kV,doc,pm,an,cdv,ct,osl,rfl,l,c⟩,k⟩
end
section
variable {X:Cx}
theorem pv (i:Nat) {x:Str} {pos:Pos} (hN:X.N[i]?=some x:=by rfl) (hv:BM X.env.scope x:=by first | exact Or.inl rfl | exact Or.inr (Or.inl rfl) | exact Or.inr (Or.inr rfl)) (hd:(x==("__debug__" : Str))=false:=by decide)
    (hcd:(x==("__classdict__" : Str))=false:=by decide):PE X (.Name x pos) (Ep i):=lY hN hv hd hcd
end
noncomputable def aF (H H':Hp):Prop:=∀ b o,H b=some o->H' b=some o
theorem aF.refl (H:Hp):aF H H:=fun _ _ h=>h
theorem aF.trans {H H1 H2:Hp} (a:aF H H1) (b:aF H1 H2):aF H H2:=fun c o h=>b c o (a c o h)
theorem aF.free {H H':Hp} (e:aF H H') {l:Addr} (h:H' l=Option.none):H l=Option.none:=by
  cases q:H l with
  | none=>rfl
  | some o =>
    rw [e l o q] at h;cases h
section
variable {κ:Type} [DecidableEq κ]
noncomputable def kb (kvs:List (κ×V)) (k:κ):Option V:=(kvs.find? fun kv=>decide (kv.1=k)).map (·.2)
noncomputable def lh (kvs:List (κ×V)) (k:κ) (v:V):List (κ×V) :=
  if (kvs.any fun kv=>decide (kv.1=k))=true then kvs.map (fun kv=>if kv.1=k then (kv.1,v) else kv) else kvs++[(k,v)]
theorem oW {p:κ×V} {r:List (κ×V)} {k:κ} (e:p.1=k):kb (p::r) k=some p.2:=by simp [kb,List.find?_cons,e]
theorem oA {p:κ×V} {r:List (κ×V)} {k:κ} (e:¬ p.1=k):kb (p::r) k=kb r k:=by simp [kb,List.find?_cons,e]
theorem rC (k:κ):∀ kvs:List (κ×V),(kvs.any fun kv=>decide (kv.1=k))=(kb kvs k).isSome
  | []=>rfl
  | p::r=>by
    rw [List.any_cons];by_cases e:p.1=k
    · simp only [oW e,decide_eq_true e,Bool.true_or,Option.isSome_some]
    · rw [oA e,decide_eq_false e,Bool.false_or];exact rC k r
theorem mt (kvs:List (κ×V)) (k:κ) (v:V):(lh kvs k v).length<=kvs.length+1:=by
  unfold lh;split
  · rw [List.length_map];omega
  · rw [List.length_append,List.length_cons,List.length_nil];omega
theorem l4.isSome_eq {o:Option V} {u:Option Value} (r:l4 o u):o.isSome=u.isSome:=by
  cases o with
  | none=>cases u with
    | none=>rfl
    | some _=>exact (show False from r).elim
  | some _=>cases u with
    | none=>exact (show False from r).elim
    | some _=>rfl
theorem KV.val {kvs:List (κ×V)} {vs:List (κ×Value)} (r:KV kvs vs) (k:κ):l4 (kb kvs k) (valueAt vs k):=by
  unfold KV at r;induction r with
  | nil=>exact True.intro
  | @cons p q ps qs h t ih =>
    obtain ⟨h1,h2⟩:=h;by_cases e:p.1=k
    · have e':q.1=k:=h1.symm.trans e;have b:valueAt (q::qs) k=some q.2:=by simp [valueAt,List.find?_cons,e']
      rw [oW e,b];exact h2
    · have e':¬ q.1=k:=fun z=>e (h1.trans z)
      have b:valueAt (q::qs) k=valueAt qs k:=by simp [valueAt,List.find?_cons,e']
      rw [oA e,b];exact ih
theorem KV.any {kvs:List (κ×V)} {vs:List (κ×Value)} (r:KV kvs vs) (k:κ):(kvs.any fun kv=>decide (kv.1=k))=vs.any fun kv=>decide (kv.1=k):=by
  unfold KV at r;induction r with
  | nil=>rfl
  | cons h t ih=>rw [List.any_cons,List.any_cons,ih,h.1]
theorem KV.repl {kvs:List (κ×V)} {vs:List (κ×Value)} (r:KV kvs vs) (k:κ) {y:V} {u:Value} (ry:bD y u) :
    KV (kvs.map fun kv=>if kv.1=k then (kv.1,y) else kv) (vs.map fun kv=>if kv.1=k then (kv.1,u) else kv):=by
  unfold KV at r ⊢;induction r with
  | nil=>exact .nil
  | @cons p q ps qs h t ih =>
    rw [List.map_cons,List.map_cons];refine .cons ?_ ih;obtain ⟨h1,h2⟩:=h;by_cases e:p.1=k
    · rw [if_pos e,if_pos (h1.symm.trans e)];exact ⟨h1,ry⟩
    · rw [if_neg e,if_neg (fun z=>e (h1.trans z))];exact ⟨h1,h2⟩
theorem KV.put {kvs:List (κ×V)} {vs:List (κ×Value)} (r:KV kvs vs) (k:κ) {y:V} {u:Value} (ry:bD y u):KV (lh kvs k y) (stored vs k u):=by
  unfold lh stored;rw [r.any k];by_cases e:(vs.any fun kv=>decide (kv.1=k))=true
  · rw [if_pos e,if_pos e];exact r.repl k ry
  · rw [if_neg e,if_neg e];exact Paired.snoc r ⟨rfl,ry⟩
theorem KV.keys {kvs:List (κ×V)} {vs:List (κ×Value)} (r:KV kvs vs):kvs.map (·.1)=vs.map (·.1):=by
  unfold KV at r;induction r with
  | nil=>rfl
  | cons h t ih=>rw [List.map_cons,List.map_cons,ih,h.1]
theorem KV.length {kvs:List (κ×V)} {vs:List (κ×Value)} (r:KV kvs vs):kvs.length=vs.length:=Paired.length r
end
theorem r9 {P:Program} {w:World} {k:dj} {u:Value} (r:bD (kV k) u):(dn P w).is k u=true:=by
  cases k with
  | inl i=>obtain ⟨t,e⟩:=(show ∃ t,u=Value.int i t from r);subst e;exact rE P w i t
  | inr x=>obtain ⟨t,e⟩:=(show ∃ t,u=Value.str x t from r);subst e;exact sG P w x t
theorem pr {P:Program} {w:World}:∀ {ks:List dj} {us:List Value},bA (ks.map kV) us->ItemsAre (dn P w) ks us
  | [],_,r=>by rw [List.map_nil] at r;cases r;exact .nil
  | k::ks,_,r=>by
    rw [List.map_cons] at r;cases r with
    | cons h t=>exact .cons (r9 h) (pr t)
noncomputable abbrev KT (H:Hp):List (List dj×V)->List (List dj×Addr×Value)->Prop:=Paired fun p q=>p.1=q.1/\H q.2.1=some (.tup (p.1.map kV))/\bD p.2 q.2.2
theorem KT.val {H:Hp} {kvs:List (List dj×V)} {xs:List (List dj×Addr×Value)} (r:KT H kvs xs) (k:List dj):l4 (kb kvs k) ((atKey xs k).map (·.2)):=by
  induction r with
  | nil=>exact True.intro
  | @cons p q ps qs h t ih =>
    obtain ⟨h1,_,h2⟩:=h;by_cases e:p.1=k
    · have e':q.1=k:=h1.symm.trans e;have b:atKey (q::qs) k=some q.2:=by simp [atKey,List.find?_cons,e']
      rw [oW e,b];exact h2
    · have e':¬ q.1=k:=fun z=>e (h1.trans z)
      have b:atKey (q::qs) k=atKey qs k:=by simp [atKey,List.find?_cons,e']
      rw [oA e,b];exact ih
theorem KT.repl {H:Hp} {kvs:List (List dj×V)} {xs:List (List dj×Addr×Value)} (r:KT H kvs xs) (k:List dj) {y:V} {u:Value} (ry:bD y u) :
    KT H (kvs.map fun kv=>if kv.1=k then (kv.1,y) else kv) (xs.map (putAt k u)):=by
  induction r with
  | nil=>exact .nil
  | @cons p q ps qs h t ih =>
    rw [List.map_cons,List.map_cons];refine .cons ?_ ih;obtain ⟨h1,h2,h3⟩:=h;unfold putAt;by_cases e:p.1=k
    · rw [if_pos e,if_pos (h1.symm.trans e)];exact ⟨h1,h2,ry⟩
    · rw [if_neg e,if_neg (fun z=>e (h1.trans z))];exact ⟨h1,h2,h3⟩
theorem KT.put {H:Hp} {kvs:List (List dj×V)} {xs:List (List dj×Addr×Value)} (r:KT H kvs xs) (k:List dj) {b:Addr} {y:V} {u:Value} (hb:H b=some (.tup (k.map kV))) (ry:bD y u) :
    KT H (lh kvs k y) (storedH xs k b u):=by
  have e:(kvs.any fun kv=>decide (kv.1=k))=(atKey xs k).isSome:=by
    rw [rC,(r.val k).isSome_eq,Option.isSome_map]
  unfold lh storedH;rw [e];by_cases q:(atKey xs k).isSome=true
  · rw [if_pos q,if_pos q];exact r.repl k ry
  · rw [if_neg q,if_neg q];exact Paired.snoc r ⟨rfl,hb,ry⟩
theorem KT.keeps {H H':Hp} {kvs:List (List dj×V)} {xs:List (List dj×Addr×Value)} (r:KT H kvs xs) (ht:∀ b ys,H b=some (.tup ys)->H' b=some (.tup ys)):KT H' kvs xs :=
  Paired.mapP r fun _ _ z=>⟨z.1,ht _ _ z.2.1,z.2.2⟩
section
variable {P:Program} {w:World} {H:Hp} {h:Heap} {a:Addr}
theorem Bz {u:HO} (ok:iB P w H h) (e:Rd H a u):bS P w H h a u:=e.ok ok
theorem ox {kvs:List (dj×V)} (ok:iB P w H h) (e:Rd H a (.dK kvs)):kvs.length<=sizeLine/\(a==sysModules)=false/\∃ vs,KV kvs vs/\h.DictOf (dn P w) a vs :=
  show bS P w H h a (.dK kvs) from Bz ok e
theorem DE {kvs:List (dj×V)} (ok:iB P w H h) (e:H a=some (.dK kvs)):kvs.length<=sizeLine/\(a==sysModules)=false/\∃ vs,KV kvs vs/\h.DictOf (dn P w) a vs:=ox ok (.inl e)
theorem nQ {ks:List dj} (ok:iB P w H h) (e:H a=some (.tup (ks.map kV))):(tupleKind (dn P w)).is h ks a:=by
  obtain ⟨_,its,r,o,h1,h2,n,h3⟩:=(show bS P w H h a (.tup (ks.map kV)) from ok a _ e)
  exact ⟨o,its.toArray,n,h1,h2,h3,by simpa using pr r⟩
theorem sK {kvs:List (List dj×V)} (ok:iB P w H h) (e:Rd H a (.dT kvs)):kvs.length<=sizeLine/\(a==sysModules)=false /\
    ∃ xs,KT H kvs xs/\h.DictOfH (tupleKind (dn P w)) a xs:=by
  obtain ⟨z,y,xs,r,o,es,ep,h1,h2,h3,h4,h5⟩:=(show bS P w H h a (.dT kvs) from Bz ok e)
  refine ⟨z,y,xs,r,o,es,ep,h1,h2,h3,h4,fun x hx=>?_,h5⟩;have all:∀ {l:List (List dj×V)} {m:List (List dj×Addr×Value)},KT H l m->∀ x∈m,(tupleKind (dn P w)).is h x.1 x.2.1:=by
    intro l m q;induction q with
    | nil=>intro x hx;exact nomatch hx
    | @cons p q ps qs hq t ih =>
      intro x hx;rcases List.mem_cons.mp hx with e | hx
      · subst e;exact nQ ok (by rw [<- hq.1];exact hq.2.1)
      · exact ih x hx
  exact all r x hx
theorem Eg {kvs:List (List dj×V)} (ok:iB P w H h) (e:H a=some (.dT kvs)):kvs.length<=sizeLine/\(a==sysModules)=false /\
    ∃ xs,KT H kvs xs/\h.DictOfH (tupleKind (dn P w)) a xs:=sK ok (.inl e)
end
noncomputable def oO (H:Hp) (a:Addr) (y:V) (r:Option V):Prop :=
  (∃ kvs k,Rd H a (.dK kvs)/\y=kV k/\r=kb kvs k)\/∃ kvs k b,Rd H a (.dT kvs)/\y=.ref b/\H b=some (.tup (k.map kV))/\r=kb kvs k
noncomputable def tN (H:Hp) (a:Addr) (y v:V) (H':Hp):Prop :=
  (∃ kvs k,H a=some (.dK kvs)/\y=kV k/\kvs.length < sizeLine/\H'=cw H a (.dK (lh kvs k v))) \/
  ∃ kvs k b,H a=some (.dT kvs)/\y=.ref b/\H b=some (.tup (k.map kV))/\kvs.length < sizeLine/\H'=cw H a (.dT (lh kvs k v))
theorem oO.k {H:Hp} {a:Addr} {kvs:List (dj×V)} {k:dj} (e:H a=some (.dK kvs)):oO H a (kV k) (kb kvs k):=.inl ⟨kvs,k,.inl e,rfl,rfl⟩
theorem oO.t {H:Hp} {a b:Addr} {kvs:List (List dj×V)} {k:List dj} (e:H a=some (.dT kvs)) (eb:H b=some (.tup (k.map kV))):oO H a (.ref b) (kb kvs k):=.inr ⟨kvs,k,b,.inl e,rfl,eb,rfl⟩
theorem tN.k {H:Hp} {a:Addr} {kvs:List (dj×V)} {k:dj} {v:V} (e:H a=some (.dK kvs)) (hl:kvs.length < sizeLine):tN H a (kV k) v (cw H a (.dK (lh kvs k v))):=.inl ⟨kvs,k,e,rfl,hl,rfl⟩
theorem tN.t {H:Hp} {a b:Addr} {kvs:List (List dj×V)} {k:List dj} {v:V} (e:H a=some (.dT kvs)) (eb:H b=some (.tup (k.map kV))) (hl:kvs.length < sizeLine) :
    tN H a (.ref b) v (cw H a (.dT (lh kvs k v))):=.inr ⟨kvs,k,b,e,rfl,eb,hl,rfl⟩
section
variable {X:Cx} {pins:List (Addr×Obj)} {σ:St} {H:Hp} {s:Shared} {a:Addr} {y v:V} {u r:Value} {o:Option V} {A:Around} {E:Value->Shared->Prop}
theorem aP.big (I:aP X pins σ H s):sysModules < s.heap.objs.size:=by
  have h:mainGlobals < s.heap.objs.size:=(I.mod.glob.keeps I.bk).lt;exact Nat.lt_trans (by decide) h
theorem w8 {Q:Value->Shared->Prop} (hu:A.units+1 < cLine) (I:aP X pins σ H s) (g:oO H a y (some v)) (ry:bD y u) (h:∀ w' s',aP X pins σ H s'->bD v w'->Q w' s') :
    wpAny (model X.prog X.w) A (getItem (.ref a) u) Q E s:=by
  rcases g with ⟨kvs,k,e,ey,l⟩ | ⟨kvs,k,b,e,ey,eb,l⟩
  · subst ey;obtain ⟨z,hd,vs,rel,dd⟩:=ox I.hok e;obtain ⟨w',hw,rw'⟩:=l4.some_of (v:=v) (o:=valueAt vs k) (by rw [l];exact rel.val k);exact wpAny_getItem_of (r9 ry) dd.mapOf hw (h w' _ (I.tok _) rw')
  · subst ey;cases (show u=Value.ref b from ry);obtain ⟨z,hd,xs,rel,dd⟩:=sK I.hok e;obtain ⟨w',hw,rw'⟩:=l4.some_of (v:=v) (o:=(atKey xs k).map (·.2)) (by rw [l];exact rel.val k);obtain ⟨p,hp,hp2⟩:=Option.map_eq_some_iff.mp hw;refine wpAny_getItem_heap (tupleKind_room_in1 hu) (nQ I.hok eb) dd hp ?_;rw [hp2];exact h w' _ (I.tok _) rw'
theorem Ff {Q:Value->Shared->Prop} (hu:A.units+1 < cLine) (I:aP X pins σ H s) (g:oO H a y o) (ry:bD y u) (h:∀ s',aP X pins σ H s'->Q (.bool o.isSome) s') :
    wpAny (model X.prog X.w) A (compareOp .In u (.ref a)) Q E s:=by
  rcases g with ⟨kvs,k,e,ey,l⟩ | ⟨kvs,k,b,e,ey,eb,l⟩
  · subst ey;obtain ⟨z,hd,vs,rel,dd⟩:=ox I.hok e;refine wpAny_in_of (r9 ry) hd dd.mapOf ?_;rw [<- (rel.val k).isSome_eq,<- l];exact h _ (I.tok _)
  · subst ey;cases (show u=Value.ref b from ry);obtain ⟨z,hd,xs,rel,dd⟩:=sK I.hok e;refine wpAny_in_heap (tupleKind_room_in1 hu) (nQ I.hok eb) hd dd ?_;have q:=(rel.val k).isSome_eq;rw [Option.isSome_map] at q;rw [<- q,<- l];exact h _ (I.tok _)
theorem AU {Q:Value->Shared->Prop} (hu:A.units+1 < cLine) (I:aP X pins σ H s) (g:oO H a y o) (ry:bD y u) (h:∀ s',aP X pins σ H s'->Q (.bool (!o.isSome)) s') :
    wpAny (model X.prog X.w) A (compareOp .NotIn u (.ref a)) Q E s:=by
  rcases g with ⟨kvs,k,e,ey,l⟩ | ⟨kvs,k,b,e,ey,eb,l⟩
  · subst ey;obtain ⟨z,hd,vs,rel,dd⟩:=ox I.hok e;refine wpAny_notIn_of (r9 ry) hd dd.mapOf ?_;rw [<- (rel.val k).isSome_eq,<- l];exact h _ (I.tok _)
  · subst ey;cases (show u=Value.ref b from ry);obtain ⟨z,hd,xs,rel,dd⟩:=sK I.hok e;refine wpAny_notIn_heap (tupleKind_room_in1 hu) (nQ I.hok eb) hd dd ?_;have q:=(rel.val k).isSome_eq;rw [Option.isSome_map] at q;rw [<- q,<- l];exact h _ (I.tok _)
theorem vk {h':Heap} {t':Nat} {ob:HO} (I:aP X pins σ H s) (mu:DN (H a)) (hs:Heap.SameBut a s.heap h') (he:∃ q,h'.get? a=some q) (new:bS X.prog X.w (cw H a ob) h' a ob) :
    aP X pins σ (cw H a ob) { s with heap:=h',toks:=t' } :=
  I.write (x:=a) (e:=a) mu (.inl rfl) (fun b q hb z=>(hs.2 b hb).trans z) he new
theorem Ck {P:Program} {w:World} {H':Hp} {h':Heap} {kvs:List (dj×V)} {vs:List (dj×Value)} (z:kvs.length<=sizeLine) (hd:(a==sysModules)=false) (rel:KV kvs vs) (dd:h'.DictOf (dn P w) a vs) :
    bS P w H' h' a (.dK kvs):=⟨z,hd,vs,rel,dd⟩
theorem xl {H':Hp} {Q:Unit->Shared->Prop} (hu:A.units+1 < cLine) (I:aP X pins σ H s) (g:tN H a y v H') (ry:bD y u) (rv:bD v r) (h:∀ s',aP X pins σ H' s'->Q () s') :
    wpAny (model X.prog X.w) A (setItem (.ref a) u r) Q E s:=by
  rcases g with ⟨kvs,k,e,ey,l,eH⟩ | ⟨kvs,k,b,e,ey,eb,l,eH⟩
  · subst ey eH;obtain ⟨z,hd,vs,rel,dd⟩:=DE I.hok e;have hz:vs.length<=sizeLine:=by rw [<- rel.length];exact z
    have hl:(lh kvs k v).length<=sizeLine:=by have:=mt kvs k v;omega
    refine wpAny_setItem_pairs (hsz:=hz) (r9 ry) dd fun h' dd' hs=>h _ ?_
    have he:∃ q,h'.get? a=some q:=let ⟨q,_,_,hq,_⟩:=dd';⟨q,hq⟩
    exact vk I (by rw [e];exact True.intro) hs he (Ck hl hd (rel.put k rv) dd')
  · subst ey eH;cases (show u=Value.ref b from ry);obtain ⟨z,hd,xs,rel,dd⟩:=Eg I.hok e;have hz:xs.length<=sizeLine:=by rw [<- Paired.length rel];exact z
    have hl:(lh kvs k v).length<=sizeLine:=by have:=mt kvs k v;omega
    refine wpAny_setItem_heap (hsz:=hz) (tupleKind_room_in1 hu) (nQ I.hok eb) dd fun h' dd' hs=>h _ ?_
    obtain ⟨q,es,ep,hq,h2,h3,h4,_,h5⟩:=dd';refine vk I (by rw [e];exact True.intro) hs ⟨q,hq⟩ ⟨hl,hd,_,(rel.put k eb rv).keeps fun c ys ec=>?_,q,es,ep,hq,h2,h3,h4,h5⟩;rw [av (DJ ec e (fun z=>nomatch z))];exact ec
end
section
variable {X:Cx} {pins:List (Addr×Obj)} {σ:St} {H:Hp} {s:Shared} {a:Addr} {kvs:List (dj×V)} {k:dj} {u:Value} {A:Around} {E:Value->Shared->Prop}
theorem Ef {Q:Value->Shared->Prop} (I:aP X pins σ H s) (e:Rd H a (.dK kvs)) (h:∀ t s',aP X pins σ H s'->Q (.int kvs.length t) s'):wpAny (model X.prog X.w) A (call (.builtin "len") [.ref a]) Q E s:=by
  obtain ⟨z,hd,vs,rel,dd⟩:=ox I.hok e;refine call_len_dict hd dd (by rw [<- rel.length];rw [sizeLine_eq] at z;omega) ?_;rw [<- rel.length];exact h _ _ (I.tok _)
end
theorem rW {X:Cx} {pins:List (Addr×Obj)} {σ:St} {H:Hp} {s:Shared} {a:Addr} {y:V} {o:Option V} (I:aP X pins σ H s) (g:oO H a y o):s.TypeIs (.ref a) "dict" := by
  rcases g with ⟨kvs,k,e,_,_⟩ | ⟨kvs,k,b,e,_,_,_⟩
  · obtain ⟨_,_,vs,_,dd⟩:=ox I.hok e;exact dd.typeIs
  · obtain ⟨_,_,xs,_,dd⟩:=sK I.hok e;exact dd.typeIs
noncomputable def Eh (td ty tv:TE):TS:=fun D σ H=>tv σ H fun v H1=>td σ H1 fun x H2=>ty σ H2 fun y H3=>∃ a H4,x=.ref a/\tN H3 a y v H4/\D.nx σ H4
section
variable {X:Cx} {o i e value:Expr} {pos pos' tpos:Pos} {td ty tv:TE}
theorem zT (hu:X.A.units+1 < cLine) (ho:PE X o td) (hi:PE X i ty) (hv:PE X value tv) (hs:swapsWith value (some (.Subscript o i pos')) pos.line X.env=pure false) :
    PS X (.Assign [.Subscript o i pos'] value pos) (Eh td ty tv):=by
  intro pins s σ H D I h;refine wpAny_Assign_Subscript (dg (hv pins s σ H _ I h) fun r s1 ⟨v,H1,I1,rv,q1⟩=>dg (ho pins s1 σ H1 _ I1 q1) fun u s2 ⟨x,H2,I2,rx,q2⟩=>dg (hi pins s2 σ H2 _ I2 q2) fun iv s3 ⟨y,H3,I3,ry,a,H4,ex,g,q3⟩=>?_) hs;subst ex;obtain rfl:u=Value.ref a:=rx;exact xl hu I3 g ry rv fun s4 I4=>⟨σ,H4,I4,q3⟩
end
theorem yN {P:Program} {w:World} {H:Hp} (h:Heap) (hb:sysModules < h.objs.size):bS P w H (h.push { cls:=.type "dict",data:=.dict #[] }) h.objs.size (.dK []) :=
  ⟨Nat.zero_le _,beq_eq_false_iff_ne.mpr (Ne.symm (Nat.ne_of_lt hb)),[],.nil,Heap.DictOf.new h⟩
noncomputable def BL:TE:=fun _ H Q=>∀ p,H p=none->Q (.ref p) (cw H p (.dK []))
section
variable {X:Cx} {pos:Pos}
theorem xG:PE X (.Dict [] [] pos) BL:=fun pins s σ H Q I h =>
  wpAny_Dict_empty ⟨.ref s.heap.objs.size,_,I.laid (a:=s.heap.objs.size) (o:=.dK []) (t':=s.toks) (fun _ _ q=>Heap.get?_push_of_some _ q) (Nat.le_refl _) (yN s.heap I.big),rfl,h _ (I.hok.fresh (Nat.le_refl _))⟩
end
end L2
set_option maxHeartbeats 4000000
namespace D2
open PySem PySem.Spec PyProof.Rows L2
noncomputable def sB (base:Heap) (l:List Env) (e:Addr) (cls a0:Value) (h:Heap):Prop:=base.StaysIn h/\base.get? e=none/\h.FunFrames base l/\∃ fl,h.TracedAtW base e cls a0 fl
theorem sB.of {base h:Heap} {l:List Env} {e:Addr} {cls a0:Value} (x:Heap.FlyingW base l e cls a0 h):sB base l e cls a0 h:=⟨x.1,x.2.1,x.2.2.1,.none,x.2.2.2⟩
section
variable {M:Model} {A:Around} {E:Value->Shared->Prop} {s:Shared} {base:Heap} {l:List Env} {env:Env} {outer:List Env} {L e:Addr} {cls a0:Value} {Q:Unit->Shared->Prop}
theorem zX {h:Heap}:h.UpToSlots h:=fun b o hb _=>⟨o.slots,hb⟩
theorem sS (hfr:A.frames=some (env::outer)) (hf:env.frame=some L) (t:sB base (env::outer) e cls a0 s.heap)
    (hQ:∀ h',sB base (env::outer) e cls a0 h'->s.heap.UpToSlots h'->Q () { s with heap:=h' }):wpAny M A (noteFrame (.ref e) env) Q E s:=by
  have t':=t;obtain ⟨hkb,hen,hl,fl,oe,vs,T,oT,ts,he,⟨hcls,h0⟩,hd,h1,hnT,hTe,hT,hdT,h3⟩:=t;subst hcls;unfold noteFrame;simp only [hf];refine wpAny_bind (wpAny_field he hd h1 ?_);rw [if_pos (show (Value.ref T != Value.none)=true from by simp)];refine wpAny_bind (wpAny_field hT hdT h3 ?_);by_cases hfl:(fl==rawInt L)=true
  · rw [if_pos hfl];exact wpAny_pure (hQ s.heap t' zX)
  · rw [if_neg hfl];refine wpAny_bind (wpAny_setField hT hdT (Array.getElem?_eq_some_iff.mp h3).1 ?_);have other:∀ b,b≠T->(s.heap.update T (Obj.mapFields (·.setIfInBounds 3 Value.none))).get? b=s.heap.get? b:=fun b hb=>Heap.get?_update_other _ _ (Ne.symm hb)
    have noRecord:∀ b o,s.heap.get? b=some o->(∀ vs,o.data≠.fields vs)->b≠T:=fun b o hb hnf q=>by
      rw [q,hT] at hb;injection hb with hb;subst hb;exact hnf ts hdT
    refine wpAny_entryW hfr (hl.of_keeps fun b o hb hnf=>⟨o,(other b (noRecord b o hb hnf)).trans hb,rfl⟩) hf ((other e (Ne.symm hTe)).trans he)
      (fun b o hbo=>(other b fun q=>by rw [q,hnT] at hbo;cases hbo).trans (hkb b o hbo)) hen hd (Array.getElem?_eq_some_iff.mp h1).1 h0
      fun h' ⟨x1,x2,x3,x4⟩=>hQ h' ⟨x1,hen,x2,_,x3⟩ fun b o hb hnf=>x4 b o ((other b (noRecord b o hb hnf)).trans hb) hnf
theorem uy (f:Option Addr) (t:sB base l e cls a0 s.heap) (hQ:∀ h',sB base l e cls a0 h'->s.heap.UpToSlots h'->Q () { s with heap:=h' }):wpAny M A (setFlight (.ref e) f) Q E s:=by
  obtain ⟨hkb,hen,hl,fl,oe,vs,T,oT,ts,he,hcls,hd,h1,hnT,hTe,hT,hdT,h3⟩:=t;have hsz3:3 < ts.size:=(Array.getElem?_eq_some_iff.mp h3).1;have other:∀ b,b≠T->(s.heap.update T (Obj.mapFields (·.setIfInBounds 3 (f.elim Value.none fun f=>rawInt f)))).get? b=s.heap.get? b :=
    fun b hb=>Heap.get?_update_other _ _ (Ne.symm hb)
  have noRecord:∀ b o,s.heap.get? b=some o->(∀ vs,o.data≠.fields vs)->b≠T:=fun b o hb hnf q=>by
    rw [q,hT] at hb;injection hb with hb;subst hb;exact hnf ts hdT
  unfold setFlight;refine wpAny_bind (wpAny_field he hd h1 ?_);rw [if_pos (show (Value.ref T != Value.none)=true from by simp)];refine wpAny_setField hT hdT hsz3 (hQ _ ⟨fun b o hbo=>(other b fun q=>by rw [q,hnT] at hbo;cases hbo).trans (hkb b o hbo),hen,
    hl.of_keeps fun b o hb hnf=>⟨o,(other b (noRecord b o hb hnf)).trans hb,rfl⟩,(f.elim Value.none fun f=>rawInt f),?_⟩ fun b o hb hnf=>⟨o.slots,(other b (noRecord b o hb hnf)).trans hb⟩)
  exact ⟨oe,vs,T,_,_,(other e (Ne.symm hTe)).trans he,hcls,hd,h1,hnT,hTe,Heap.get?_update_self _ hT (Obj.isFreed_of_fields (Obj.data_mapFields hdT _)),Obj.data_mapFields hdT _,by simp [hsz3]⟩
theorem yA (t:sB base l e cls a0 s.heap) (hQ:∀ h',Heap.FlyingW base l e cls a0 h'->s.heap.UpToSlots h'->Q () { s with heap:=h' }):wpAny M A (setFlight (.ref e) none) Q E s:=by
  obtain ⟨hkb,hen,hl,fl,ht⟩:=t;exact wpAny_setFlight_noneW hkb hl ht fun h' k1 k2 k3 k4=>hQ h' ⟨k1,hen,k2,k3⟩ fun b o hb hn=>⟨o.slots,k4 b o hb hn⟩
theorem wa (hfr:A.frames=some (env::outer)) (hf:env.frame=some L) (t:sB base (env::outer) e cls a0 s.heap)
    (hQ:∀ h',Heap.FlyingW base outer e cls a0 h'->s.heap.UpToSlots h'->Q () { s with heap:=h' }):wpAny M A (leaving env (.ref e)) Q E s:=by
  unfold leaving;refine wpAny_bind (sS hfr hf t fun h1 t1 u1=>?_);refine yA (s:={ s with heap:=h1 }) t1 fun h2 t2 u2=>?_
  obtain ⟨k1,k2,⟨_,_,k3⟩,k4⟩:=t2;exact hQ h2 ⟨k1,k2,k3,k4⟩ (u1.trans u2)
theorem xL {α:Type} {k:Value->Sem α} {Q:α->Shared->Prop} (t:sB base l e cls a0 s.heap) (hQ:∀ T,wpAny M A (k (.ref T)) Q E s):wpAny M A (field (.ref e) 1>>=k) Q E s:=by
  obtain ⟨hkb,hen,hl,fl,oe,vs,T,oT,ts,he,hcls,hd,h1,r⟩:=t;exact wpAny_bind (wpAny_field he hd h1 (hQ T))
theorem xV {α:Type} {what:String} {Q:α->Shared->Prop} (t:sB base l e cls a0 s.heap) (hQ:∀ h',sB base l e cls a0 h'->s.heap.UpToSlots h'->E (.ref e) { s with heap:=h' }):wpAny M A (PySem.passOn what (.ref e) env:Sem α) Q E s:=by
  unfold PySem.passOn;refine xL t fun T=>?_
  rw [if_neg (show ¬ ((Value.ref T==Value.none)=true) from by simp)];refine wpAny_bind (uy _ t fun h' t' u=>?_);exact wpAny_throw (hQ h' t' u)
theorem sB.first {h:Heap} (x:sB base l e cls a0 h):∃ oe vs,h.get? e=some oe/\oe.cls=cls/\oe.data=.fields vs/\vs[0]?=some a0 :=
  let ⟨_,_,_,_,oe,vs,_,_,_,he,hc,hd,_⟩:=x;⟨oe,vs,he,hc.1,hd,hc.2⟩
end
noncomputable abbrev St:=L2.St
noncomputable abbrev aP:=@L2.aP
noncomputable def gf:dj->PyData
  | .inl i=>.int i
  | .inr x=>.str x
mutual
noncomputable def Rp (H:Hp):PyData->V->Prop
  | .none,v=>v=.non
  | .bool b,v=>v=.bl b
  | .int i,v=>v=.int i
  | .str x,v=>v=.str x
  | .tuple ds,v=>∃ a vs,v=.ref a/\H a=some (.tup vs)/\bx H ds vs
  | .list ds,v=>∃ a o vs,v=.ref a/\H a=some (.frz o (.lst vs))/\bx H ds vs
  | .dict kvs,v=>(∃ a o ks,v=.ref a/\H a=some (.frz o (.dK ks))/\eG H kvs ks)\/∃ a o C dx fs,v=.ref a/\H a=some (.frz o (.ins C dx fs))/\xn H C fs kvs
noncomputable def bx (H:Hp):List PyData->List V->Prop
  | [],vs=>vs=[]
  | d::ds,vs=>∃ v r,vs=v::r/\Rp H d v/\bx H ds r
noncomputable def eG (H:Hp):List (PyData×PyData)->List (dj×V)->Prop
  | [],ks=>ks=[]
  | kd::kvs,ks=>∃ x v r,ks=(x,v)::r/\zI H kd x v/\eG H kvs r
noncomputable def zI (H:Hp):PyData×PyData->dj->V->Prop
  | (k,d),x,v=>k=gf x/\Rp H d v
noncomputable def xn (H:Hp) (C:Addr) (fs:List (Str×V)):List (PyData×PyData)->Prop
  | []=>False
  | kd::kvs=>kd=(.none,.int C)/\sZ H kvs fs
noncomputable def sZ (H:Hp):List (PyData×PyData)->List (Str×V)->Prop
  | [],fs=>fs=[]
  | kd::kvs,fs=>∃ x v r,fs=(x,v)::r/\Bo H kd x v/\sZ H kvs r
noncomputable def Bo (H:Hp):PyData×PyData->Str->V->Prop
  | (k,d),x,v=>k=.str x/\Rp H d v
end
noncomputable def pE:List (PyData×PyData)->Bool
  | (.none,_)::_=>true
  | _=>false
noncomputable def Kp (H H':Hp):Prop:=(∀ b xs,H b=some (.tup xs)->H' b=some (.tup xs))/\∀ b o u,H b=some (.frz o u)->H' b=some (.frz o u)
theorem Kp.trans {H H1 H2:Hp} (a:Kp H H1) (b:Kp H1 H2):Kp H H2:=⟨fun c xs h=>b.1 c xs (a.1 c xs h),fun c o u h=>b.2 c o u (a.2 c o u h)⟩
theorem Kp.of {H H':Hp} (s:aF H H'):Kp H H':=⟨fun b xs h=>s b _ h,fun b o u h=>s b _ h⟩
mutual
theorem Rp.kp {H H':Hp} (k:Kp H H'):∀ (d:PyData) (v:V),Rp H d v->Rp H' d v
  | .none,v,h=>by simpa only [Rp] using h
  | .bool b,v,h=>by simpa only [Rp] using h
  | .int i,v,h=>by simpa only [Rp] using h
  | .str x,v,h=>by simpa only [Rp] using h
  | .tuple ds,v,h=>by
    simp only [Rp] at h ⊢;obtain ⟨a,vs,e,ha,r⟩:=h;exact ⟨a,vs,e,k.1 _ _ ha,bx.kp k ds vs r⟩
  | .list ds,v,h=>by
    simp only [Rp] at h ⊢;obtain ⟨a,o,vs,e,ha,r⟩:=h;exact ⟨a,o,vs,e,k.2 _ _ _ ha,bx.kp k ds vs r⟩
  | .dict kvs,v,h=>by
    simp only [Rp] at h ⊢;rcases h with ⟨a,o,ks,e,ha,r⟩ | ⟨a,o,C,dx,fs,e,ha,r⟩
    · exact .inl ⟨a,o,ks,e,k.2 _ _ _ ha,eG.kp k kvs ks r⟩
    · exact .inr ⟨a,o,C,dx,fs,e,k.2 _ _ _ ha,xn.kp k C fs kvs r⟩
theorem bx.kp {H H':Hp} (k:Kp H H'):∀ (ds:List PyData) (vs:List V),bx H ds vs->bx H' ds vs
  | [],vs,h=>by simpa only [bx] using h
  | d::ds,vs,h=>by
    simp only [bx] at h ⊢;obtain ⟨v,r,e,h1,h2⟩:=h;exact ⟨v,r,e,Rp.kp k d v h1,bx.kp k ds r h2⟩
theorem eG.kp {H H':Hp} (k:Kp H H'):∀ (kvs:List (PyData×PyData)) (ks:List (dj×V)),eG H kvs ks->eG H' kvs ks
  | [],ks,h=>by simpa only [eG] using h
  | kd::kvs,ks,h=>by
    simp only [eG] at h ⊢;obtain ⟨x,v,r,e,h1,h2⟩:=h;exact ⟨x,v,r,e,zI.kp k kd x v h1,eG.kp k kvs r h2⟩
theorem zI.kp {H H':Hp} (k:Kp H H'):∀ (kd:PyData×PyData) (x:dj) (v:V),zI H kd x v->zI H' kd x v
  | (c,d),x,v,h=>by
    simp only [zI] at h ⊢;exact ⟨h.1,Rp.kp k d v h.2⟩
theorem xn.kp {H H':Hp} (k:Kp H H') (C:Addr) (fs:List (Str×V)):∀ (kvs:List (PyData×PyData)),xn H C fs kvs->xn H' C fs kvs
  | [],h=>by simpa only [xn] using h
  | kd::kvs,h=>by
    simp only [xn] at h ⊢;exact ⟨h.1,sZ.kp k kvs fs h.2⟩
theorem sZ.kp {H H':Hp} (k:Kp H H'):∀ (kvs:List (PyData×PyData)) (fs:List (Str×V)),sZ H kvs fs->sZ H' kvs fs
  | [],fs,h=>by simpa only [sZ] using h
  | kd::kvs,fs,h=>by
    simp only [sZ] at h ⊢;obtain ⟨x,v,r,e,h1,h2⟩:=h;exact ⟨x,v,r,e,Bo.kp k kd x v h1,sZ.kp k kvs r h2⟩
theorem Bo.kp {H H':Hp} (k:Kp H H'):∀ (kd:PyData×PyData) (x:Str) (v:V),Bo H kd x v->Bo H' kd x v
  | (c,d),x,v,h=>by
    simp only [Bo] at h ⊢;exact ⟨h.1,Rp.kp k d v h.2⟩
end
theorem Rp.mono {H H':Hp} {d:PyData} {v:V} (h:Rp H d v) (s:aF H H'):Rp H' d v:=Rp.kp (Kp.of s) d v h
theorem bx.mono {H H':Hp} {ds:List PyData} {vs:List V} (h:bx H ds vs) (s:aF H H'):bx H' ds vs:=bx.kp (Kp.of s) ds vs h
noncomputable def i9 (H:Hp):PyData->V->Prop
  | .list ds,v=>∃ a vs,v=.ref a/\H a=some (.lst vs)/\bx H ds vs
  | .dict kvs,v=>∃ a ks,v=.ref a/\H a=some (.dK ks)/\eG H kvs ks
  | _,_=>False
theorem i9.mono {H H':Hp} {d:PyData} {v:V} (h:i9 H d v) (s:aF H H'):i9 H' d v:=by
  cases d <;> simp only [i9] at h ⊢
  · obtain ⟨a,vs,e,ha,r⟩:=h;exact ⟨a,vs,e,s _ _ ha,bx.mono r s⟩
  · obtain ⟨a,vs,e,ha,r⟩:=h;exact ⟨a,vs,e,s _ _ ha,eG.kp (Kp.of s) _ _ r⟩
noncomputable def ig (H:Hp) (d:PyData) (v:V):Prop:=Rp H d v\/i9 H d v
theorem ig.mono {H H':Hp} {d:PyData} {v:V} (h:ig H d v) (s:aF H H'):ig H' d v:=h.elim (fun h=>.inl (h.mono s)) fun h=>.inr (h.mono s)
noncomputable def Do (H H':Hp) (d:PyData) (v:V):Prop:=i9 H' d v/\∃ a,v=.ref a/\H a=none
inductive bh where
  | non
  | val (d:PyData)
  | own (d:PyData)
  | exc (p:Addr)
noncomputable abbrev aQ:=List bh
noncomputable def jx (H:Hp):bh->Option V->Prop
  | .non,_=>True
  | .val d,o=>∃ v,o=some v/\Rp H d v
  | .own d,o=>∃ v,o=some v/\i9 H d v
  | .exc p,o=>o=some (.ref p)
noncomputable def Sl (H:Hp) (σ:St) (ρ:aQ):Prop:=σ.length=ρ.length/\∀ (i:Nat) (c:bh) (o:Option V),ρ[i]?=some c->σ[i]?=some o->jx H c o
theorem jx.mono {H H':Hp} {c:bh} {o:Option V} (h:jx H c o) (s:aF H H'):jx H' c o:=by
  cases c <;> simp only [jx] at h ⊢
  · obtain ⟨v,e,h⟩:=h;exact ⟨v,e,h.mono s⟩
  · obtain ⟨v,e,h⟩:=h;exact ⟨v,e,h.mono s⟩
  · exact h
theorem Sl.mono {H H':Hp} {σ:St} {ρ:aQ} (h:Sl H σ ρ) (s:aF H H'):Sl H' σ ρ:=⟨h.1,fun i c o h1 h2=>(h.2 i c o h1 h2).mono s⟩
inductive R (α:Type) where
  | ok (a:α)
  | ex (c:Str)
  | no
noncomputable def R.bind {α β:Type}:R α->(α->R β)->R β
  | .ok a,f=>f a
  | .ex c,_=>.ex c
  | .no,_=>.no
noncomputable instance:Monad R where
  pure:=.ok
  bind:=R.bind
@[simp] theorem R.ok_bind {α β:Type} (a:α) (f:α->R β):(R.ok a>>=f)=f a:=(rfl)
structure Cs (P:Program) (w:World) (outer:List Env) (H:Hp) (s:Shared) (C:Addr) (H':Hp) (e:Value) (s':Shared):Prop where
  os:s'.os=s.os
  bare:AllBare s'.gens
  same:aF H H'
  ex:∃ (p:Addr) (a0:Value) (B:Heap),e=.ref p/\Heap.FlyingW B outer p (.ref C) a0 s'.heap/\iB P w H' B/\H' p=none/\∀ b o,s.heap.get? b=some o->H b=none->b∉lG outer->B.get? b=some o/\H' b=none
  slot:∀ b o,s.heap.get? b=some o->H b=none->b∈lG outer->(∃ sl,s'.heap.get? b=some { o with slots:=sl })/\H' b=none
structure qJ (P:Program) (w:World) (outer:List Env) (H:Hp) (s:Shared) (C:Addr) (H':Hp) (e:Value) (s':Shared):Prop where
  os:s'.os=s.os
  bare:AllBare s'.gens
  same:aF H H'
  ex:∃ (p:Addr) (a0:Value) (B:Heap),e=.ref p/\sB B outer p (.ref C) a0 s'.heap/\iB P w H' B/\H' p=none/\∀ b o,s.heap.get? b=some o->H b=none->b∉lG outer->B.get? b=some o/\H' b=none
  slot:∀ b o,s.heap.get? b=some o->H b=none->b∈lG outer->(∃ sl,s'.heap.get? b=some { o with slots:=sl })/\H' b=none
theorem Cs.hld {P:Program} {w:World} {outer:List Env} {H:Hp} {s:Shared} {C:Addr} {H':Hp} {e:Value} {s':Shared} (f:Cs P w outer H s C H' e s'):qJ P w outer H s C H' e s' :=
  ⟨f.os,f.bare,f.same,let ⟨p,a0,B,h1,h2,h3⟩:=f.ex;⟨p,a0,B,h1,sB.of h2,h3⟩,f.slot⟩
noncomputable def cU (P:Program) (w:World) (mg:Str->Option Value):xo:=fun outer H s E e s'=>∃ n C H',mg n=some (.ref C)/\Cs P w outer H s C H' e s'/\E (.str n 0) none H'
noncomputable def EX (X:Cx):XK:=fun v _ H'=>∀ (n:Str) (C:Addr),v=.str n 0->X.mg n=some (.ref C)->∀ (pins:List (Addr×Obj)) (σ:St) (H:Hp) (s:Shared) (e:Value) (s':Shared),aP X pins σ H s->Cs X.prog X.w X.stack H s C H' e s'->X.xe e s'
theorem u6 {X:Cx}:n5 (cU X.prog X.w X.mg) X (EX X):=fun pins σ H s e s' I ⟨n,C,H',hm,f,q⟩=>q n C rfl hm pins σ H s e s' I f
noncomputable def Xw (X:Cx) (c:Str) (H:Hp):Prop:=∀ H1,aF H H1->∀ (C:Addr),X.mg c=some (.ref C)->∀ (pins:List (Addr×Obj)) (σ:St) (Hc:Hp) (s:Shared) (e:Value) (s':Shared),aP X pins σ Hc s->qJ X.prog X.w X.stack Hc s C H1 e s'->X.xe e s'
theorem Xw.mono {X:Cx} {c:Str} {H H':Hp} (h:Xw X c H) (s:aF H H'):Xw X c H':=fun H1 s1=>h H1 (s.trans s1)
theorem Xw.ex {X:Cx} {c:Str} {H:Hp} (h:Xw X c H):∀ H1,aF H H1->EX X (.str c 0) none H1:=fun H1 s1 n C en hm pins σ Hc s e s' I f=>by
  have en':c=n:=by injection en
  subst en';exact h H1 s1 C hm pins σ Hc s e s' I f.hld
noncomputable def Ds (X:Cx) (c:Str) (Fm:Hp):Prop:=∀ C,X.mg c=some (.ref C)->∀ (pins:List (Addr×Obj)) (σ:St) (H:Hp) (s:Shared),aF Fm H->aP X pins σ H s->∀ (h':Heap) (p:Addr) (vs:List Value),Heap.MadeExcOf s.heap h' p (.ref C) vs->X.xe (.ref p) { s with heap:=h' }
theorem Ds.mono {X:Cx} {c:Str} {H H':Hp} (h:Ds X c H) (s:aF H H'):Ds X c H':=fun C hm pins σ H1 s1 e=>h C hm pins σ H1 s1 (s.trans e)
noncomputable def uI (X:Cx) (P:Hp->Hp->PyData->V->Prop) (r:R PyData) (H:Hp) (Q:VK):Prop :=
  match r with
  | .ok d=>∀ v H',aF H H'->P H H' d v->Q v H'
  | .ex c=>Xw X c H
  | .no=>False
noncomputable abbrev ie:Hp->Hp->PyData->V->Prop:=fun _ H' d v=>Rp H' d v
noncomputable abbrev vH:Hp->Hp->PyData->V->Prop:=fun _ H' d v=>ig H' d v
noncomputable abbrev EO:Hp->Hp->PyData->V->Prop:=fun H H' d v=>Rp H' d v\/Do H H' d v
noncomputable abbrev Fe:=aQ->R PyData
noncomputable def ka (X:Cx) (P:Hp->Hp->PyData->V->Prop) (f:Fe):TE:=fun σ H Q=>∃ ρ,Sl H σ ρ/\uI X P (f ρ) H Q
noncomputable def cx (X:Cx) (e:Expr) (f:Fe):Prop:=PE X e (ka X ie f)
structure Z.cx (X:Cx) (e:Expr) (f:Fe):Prop where
  un:D2.cx X e f
noncomputable def dH (X:Cx) (e:Expr) (f:Fe):Prop:=PE X e (ka X vH f)
structure Z.dH (X:Cx) (e:Expr) (f:Fe):Prop where
  un:D2.dH X e f
noncomputable def zM (X:Cx) (e:Expr) (f:Fe):Prop:=PE X e (ka X EO f)
structure Z.zM (X:Cx) (e:Expr) (f:Fe):Prop where
  un:D2.zM X e f
noncomputable def o5 (X:Cx) (e:Expr) (f:Fe):Prop:=PE X e (ka X Do f)
structure Z.o5 (X:Cx) (e:Expr) (f:Fe):Prop where
  un:D2.o5 X e f
noncomputable def RA (I:Hp->PyData->V->Prop) (H:Hp):List PyData->List V->Prop
  | [],vs=>vs=[]
  | d::ds,vs=>∃ v r,vs=v::r/\I H d v/\RA I H ds r
theorem oV {H:Hp}:∀ {ds:List PyData} {vs:List V},RA Rp H ds vs<->bx H ds vs
  | [],vs=>by simp only [RA,bx]
  | d::ds,vs=>by simp only [RA,bx,oV (ds:=ds)]
noncomputable def xD (X:Cx) (I:Hp->PyData->V->Prop) (f:aQ->R (List PyData)):TA:=fun σ H Q=>∃ ρ,Sl H σ ρ/\match f ρ with
  | .ok ds=>∀ vs H',aF H H'->RA I H' ds vs->Q vs H'
  | .ex c=>Xw X c H
  | .no=>False
noncomputable def uG (X:Cx) (es:List Expr) (f:aQ->R (List PyData)):Prop:=PA X es (xD X Rp f)
structure Z.uG (X:Cx) (es:List Expr) (f:aQ->R (List PyData)):Prop where
  un:D2.uG X es f
noncomputable def CP (X:Cx) (es:List Expr) (f:aQ->R (List PyData)):Prop:=PA X es (xD X ig f)
noncomputable def AG (X:Cx) (f:aQ->R Bool):TT:=fun σ H Q=>∃ ρ,Sl H σ ρ/\match f ρ with
  | .ok b=>∀ H',aF H H'->Q b H'
  | .ex c=>Xw X c H
  | .no=>False
noncomputable def ny (X:Cx) (e:Expr) (f:aQ->R Bool):Prop:=PT X e (AG X f)
structure Z.ny (X:Cx) (e:Expr) (f:aQ->R Bool):Prop where
  un:D2.ny X e f
noncomputable def xr (X:Cx) (e:Expr) (f:aQ->R Bool):Prop:=PW X e (AG X f)
structure Z.xr (X:Cx) (e:Expr) (f:aQ->R Bool):Prop where
  un:D2.xr X e f
theorem PE.imp {X:Cx} {e:Expr} {t t':TE} (h:PE X e t) (i:∀ σ H Q,t' σ H Q->t σ H Q):PE X e t':=fun pins s σ H Q I q=>h pins s σ H Q I (i σ H Q q)
theorem PT.imp {X:Cx} {e:Expr} {t t':TT} (h:PT X e t) (i:∀ σ H Q,t' σ H Q->t σ H Q):PT X e t':=fun pins s σ H Q I q=>h pins s σ H Q I (i σ H Q q)
theorem PW.imp {X:Cx} {e:Expr} {t t':TT} (h:PW X e t) (i:∀ σ H Q,t' σ H Q->t σ H Q):PW X e t':=fun wh pins s σ H Q I q=>h wh pins s σ H Q I (i σ H Q q)
theorem PA.imp {X:Cx} {e:List Expr} {t t':TA} (h:PA X e t) (i:∀ σ H Q,t' σ H Q->t σ H Q):PA X e t':=fun pos pins s σ H Q I q=>h pos pins s σ H Q I (i σ H Q q)
theorem ka.post {X:Cx} {P:Hp->Hp->PyData->V->Prop} {f:Fe} {σ:St} {H:Hp} {Q Q':VK} (h:ka X P f σ H Q) (i:∀ v H',Q v H'->Q' v H'):ka X P f σ H Q':=by
  obtain ⟨ρ,sl,q⟩:=h;refine ⟨ρ,sl,?_⟩;cases e:f ρ with
  | ok d=>rw [e] at q;exact fun v H' s p=>i _ _ (q v H' s p)
  | ex c=>rw [e] at q;exact q
  | no=>rw [e] at q;exact q
theorem AG.post {X:Cx} {f:aQ->R Bool} {σ:St} {H:Hp} {Q Q':Bool->Hp->Prop} (h:AG X f σ H Q) (i:∀ b H',Q b H'->Q' b H'):AG X f σ H Q':=by
  obtain ⟨ρ,sl,q⟩:=h;refine ⟨ρ,sl,?_⟩;cases e:f ρ with
  | ok d=>rw [e] at q;exact fun H' s=>i _ _ (q H' s)
  | ex c=>rw [e] at q;exact q
  | no=>rw [e] at q;exact q
theorem xD.post {X:Cx} {I:Hp->PyData->V->Prop} {f:aQ->R (List PyData)} {σ:St} {H:Hp} {Q Q':List V->Hp->Prop} (h:xD X I f σ H Q) (i:∀ vs H',Q vs H'->Q' vs H'):xD X I f σ H Q':=by
  obtain ⟨ρ,sl,q⟩:=h;refine ⟨ρ,sl,?_⟩;cases e:f ρ with
  | ok d=>rw [e] at q;exact fun vs H' s p=>i _ _ (q vs H' s p)
  | ex c=>rw [e] at q;exact q
  | no=>rw [e] at q;exact q
theorem ka.weaken {X:Cx} {P P':Hp->Hp->PyData->V->Prop} {f:Fe} (h:∀ H H' d v,P H H' d v->P' H H' d v) (σ:St) (H:Hp) (Q:VK) (q:ka X P' f σ H Q):ka X P f σ H Q:=by
  obtain ⟨ρ,sl,q⟩:=q;refine ⟨ρ,sl,?_⟩;cases e:f ρ with
  | ok d=>rw [e] at q;exact fun v H' s p=>q v H' s (h _ _ _ _ p)
  | ex c=>rw [e] at q;exact q
  | no=>rw [e] at q;exact q
section
variable {X:Cx} {e:Expr} {f:Fe}
theorem cx.b (h:cx X e f):dH X e f:=PE.imp h (ka.weaken fun _ _ _ _ p=>Or.inl p)
theorem ad (h:Z.cx X e f):Z.dH X e f :=
  ⟨D2.cx.b h.un⟩
theorem o5.b (h:o5 X e f):dH X e f:=PE.imp h (ka.weaken fun _ _ _ _ p=>Or.inr p.1)
theorem cW (h:Z.o5 X e f):Z.dH X e f :=
  ⟨D2.o5.b h.un⟩
theorem o5.toF (h:o5 X e f):zM X e f:=PE.imp h (ka.weaken fun _ _ _ _ p=>Or.inr p)
end
section
variable {X:Cx} {pins:List (Addr×Obj)} {σ:St} {H:Hp} {s:Shared} {a:Addr} {u:HO}
theorem gI (I:aP X pins σ H s) (h:H a=some u) (hm:(∃ xs,u=.lst xs)\/∃ ks,u=.dK ks):∃ o,aP X pins σ (cw H a (.frz o u)) s:=by
  have ob:=I.hok a u h;have hg:∃ o,s.heap.get? a=some o:=by
    rcases hm with ⟨xs,rfl⟩ | ⟨ks,rfl⟩
    · obtain ⟨_,_,_,_,e⟩:=ob;exact ⟨_,e⟩
    · obtain ⟨_,_,_,_,o,_,_,e,_⟩:=ob;exact ⟨_,e⟩
  obtain ⟨o,hg⟩:=hg;have nt:∀ b xs,H b=some (.tup xs)->b≠a:=fun b xs q z=>by subst z;rw [h] at q;rcases hm with ⟨_,rfl⟩ | ⟨_,rfl⟩ <;> cases q
  have nf:∀ b o' u',H b=some (.frz o' u')->b≠a:=fun b o' u' q z=>by subst z;rw [h] at q;rcases hm with ⟨_,rfl⟩ | ⟨_,rfl⟩ <;> cases q
  have nb:∀ b ps,H b=some (.tbl ps)->b≠a:=fun b ps q z=>by subst z;rw [h] at q;rcases hm with ⟨_,rfl⟩ | ⟨_,rfl⟩ <;> cases q
  have nw:∀ b y,H b=some (.own y)->b≠a:=fun b y q z=>by subst z;rw [h] at q;rcases hm with ⟨_,rfl⟩ | ⟨_,rfl⟩ <;> cases q
  have nn:∀ b,H b=none->b≠a:=fun b q z=>by subst z;rw [h] at q;cases q
  have st:∀ b x,bS X.prog X.w H s.heap b x->bS X.prog X.w (cw H a (.frz o u)) s.heap b x:=fun b x q =>
    q.stay (fun c v _ e=>e) (fun c e=>by rw [av (nw _ _ e)];exact e) fun c xs e=>by rw [av (nt _ _ e)];exact e
  refine ⟨o,⟨I.ok,I.os,I.bare,⟨I.base.keep,I.base.slot,fun b ob' e n hx=>?_,I.base.there,fun b xs e=>?_,fun b ob' v e=>?_,fun b ps e=>?_⟩,I.loc,I.cell,?_,fun x c e=>?_,fun p hp=>?_,fun b x e=>?_,I.len⟩⟩
  · have:=I.base.free b ob' e n hx;rw [av (nn _ this)];exact this
  · have:=I.base.tups b xs e;rw [av (nt _ _ this)];exact this
  · have:=I.base.frzs b ob' v e;rw [av (nf _ _ _ this)];exact this
  · obtain ⟨m,q⟩:=I.base.tbls b ps e;exact ⟨m,by rw [av (nb _ _ q)];exact q⟩
  · rw [av (nn _ I.free)];exact I.free
  · rw [av (nn _ (I.freeC x c e))];exact I.freeC x c e
  · obtain ⟨p1,p2,p3⟩:=I.pin p hp;exact ⟨p1,by rw [av (nn _ p2)];exact p2,p3⟩
  · by_cases hb:b=a
    · subst hb;rw [bi] at e;cases e;exact ⟨hg,st b u ob⟩
    · rw [av hb] at e;exact st b x (I.hok b x e)
theorem gA {o':HO} (h:H a=some u) (hm:(∃ xs,u=.lst xs)\/∃ ks,u=.dK ks):Kp H (cw H a o'):=by
  refine ⟨fun b xs e=>?_,fun b o v e=>?_⟩
  · rw [av];exact e;rintro rfl;rw [h] at e;rcases hm with ⟨_,rfl⟩ | ⟨_,rfl⟩ <;> cases e
  · rw [av];exact e;rintro rfl;rw [h] at e;rcases hm with ⟨_,rfl⟩ | ⟨_,rfl⟩ <;> cases e
theorem Db {H0:Hp} {d:PyData} {v:V} (I:aP X pins σ H s) (hs:aF H0 H) (n:Do H0 H d v):∃ H',aP X pins σ H' s/\aF H0 H'/\Rp H' d v:=by
  obtain ⟨n,a,rfl,h0⟩:=n;have go:∀ u:HO,H a=some u->((∃ xs,u=.lst xs)\/∃ ks,u=.dK ks)->∃ o,aP X pins σ (cw H a (.frz o u)) s/\aF H0 (cw H a (.frz o u))/\Kp H (cw H a (.frz o u)):=fun u hu hm=>by
    obtain ⟨o,J⟩:=gI I hu hm;refine ⟨o,J,fun b x e=>?_,gA hu hm⟩;rw [av (aU e h0)];exact hs b x e
  cases d <;> simp only [i9] at n
  · obtain ⟨a',vs,e,ha,r⟩:=n;cases e;obtain ⟨o,J,S,K⟩:=go _ ha (.inl ⟨_,rfl⟩);refine ⟨_,J,S,?_⟩;simp only [Rp];exact ⟨a,o,vs,rfl,bi,bx.kp K _ _ r⟩
  · obtain ⟨a',vs,e,ha,r⟩:=n;cases e;obtain ⟨o,J,S,K⟩:=go _ ha (.inr ⟨_,rfl⟩);refine ⟨_,J,S,?_⟩;simp only [Rp];exact .inl ⟨a,o,vs,rfl,bi,eG.kp K _ _ r⟩
end
theorem zM.e {X:Cx} {e:Expr} {f:Fe} (h:zM X e f):cx X e f:=by
  intro pins s σ H Q I q;obtain ⟨ρ,sl,q⟩:=q;cases ef:f ρ with
  | ok d =>
    rw [ef] at q;refine dg (h pins s σ H (fun v H'=>aF H H'/\EO H H' d v) I ⟨ρ,sl,by rw [ef];exact fun v H' hs p=>⟨hs,p⟩⟩) fun u s' ⟨v,H',I',r,hs,p⟩=>?_
    rcases p with p | p
    · exact ⟨v,H',I',r,q v H' hs p⟩
    · obtain ⟨H2,I2,S2,p2⟩:=Db I' hs p;exact ⟨v,H2,I2,r,q v H2 S2 p2⟩
  | ex c=>rw [ef] at q;exact dg (h pins s σ H (fun _ _=>False) I ⟨ρ,sl,by rw [ef];exact q⟩) fun u s' ⟨v,H',I',r,z⟩=>z.elim
  | no=>rw [ef] at q;exact q.elim
theorem ES {X:Cx} {e:Expr} {f:Fe} (h:Z.zM X e f):Z.cx X e f :=
  ⟨D2.zM.e h.un⟩
theorem o5.e {X:Cx} {e:Expr} {f:Fe} (h:o5 X e f):cx X e f:=(o5.toF h).e
theorem nz {X:Cx} {e:Expr} {f:Fe} (h:Z.o5 X e f):Z.cx X e f :=
  ⟨D2.o5.e h.un⟩
structure AW {β:Type} (X:Cx) (T:R β->Hp->Prop):Prop where
  mono:∀ r H H',T r H->aF H H'->T r H'
  ex:∀ c H,T (.ex c) H->Xw X c H
  no:∀ H,¬ T .no H
noncomputable def Dn (P:Hp->Hp->PyData->V->Prop):Prop:=∀ H H1 H' d v,aF H H1->P H1 H' d v->P H H' d v
theorem fU:Dn ie:=fun _ _ _ _ _ _ p=>p
theorem zP:Dn Do:=fun _ _ _ _ _ s p=>⟨p.1,let ⟨a,e,h⟩:=p.2;⟨a,e,s.free h⟩⟩
theorem Ae:Dn EO:=fun _ _ _ _ _ s p=>p.elim .inl fun p=>.inr (zP _ _ _ _ _ s p)
section
variable {X:Cx} {σ:St} {H:Hp}
theorem fu {P:Hp->Hp->PyData->V->Prop} (hP:Dn P) (Q:VK):AW X (fun r H=>uI X P r H Q) where
  mono:=fun r H H' h s=>by
    cases r with
    | ok d=>exact fun v H2 s2 p=>h v H2 (s.trans s2) (hP _ _ _ _ _ s p)
    | ex c=>exact Xw.mono h s
    | no=>exact h
  ex:=fun c H h=>h
  no:=fun H h=>h
theorem uU (Q:Bool->Hp->Prop):AW X (fun (r:R Bool) H=>match r with | .ok b=>∀ H',aF H H'->Q b H' | .ex c=>Xw X c H | .no=>False) where
  mono:=fun r H H' h s=>by
    cases r with
    | ok d=>exact fun H2 s2=>h H2 (s.trans s2)
    | ex c=>exact Xw.mono h s
    | no=>exact h
  ex:=fun c H h=>h
  no:=fun H h=>h
theorem BB (I:Hp->PyData->V->Prop) (Q:List V->Hp->Prop):AW X (fun (r:R (List PyData)) H=>match r with | .ok ds=>∀ vs H',aF H H'->RA I H' ds vs->Q vs H' | .ex c=>Xw X c H | .no=>False) where
  mono:=fun r H H' h s=>by
    cases r with
    | ok d=>exact fun vs H2 s2=>h vs H2 (s.trans s2)
    | ex c=>exact Xw.mono h s
    | no=>exact h
  ex:=fun c H h=>h
  no:=fun H h=>h
theorem fD {β:Type} {T:R β->Hp->Prop} (t:AW X T) {P:Hp->Hp->PyData->V->Prop} {f:Fe} {k:aQ->PyData->R β} (h:∃ ρ,Sl H σ ρ/\T (f ρ>>=k ρ) H) :
    ka X P f σ H (fun v H1=>∃ ρ d,Sl H1 σ ρ/\aF H H1/\P H H1 d v/\T (k ρ d) H1):=by
  obtain ⟨ρ,sl,q⟩:=h;refine ⟨ρ,sl,?_⟩;cases e:f ρ with
  | ok d=>rw [e] at q;exact fun v H1 s p=>⟨ρ,d,sl.mono s,s,p,t.mono _ _ _ q s⟩
  | ex c=>rw [e] at q;exact t.ex _ _ q
  | no=>rw [e] at q;exact (t.no _ q).elim
theorem qB {β:Type} {T:R β->Hp->Prop} (t:AW X T) {f:aQ->R Bool} {k:aQ->Bool->R β} (h:∃ ρ,Sl H σ ρ/\T (f ρ>>=k ρ) H) :
    AG X f σ H (fun b H1=>∃ ρ,Sl H1 σ ρ/\aF H H1/\T (k ρ b) H1):=by
  obtain ⟨ρ,sl,q⟩:=h;refine ⟨ρ,sl,?_⟩;cases e:f ρ with
  | ok d=>rw [e] at q;exact fun H1 s=>⟨ρ,sl.mono s,s,t.mono _ _ _ q s⟩
  | ex c=>rw [e] at q;exact t.ex _ _ q
  | no=>rw [e] at q;exact (t.no _ q).elim
theorem mf {β:Type} {T:R β->Hp->Prop} (t:AW X T) {I:Hp->PyData->V->Prop} {f:aQ->R (List PyData)} {k:aQ->List PyData->R β} (h:∃ ρ,Sl H σ ρ/\T (f ρ>>=k ρ) H) :
    xD X I f σ H (fun vs H1=>∃ ρ ds,Sl H1 σ ρ/\aF H H1/\RA I H1 ds vs/\T (k ρ ds) H1):=by
  obtain ⟨ρ,sl,q⟩:=h;refine ⟨ρ,sl,?_⟩;cases e:f ρ with
  | ok d=>rw [e] at q;exact fun vs H1 s p=>⟨ρ,d,sl.mono s,s,p,t.mono _ _ _ q s⟩
  | ex c=>rw [e] at q;exact t.ex _ _ q
  | no=>rw [e] at q;exact (t.no _ q).elim
end
noncomputable def ae (i:Nat):Fe:=fun ρ=>match ρ[i]? with
  | some (.val d)=>.ok d
  | _=>.no
noncomputable def dt (i:Nat):Fe:=fun ρ=>match ρ[i]? with
  | some (.val d)=>.ok d
  | some (.own d)=>.ok d
  | _=>.no
noncomputable def eC (d:PyData):Fe:=fun _=>.ok d
structure Tb (X:Cx) (nl:Nat) (G:List Str):Prop where
  hu:X.A.units+64 < cLine
  calm:X.calm=true
  nd:X.N.Nodup
  vis:∀ x∈X.N,BM X.env.scope x/\(x==("__debug__" : Str))=false/\(x==("__classdict__" : Str))=false
  loc:∀ x∈X.N.take nl,Bu X.env.scope x/\(X.fn x=true\/X.env.scope.names.lookup x=some .local)
  gl:∀ x∈G,Gl X x/\(x==("__debug__" : Str))=false/\x≠("__name__" : Str)
section
variable {X:Cx} {nl:Nat} {G:List Str} {x:Str} {pos:Pos}
theorem Sl.at {H:Hp} {σ:St} {ρ:aQ} {i:Nat} {c:bh} (h:Sl H σ ρ) (e:ρ[i]?=some c):∃ o,σ[i]?=some o/\jx H c o:=by
  have hi:i < σ.length:=by rw [h.1];exact (List.getElem?_eq_some_iff.mp e).1
  exact ⟨σ[i],List.getElem?_eq_getElem hi,h.2 i c _ e (List.getElem?_eq_getElem hi)⟩
theorem aa (T:Tb X nl G) (i:Nat) (hN:X.N[i]?=some x):Z.cx X (.Name x pos) (ae i):=⟨by
  have hm:=T.vis x (List.mem_of_getElem? hN);refine PE.imp (lY hN hm.1 hm.2.1 hm.2.2) fun σ H Q ⟨ρ,sl,q⟩=>?_
  unfold ae at q;split at q
  · rename_i d e;obtain ⟨o,h1,v,rfl,h2⟩:=sl.at e;exact ⟨v,h1,q v H (aF.refl H) h2⟩
  · exact q.elim⟩
theorem ce (T:Tb X nl G) (i:Nat) (hN:X.N[i]?=some x):Z.dH X (.Name x pos) (dt i):=⟨by
  have hm:=T.vis x (List.mem_of_getElem? hN);refine PE.imp (lY hN hm.1 hm.2.1 hm.2.2) fun σ H Q ⟨ρ,sl,q⟩=>?_
  unfold dt at q;split at q
  · rename_i d e;obtain ⟨o,h1,v,rfl,h2⟩:=sl.at e;exact ⟨v,h1,q v H (aF.refl H) (.inl h2)⟩
  · rename_i d e;obtain ⟨o,h1,v,rfl,h2⟩:=sl.at e;exact ⟨v,h1,q v H (aF.refl H) (.inr h2)⟩
  · exact q.elim⟩
theorem nM {e:Expr} {d:PyData} {v:V} (h:PE X e (tC v)) (r:∀ H,Rp H d v):cx X e (eC d) :=
  PE.imp h fun σ H Q ⟨ρ,sl,q⟩=>q v H (aF.refl H) (r H)
theorem ak {i j}:Z.cx X (.Constant (.int i) j pos) (eC (.int i)):=⟨nM Da fun H=>by simp only [Rp]⟩
theorem gx {b j}:Z.cx X (.Constant (.bool b) j pos) (eC (.bool b)):=⟨nM Dw fun H=>by simp only [Rp]⟩
theorem cH {j}:Z.cx X (.Constant .none j pos) (eC .none):=⟨nM Cw fun H=>by simp only [Rp]⟩
theorem kU {y j}:Z.cx X (.Constant (.str y) j pos) (eC (.str y)):=⟨nM BN fun H=>by simp only [Rp]⟩
theorem cS {i:Int} {t:Tok} (T:Tb X nl G) (j:Nat) (hG:G[j]?=some x) (hm:X.mg x=some (.int i t)):Z.cx X (.Name x pos) (eC (.int i)):=⟨by
  have g:=T.gl x (List.mem_of_getElem? hG);exact nM (Au g.1 hm (v:=.int i) ⟨t,rfl⟩ g.2.1) fun H=>by simp only [Rp]⟩
end
section
variable {X:Cx} {a b c:Expr} {fa fb fc:Fe} {pos:Pos}
noncomputable def e2 (g:PyData->PyData->R PyData) (fa fb:Fe):Fe:=fun ρ=>fa ρ>>=fun x=>fb ρ>>=fun y=>g x y
noncomputable def e1 (g:PyData->R PyData) (fa:Fe):Fe:=fun ρ=>fa ρ>>=fun x=>g x
noncomputable def cn (X:Cx) (P:Hp->Hp->PyData->V->Prop) (r:R2) (g:PyData->PyData->R PyData):Prop :=
  ∀ H x y dx dy Q,ig H dx x->ig H dy y->uI X P (g dx dy) H Q->r x y H Q
theorem two {P:Hp->Hp->PyData->V->Prop} {r:R2} {g:PyData->PyData->R PyData} (hP:Dn P) (hg:cn X P r g) (σ:St) (H:Hp) (Q:VK) (h:ka X P (e2 g fa fb) σ H Q) :
    DV r (ka X vH fa) (ka X vH fb) σ H Q :=
  (fD (P:=vH) (fu (X:=X) hP Q) h).post fun v H1 ⟨ρ1,d1,sl1,_,p1,q1⟩ =>
    (fD (P:=vH) (f:=fb) (k:=fun _ y=>g d1 y) (fu (X:=X) hP Q) ⟨ρ1,sl1,q1⟩).post fun u H2 ⟨_,d2,_,s2,p2,q2⟩=>hg H2 v u d1 d2 Q (ig.mono p1 s2) p2 q2
theorem oY {op:Operator} {P:Hp->Hp->PyData->V->Prop} {r:R2} {g:PyData->PyData->R PyData} (hP:Dn P) (ho:jc X (binaryOp op) r) (hg:cn X P r g) (ha:dH X a fa) (hb:dH X b fb) :
    PE X (.BinOp a op b pos) (ka X P (e2 g fa fb)):=PE.imp (DT ho ha hb) (two hP hg)
theorem qE {op:CmpOp} {r:R2} {g:PyData->PyData->R PyData} (ho:jc X (compareOp op) r) (hg:cn X ie r g) (ha:dH X a fa) (hb:dH X b fb) (hm:behindInMarks op b=false) :
    cx X (.Compare a [op] [b] pos) (e2 g fa fb):=PE.imp (A2 ho ha hb hm) (two fU hg)
end
noncomputable def sX:PyData->R Bool
  | .bool b=>.ok b
  | _=>.no
noncomputable def tE (f:Fe):aQ->R Bool:=fun ρ=>f ρ>>=sX
theorem u8 {X:Cx} {f:Fe} {σ:St} {H:Hp} {Q:Bool->Hp->Prop} (h:AG X (tE f) σ H Q):ka X ie f σ H (fun x H'=>∃ k,x=.bl k/\Q k H') :=
  (fD (P:=ie) (f:=f) (k:=fun _=>sX) (uU (X:=X) Q) h).post fun v H1 ⟨ρ1,d1,_,_,p1,q1⟩=>by
    cases d1 with
    | bool b =>
      have p2:v=.bl b:=by simpa only [Rp] using p1
      exact ⟨b,p2,q1 H1 (aF.refl _)⟩
    | _=>exact q1.elim
section
variable {X:Cx} {a b c:Expr} {fa fb fc:Fe} {pos:Pos}
theorem gX {op:CmpOp} {r:R2} {g:PyData->PyData->R PyData} (ho:jc X (compareOp op) r) (hg:cn X ie r g) (ha:dH X a fa) (hb:dH X b fb) (hm:behindInMarks op b=false) :
    ny X (.Compare a [op] [b] pos) (tE (e2 g fa fb)) :=
  PT.imp (zW ho ha hb hm) fun σ H Q h=>two fU hg σ H _ (u8 h)
theorem eA {e:Expr} {f:Fe} (h:Z.cx X e f) (he:∀ whole,isTrue e X.env whole=(do let v <- whole;standAt e.pos;holding [v] (truthy v)):=by intro _;rfl):Z.ny X e (tE f):=⟨have h:=h.un;PT.imp (CS h he) fun σ H Q h=>u8 h⟩
noncomputable def oM (f g:aQ->R Bool):aQ->R Bool:=fun ρ=>f ρ>>=fun b=>if b=true then g ρ else .ok false
noncomputable def oa (f g:aQ->R Bool):aQ->R Bool:=fun ρ=>f ρ>>=fun b=>if b=true then .ok true else g ρ
noncomputable def i6 (f:aQ->R Bool):aQ->R Bool:=fun ρ=>f ρ>>=fun b=>.ok (!b)
variable {ga gb:aQ->R Bool} {eT:List Expr}
theorem o2 (ha:Z.ny X a ga):Z.xr X (.BoolOp .And [a] pos) ga:=⟨have ha:=ha.un;pw_and1 ha⟩
theorem gw (ha:Z.ny X a ga):Z.xr X (.BoolOp .Or [a] pos) ga:=⟨have ha:=ha.un;pw_or1 ha⟩
theorem pO (ha:Z.ny X a ga) (hb:Z.xr X (.BoolOp .And (b::eT) pos) gb):Z.xr X (.BoolOp .And (a::b::eT) pos) (oM ga gb):=⟨have ha:=ha.un;have hb:=hb.un;PW.imp (pw_and ha hb) fun σ H Q h=>(qB (f:=ga) (k:=fun ρ b=>if b=true then gb ρ else .ok false) (uU (X:=X) Q) h).post fun d H1 ⟨ρ1,sl1,_,q1⟩=>by
    cases d with
    | true=>exact ⟨ρ1,sl1,q1⟩
    | false=>exact q1 H1 (aF.refl _)⟩
theorem ik (ha:Z.ny X a ga) (hb:Z.xr X (.BoolOp .Or (b::eT) pos) gb):Z.xr X (.BoolOp .Or (a::b::eT) pos) (oa ga gb):=⟨have ha:=ha.un;have hb:=hb.un;PW.imp (pw_or ha hb) fun σ H Q h=>(qB (f:=ga) (k:=fun ρ b=>if b=true then .ok true else gb ρ) (uU (X:=X) Q) h).post fun d H1 ⟨ρ1,sl1,_,q1⟩=>by
    cases d with
    | false=>exact ⟨ρ1,sl1,q1⟩
    | true=>exact q1 H1 (aF.refl _)⟩
theorem xr.t {e:Expr} (h:xr X e ga):ny X e ga:=PW.pt h
theorem hZ {e:Expr} (h:Z.xr X e ga):Z.ny X e ga :=
  ⟨D2.xr.t h.un⟩
theorem eX (ha:Z.ny X a ga):Z.ny X (.UnaryOp .Not a pos) (i6 ga):=⟨have ha:=ha.un;PT.imp (CZ ha) fun σ H Q h=>(qB (f:=ga) (k:=fun _ b=>.ok (!b)) (uU (X:=X) Q) h).post fun d H1 ⟨ρ1,sl1,_,q1⟩=>q1 H1 (aF.refl _)⟩
noncomputable def yo (f g:Fe):Fe:=fun ρ=>f ρ>>=fun d=>sX d>>=fun b=>if b=true then g ρ else .ok (.bool false)
noncomputable def EY (f g:Fe):Fe:=fun ρ=>f ρ>>=fun d=>sX d>>=fun b=>if b=true then .ok (.bool true) else g ρ
noncomputable def Ed (f:Fe):Fe:=fun ρ=>f ρ>>=fun d=>sX d>>=fun b=>.ok (.bool (!b))
theorem qR {k:aQ->Bool->R PyData} {f:Fe} {σ:St} {H:Hp} {Q:VK} (h:ka X ie (fun ρ=>f ρ>>=fun d=>sX d>>=fun b=>k ρ b) σ H Q) :
    ka X ie f σ H (fun x H'=>∃ c,x=.bl c/\ka X ie (fun ρ=>k ρ c) σ H' Q) :=
  (fD (P:=ie) (f:=f) (k:=fun ρ d=>sX d>>=fun b=>k ρ b) (fu (X:=X) fU Q) h).post fun v H1 ⟨ρ1,d1,sl1,_,p1,q1⟩=>by
    cases d1 with
    | bool b =>
      have p2:v=.bl b:=by simpa only [Rp] using p1
      exact ⟨b,p2,ρ1,sl1,q1⟩
    | _=>exact q1.elim
theorem lu {op} (h:Z.cx X a fa):Z.cx X (.BoolOp op [a] pos) fa:=⟨have h:=h.un;BU h⟩
theorem o4 (ha:Z.cx X a fa) (hb:Z.cx X (.BoolOp .And (b::eT) pos) fb):Z.cx X (.BoolOp .And (a::b::eT) pos) (yo fa fb):=⟨have ha:=ha.un;have hb:=hb.un;PE.imp (BO ha hb) fun σ H Q h=>(qR (k:=fun ρ b=>if b=true then fb ρ else .ok (.bool false)) h).post fun v H1 ⟨c,e1,q1⟩=>by
    refine ⟨c,e1,?_⟩;cases c with
    | true=>exact q1
    | false =>
      obtain ⟨_,_,q2⟩:=q1;exact q2 _ H1 (aF.refl _) (by simp only [Rp])⟩
theorem An (ha:Z.cx X a fa) (hb:Z.cx X (.BoolOp .Or (b::eT) pos) fb):Z.cx X (.BoolOp .Or (a::b::eT) pos) (EY fa fb):=⟨have ha:=ha.un;have hb:=hb.un;PE.imp (Et ha hb) fun σ H Q h=>(qR (k:=fun ρ b=>if b=true then .ok (.bool true) else fb ρ) h).post fun v H1 ⟨c,e1,q1⟩=>by
    refine ⟨c,e1,?_⟩;cases c with
    | false=>exact q1
    | true =>
      obtain ⟨_,_,q2⟩:=q1;exact q2 _ H1 (aF.refl _) (by simp only [Rp])⟩
theorem xT (ha:Z.cx X a fa):Z.cx X (.UnaryOp .Not a pos) (Ed fa):=⟨have ha:=ha.un;PE.imp (CQ ha) fun σ H Q h=>(qR (k:=fun ρ b=>.ok (.bool (!b))) h).post fun v H1 ⟨c,e1,_,_,q2⟩=>⟨c,e1,q2 _ H1 (aF.refl _) (by simp only [Rp])⟩⟩
noncomputable def BA (t:aQ->R Bool) (f g:Fe):Fe:=fun ρ=>t ρ>>=fun b=>if b=true then f ρ else g ρ
theorem kA {e:Expr} (hc:Z.ny X e ga) (ha:Z.cx X a fa) (hb:Z.cx X b fb):Z.cx X (.IfExp e a b pos) (BA ga fa fb):=⟨have hc:=hc.un;have ha:=ha.un;have hb:=hb.un;PE.imp (yw hc ha hb) fun σ H Q h=>(qB (f:=ga) (k:=fun ρ b=>if b=true then fa ρ else fb ρ) (fu (X:=X) fU Q) h).post fun d H1 ⟨ρ1,sl1,_,q1⟩=>by
    cases d with
    | true=>exact ⟨ρ1,sl1,q1⟩
    | false=>exact ⟨ρ1,sl1,q1⟩⟩
end
noncomputable def aT:Expr->Bool
  | .Starred ..=>false
  | _=>true
theorem bo {e:Expr} {es:List Expr} {env:Env} (h:aT e=true):starEach (e::es) env=(false,eval e env)::starEach es env:=by
  cases e <;> first | rfl | (cases h)
theorem nW {es:List Expr} {env:Env} {pos:Pos} (h:es.all aT=true):(backTo pos (starEach es env)).any (·.1)=false:=by
  induction es with
  | nil=>rfl
  | cons e es ih =>
    rw [List.all_cons,Bool.and_eq_true] at h;rw [bo h.1];have:=ih h.2;simpa [backTo] using this
noncomputable def aI:aQ->R (List PyData):=fun _=>.ok []
noncomputable def ah (f:Fe) (g:aQ->R (List PyData)):aQ->R (List PyData):=fun ρ=>f ρ>>=fun d=>g ρ>>=fun ds=>.ok (d::ds)
section
variable {X:Cx} {e:Expr} {es:List Expr} {f:Fe} {g:aQ->R (List PyData)}
theorem vL {I:Hp->PyData->V->Prop}:PA X [] (xD X I aI):=PA.imp xy fun σ H Q ⟨ρ,sl,q⟩=>q [] H (aF.refl _) (by simp only [RA])
theorem kG:uG X [] aI:=vL
theorem aq  : Z.uG X [] aI :=
  ⟨D2.kG⟩
theorem uQ:CP X [] aI:=vL
theorem rJ {I:Hp->PyData->V->Prop} (hI:∀ H H' d v,I H d v->aF H H'->I H' d v) (ha:PE X e (ka X (fun _ H' d v=>I H' d v) f)) (hr:PA X es (xD X I g))
    (hs:starEach (e::es) X.env=(false,eval e X.env)::starEach es X.env:=by rfl):PA X (e::es) (xD X I (ah f g)) :=
  PA.imp (qU ha hr hs) fun σ H Q h =>
    (fD (P:=fun _ H' d v=>I H' d v) (f:=f) (k:=fun ρ d=>g ρ>>=fun ds=>.ok (d::ds)) (BB (X:=X) I Q) h).post fun v H1 ⟨ρ1,d1,sl1,_,p1,q1⟩ =>
      (mf (I:=I) (f:=g) (k:=fun _ ds=>.ok (d1::ds)) (BB (X:=X) I Q) ⟨ρ1,sl1,q1⟩).post fun vs H2 ⟨_,ds1,_,s2,p3,q3⟩ =>
        q3 (v::vs) H2 (aF.refl _) (by simp only [RA];exact ⟨v,vs,rfl,hI _ _ _ _ p1 s2,p3⟩)
theorem fN (ha:cx X e f) (hr:uG X es g) (hs:aT e=true:=by rfl):uG X (e::es) (ah f g):=rJ (fun _ _ _ _ h s=>h.mono s) ha hr (bo hs)
theorem af (ha:Z.cx X e f) (hr:Z.uG X es g) (hs:aT e=true:=by rfl):Z.uG X (e::es) (ah f g) :=
  ⟨D2.fN ha.un hr.un hs⟩
theorem nE (ha:dH X e f) (hr:CP X es g) (hs:aT e=true:=by rfl):CP X (e::es) (ah f g):=rJ (fun _ _ _ _ h s=>h.mono s) ha hr (bo hs)
end
section
variable {K:PySem.W.Frag} {H:Hp} {x:V}
theorem lC (h:ig H .none x):x=.non:=by
  rcases h with h | h
  · simpa only [Rp] using h
  · simp only [i9] at h
theorem oK {b:Bool} (h:ig H (.bool b) x):x=.bl b:=by
  rcases h with h | h
  · simpa only [Rp] using h
  · simp only [i9] at h
theorem bR {i:Int} (h:ig H (.int i) x):x=.int i:=by
  rcases h with h | h
  · simpa only [Rp] using h
  · simp only [i9] at h
theorem gV {y:Str} (h:ig H (.str y) x):x=.str y:=by
  rcases h with h | h
  · simpa only [Rp] using h
  · simp only [i9] at h
theorem dC {ds:List PyData} (h:ig H (.tuple ds) x):∃ a vs,x=.ref a/\H a=some (.tup vs)/\bx H ds vs:=by
  rcases h with h | h
  · simpa only [Rp] using h
  · simp only [i9] at h
theorem dN {ds:List PyData} (h:ig H (.list ds) x):∃ a vs,x=.ref a/\nk K H a vs/\bx H ds vs:=by
  rcases h with h | h
  · simp only [Rp] at h;obtain ⟨a,o,vs,e,ha,r⟩:=h;exact ⟨a,vs,e,.inl (.inr ⟨o,ha⟩),r⟩
  · simp only [i9] at h;obtain ⟨a,vs,e,ha,r⟩:=h;exact ⟨a,vs,e,.inl (.inl ha),r⟩
theorem A8 {C:Addr} {fs:List (Str×V)} {kvs:List (PyData×PyData)} (h:xn H C fs kvs):pE kvs=true:=by
  cases kvs with
  | nil=>simp only [xn] at h
  | cons kd kvs=>simp only [xn] at h;rw [h.1];rfl
theorem za {kvs:List (PyData×PyData)} (h:ig H (.dict kvs) x):∃ a,x=.ref a:=by
  rcases h with h | h
  · simp only [Rp] at h;rcases h with ⟨a,o,vs,e,_⟩ | ⟨a,o,C,dx,fs,e,_⟩
    · exact ⟨a,e⟩
    · exact ⟨a,e⟩
  · simp only [i9] at h;obtain ⟨a,vs,e,_⟩:=h;exact ⟨a,e⟩
theorem lx {kvs:List (PyData×PyData)} (hi:pE kvs=false) (h:ig H (.dict kvs) x):∃ a ks,x=.ref a/\Rd H a (.dK ks)/\eG H kvs ks:=by
  rcases h with h | h
  · simp only [Rp] at h;rcases h with ⟨a,o,vs,e,ha,r⟩ | ⟨a,o,C,dx,fs,e,ha,r⟩
    · exact ⟨a,vs,e,.inr ⟨o,ha⟩,r⟩
    · rw [A8 r] at hi;cases hi
  · simp only [i9] at h;obtain ⟨a,vs,e,ha,r⟩:=h;exact ⟨a,vs,e,.inl ha,r⟩
end
theorem bx.nil {H:Hp}:bx H [] []:=by simp only [bx]
theorem bx.cons {H:Hp} {d:PyData} {ds:List PyData} {v:V} {vs:List V} (h:Rp H d v) (t:bx H ds vs):bx H (d::ds) (v::vs):=by simp only [bx];exact ⟨v,vs,rfl,h,t⟩
theorem bx.nil_inv {H:Hp} {vs:List V} (h:bx H [] vs):vs=[]:=by simpa only [bx] using h
theorem bx.cons_inv {H:Hp} {d:PyData} {ds:List PyData} {vs:List V} (h:bx H (d::ds) vs):∃ v r,vs=v::r/\Rp H d v/\bx H ds r:=by simpa only [bx] using h
theorem bx.length {H:Hp}:∀ {ds:List PyData} {vs:List V},bx H ds vs->vs.length=ds.length
  | [],vs,h=>by rw [h.nil_inv];rfl
  | d::ds,vs,h=>by
    obtain ⟨v,r,rfl,_,t⟩:=h.cons_inv;rw [List.length_cons,List.length_cons,bx.length t]
theorem bx.get {H:Hp}:∀ {ds:List PyData} {vs:List V} {i:Nat} {d:PyData},bx H ds vs->ds[i]?=some d->∃ v,vs[i]?=some v/\Rp H d v
  | [],vs,i,d,h,e=>by simp at e
  | d0::ds,vs,0,d,h,e=>by
    obtain ⟨v,r,rfl,p,_⟩:=h.cons_inv;simp at e;subst e;exact ⟨v,rfl,p⟩
  | d0::ds,vs,i+1,d,h,e=>by
    obtain ⟨v,r,rfl,_,t⟩:=h.cons_inv;obtain ⟨u,e1,p⟩:=bx.get (i:=i) t (by simpa using e);exact ⟨u,by simpa using e1,p⟩
theorem bx.append {H:Hp}:∀ {ds es:List PyData} {vs us:List V},bx H ds vs->bx H es us->bx H (ds++es) (vs++us)
  | [],es,vs,us,h,g=>by rw [h.nil_inv];exact g
  | d::ds,es,vs,us,h,g=>by
    obtain ⟨v,r,rfl,p,t⟩:=h.cons_inv;exact bx.cons p (bx.append t g)
theorem bx.take {H:Hp}:∀ {ds:List PyData} {vs:List V} (n:Nat),bx H ds vs->bx H (ds.take n) (vs.take n)
  | ds,vs,0,h=>by simp only [List.take_zero];exact bx.nil
  | [],vs,n+1,h=>by rw [h.nil_inv];exact bx.nil
  | d::ds,vs,n+1,h=>by
    obtain ⟨v,r,rfl,p,t⟩:=h.cons_inv;exact bx.cons p (bx.take n t)
theorem bx.drop {H:Hp}:∀ {ds:List PyData} {vs:List V} (n:Nat),bx H ds vs->bx H (ds.drop n) (vs.drop n)
  | ds,vs,0,h=>h
  | [],vs,n+1,h=>by rw [h.nil_inv];exact bx.nil
  | d::ds,vs,n+1,h=>by
    obtain ⟨v,r,rfl,p,t⟩:=h.cons_inv;exact bx.drop n t
theorem bx.rep {H:Hp} {ds:List PyData} {vs:List V} (h:bx H ds vs):∀ k:Nat,bx H (List.replicate k ds).flatten (List.replicate k vs).flatten
  | 0=>bx.nil
  | k+1=>by rw [List.replicate_succ,List.replicate_succ,List.flatten_cons,List.flatten_cons];exact bx.append h (bx.rep h k)
theorem bx.ints {H:Hp}:∀ ns:List Int,bx H (ns.map PyData.int) (ns.map V.int)
  | []=>bx.nil
  | n::ns=>bx.cons (by simp only [Rp]) (bx.ints ns)
theorem cf {H:Hp} {p:Addr} (h:H p=none) (o:HO):aF H (cw H p o):=fun b u q=>by rw [av (aU q h)];exact q
theorem dl {H:Hp} {p:Addr} {ds:List PyData} {vs:List V} (h:H p=none) (r:bx H ds vs):Rp (cw H p (.tup vs)) (.tuple ds) (.ref p):=by
  simp only [Rp];exact ⟨p,vs,rfl,bi,r.mono (cf h _)⟩
theorem dP {H:Hp} {p:Addr} {ds:List PyData} {vs:List V} (h:H p=none) (r:bx H ds vs):Do H (cw H p (.lst vs)) (.list ds) (.ref p):=by
  refine ⟨?_,p,rfl,h⟩;simp only [i9];exact ⟨p,vs,rfl,bi,r.mono (cf h _)⟩
section
variable {P:Program} {w:World} {H:Hp} {h:Heap}
mutual
theorem rj (ok:iB P w H h):∀ (d:PyData) (v:V) (u:Value),d.canLay0=true->Rp H d v->bD v u->∃ as,Reads h u d as
  | .none,v,u,_,r,e=>by simp only [Rp] at r;subst r;cases e;exact ⟨_,.none⟩
  | .bool b,v,u,_,r,e=>by simp only [Rp] at r;subst r;cases e;exact ⟨_,.bool b⟩
  | .int i,v,u,_,r,e=>by simp only [Rp] at r;subst r;obtain ⟨t,rfl⟩:=e;exact ⟨_,.int i t⟩
  | .str x,v,u,_,r,e=>by simp only [Rp] at r;subst r;obtain ⟨t,rfl⟩:=e;exact ⟨_,.str x t⟩
  | .tuple ds,v,u,c,r,e=>by
    simp only [Rp] at r;obtain ⟨a,vs,rfl,ha,r⟩:=r;cases e;obtain ⟨_,its,rv,o,h1,h2,n,h3⟩:=(show bS P w H h a (.tup vs) from ok a _ ha)
    obtain ⟨as,q⟩:=hU ok ds vs its (by simpa only [PyData.canLay0] using c) r rv;exact ⟨as,.tuple h1 h2 h3 (by simpa using q)⟩
  | .list ds,v,u,c,r,e=>by
    simp only [Rp] at r;obtain ⟨a,ob,vs,rfl,ha,r⟩:=r;cases e;obtain ⟨_,_,its,n,rv,h1⟩:=(show bS P w H h a (.frz ob (.lst vs)) from ok a _ ha)
    obtain ⟨as,q⟩:=hU ok ds vs its (by simpa only [PyData.canLay0] using c) r rv;exact ⟨a::as,.list h1 rfl rfl (by simpa using q)⟩
  | .dict kvs,v,u,c,r,e=>by simp [PyData.canLay0] at c
theorem hU (ok:iB P w H h):∀ (ds:List PyData) (vs:List V) (us:List Value),PyData.canLayAll0 ds=true->bx H ds vs->bA vs us->∃ as,ReadsAll h us ds as
  | [],vs,us,_,r,e=>by rw [r.nil_inv] at e;cases e;exact ⟨_,.nil⟩
  | d::ds,vs,us,c,r,e=>by
    obtain ⟨v,r',rfl,p,t⟩:=r.cons_inv;have c':d.canLay0=true/\PyData.canLayAll0 ds=true:=by simpa [PyData.canLayAll0] using c
    cases e with
    | cons e1 e2 =>
      obtain ⟨as,q1⟩:=rj ok d v _ c'.1 p e1;obtain ⟨bs,q2⟩:=hU ok ds r' _ c'.2 t e2;exact ⟨as++bs,.cons q1 q2⟩
end
theorem dE (ok:iB P w H h) {d:PyData} {v:V} {u:Value} (c:d.canLay0=true) (r:ig H d v) (e:bD v u):∃ as,Reads h u d as:=by
  rcases r with r | r
  · exact rj ok d v u c r e
  · cases d <;> simp only [i9] at r
    · rename_i ds;obtain ⟨a,vs,rfl,ha,r⟩:=r;cases e;obtain ⟨_,its,n,rv,h1⟩:=(show bS P w H h a (.lst vs) from ok a _ ha)
      obtain ⟨as,q⟩:=hU ok ds vs its (by simpa only [PyData.canLay0] using c) r rv;exact ⟨a::as,.list h1 rfl rfl (by simpa using q)⟩
    · simp [PyData.canLay0] at c
end
noncomputable def iq:PyData->Option dj
  | .int i=>some (.inl i)
  | .str y=>some (.inr y)
  | _=>none
noncomputable def gR:PyData->PyData->Bool
  | .int i,.int j=>decide (i=j)
  | .str i,.str j=>decide (i=j)
  | _,_=>false
noncomputable def um (kvs:List (PyData×PyData)) (k v:PyData):List (PyData×PyData) :=
  if (kvs.any fun kv=>gR kv.1 k)=true then kvs.map (fun kv=>if gR kv.1 k=true then (kv.1,v) else kv) else kvs++[(k,v)]
theorem jV (κ κ':dj):gR (gf κ) (gf κ')=decide (κ=κ'):=by
  cases κ with
  | inl i =>
    cases κ' with
    | inl j=>simp [gf,gR]
    | inr j=>simp [gf,gR]
  | inr i =>
    cases κ' with
    | inl j=>simp [gf,gR]
    | inr j=>simp [gf,gR]
theorem eG.cons {H:Hp} {k d:PyData} {kvs:List (PyData×PyData)} {κ:dj} {v:V} {ks:List (dj×V)} (e:k=gf κ) (h:Rp H d v) (t:eG H kvs ks):eG H ((k,d)::kvs) ((κ,v)::ks):=by
  simp only [eG,zI];exact ⟨κ,v,ks,rfl,⟨e,h⟩,t⟩
theorem eG.cons_inv {H:Hp} {k d:PyData} {kvs:List (PyData×PyData)} {ks:List (dj×V)} (h:eG H ((k,d)::kvs) ks):∃ κ v r,ks=(κ,v)::r/\k=gf κ/\Rp H d v/\eG H kvs r:=by
  simp only [eG,zI] at h;obtain ⟨κ,v,r,e,⟨e1,p⟩,t⟩:=h;exact ⟨κ,v,r,e,e1,p,t⟩
theorem eG.nil_inv {H:Hp} {ks:List (dj×V)} (h:eG H [] ks):ks=[]:=by simpa only [eG] using h
theorem eG.any {H:Hp} (κ:dj):∀ {kvs:List (PyData×PyData)} {ks:List (dj×V)},eG H kvs ks->(kvs.any fun kv=>gR kv.1 (gf κ))=ks.any fun kv=>decide (kv.1=κ)
  | [],ks,h=>by rw [h.nil_inv];rfl
  | (k,d)::kvs,ks,h=>by
    obtain ⟨κ',v,r,rfl,rfl,p,t⟩:=h.cons_inv;rw [List.any_cons,List.any_cons,eG.any κ t,jV]
theorem eG.repl {H:Hp} (κ:dj) {d:PyData} {v:V} (hv:Rp H d v):∀ {kvs:List (PyData×PyData)} {ks:List (dj×V)},eG H kvs ks ->
    eG H (kvs.map fun kv=>if gR kv.1 (gf κ)=true then (kv.1,d) else kv) (ks.map fun kv=>if kv.1=κ then (kv.1,v) else kv)
  | [],ks,h=>by rw [h.nil_inv];simp only [List.map_nil,eG]
  | (k,d')::kvs,ks,h=>by
    obtain ⟨κ',v',r,rfl,rfl,p,t⟩:=h.cons_inv;rw [List.map_cons,List.map_cons];dsimp only;rw [jV];by_cases e:κ'=κ
    · rw [if_pos (decide_eq_true e),if_pos e];exact eG.cons rfl hv (eG.repl κ hv t)
    · rw [if_neg (by rw [decide_eq_false e];exact Bool.false_ne_true),if_neg e];exact eG.cons rfl p (eG.repl κ hv t)
theorem eG.snoc {H:Hp} {κ:dj} {d:PyData} {v:V} (hv:Rp H d v):∀ {kvs:List (PyData×PyData)} {ks:List (dj×V)},eG H kvs ks->eG H (kvs++[(gf κ,d)]) (ks++[(κ,v)])
  | [],ks,h=>by rw [h.nil_inv];exact eG.cons rfl hv (by simp only [eG])
  | (k,d')::kvs,ks,h=>by
    obtain ⟨κ',v',r,rfl,rfl,p,t⟩:=h.cons_inv;exact eG.cons rfl p (eG.snoc hv t)
theorem eG.put {H:Hp} (κ:dj) {d:PyData} {v:V} (hv:Rp H d v) {kvs:List (PyData×PyData)} {ks:List (dj×V)} (h:eG H kvs ks):eG H (um kvs (gf κ) d) (lh ks κ v):=by
  unfold um lh;rw [h.any κ];split
  · exact h.repl κ hv
  · exact h.snoc hv
noncomputable def mC (kvs:List (PyData×PyData)) (k:PyData):Option PyData:=(kvs.find? fun kv=>gR kv.1 k).map (·.2)
theorem eG.look {H:Hp} (κ:dj):∀ {kvs:List (PyData×PyData)} {ks:List (dj×V)},eG H kvs ks->(mC kvs (gf κ)=none/\kb ks κ=none)\/∃ d v,mC kvs (gf κ)=some d/\kb ks κ=some v/\Rp H d v
  | [],ks,h=>.inl (by rw [h.nil_inv];exact ⟨rfl,rfl⟩)
  | (k,d)::kvs,ks,h=>by
    obtain ⟨κ',v,r,rfl,rfl,p,t⟩:=h.cons_inv;unfold mC kb;by_cases e:κ'=κ
    · rw [List.find?_cons_of_pos (by rw [jV];exact decide_eq_true e),List.find?_cons_of_pos (by exact decide_eq_true e)];exact .inr ⟨d,v,rfl,rfl,p⟩
    · rw [List.find?_cons_of_neg (by rw [jV,decide_eq_false e];exact Bool.false_ne_true),List.find?_cons_of_neg (by rw [decide_eq_false e];exact Bool.false_ne_true)];exact eG.look κ t
theorem sr {d:PyData} {κ:dj} (h:iq d=some κ):d=gf κ:=by
  cases d <;> simp only [iq] at h <;> cases h <;> rfl
theorem uV {H:Hp} {d:PyData} {x:V} {κ:dj} (h:ig H d x) (e:iq d=some κ):x=kV κ:=by
  cases d <;> simp only [iq] at e <;> cases e
  · exact bR h
  · exact gV h
theorem u4 {H:Hp} {a:Addr} {kvs:List (PyData×PyData)} {ks:List (dj×V)} {κ:dj} (h:Rd H a (.dK ks)) (r:eG H kvs ks):∃ o,oO H a (kV κ) o/\o.isSome=(mC kvs (gf κ)).isSome/\∀ d,mC kvs (gf κ)=some d->∃ v,o=some v/\Rp H d v:=by
  refine ⟨kb ks κ,.inl ⟨ks,κ,h,rfl,rfl⟩,?_⟩;rcases r.look κ with ⟨e1,e2⟩ | ⟨d,v,e1,e2,p⟩
  · rw [e1,e2];exact ⟨rfl,fun d z=>by cases z⟩
  · rw [e1,e2];exact ⟨rfl,fun d z=>by cases z;exact ⟨v,rfl,p⟩⟩
noncomputable def n6:PyData->PyData->R PyData
  | .int i,.int j=>.ok (.int (i-j))
  | _,_=>.no
noncomputable def fY:PyData->PyData->R PyData
  | .int i,.int j=>if 0 < j then .ok (.int (i%j)) else .no
  | _,_=>.no
noncomputable def md:PyData->PyData->R PyData
  | .int i,.int j=>if 0 < j/\j < 1073741824 then .ok (.int (i / j)) else .no
  | _,_=>.no
noncomputable def gr (p:Int->Int->Bool):PyData->PyData->R PyData
  | .int i,.int j=>.ok (.bool (p i j))
  | _,_=>.no
noncomputable def yO (x y:PyData):Bool:=x.canLay0&&y.canLay0&&decide (min x.depth y.depth<=60)
noncomputable def jb (x y:PyData):R PyData:=if yO x y=true then .ok (.bool (PyData.eqv x y)) else .no
noncomputable def xp (x y:PyData):R PyData:=if yO x y=true then .ok (.bool (!PyData.eqv x y)) else .no
noncomputable def fO:PyData->Bool
  | .none=>true
  | _=>false
noncomputable def kc (x y:PyData):R PyData:=if fO y=true then .ok (.bool (fO x)) else .no
noncomputable def mx (x y:PyData):R PyData:=if fO y=true then .ok (.bool (!fO x)) else .no
noncomputable def mW (xs:List PyData) (d:PyData):Bool:=PyData.canLayAll0 xs&&d.canLay0&&decide (min (PyData.depthAll xs) d.depth<=60)
noncomputable def ni (neg:Bool) (d:PyData):PyData->R PyData
  | .list xs=>if mW xs d=true then .ok (.bool (if neg then !(xs.any fun y=>PyData.eqv y d) else xs.any fun y=>PyData.eqv y d)) else .no
  | .tuple xs=>if mW xs d=true then .ok (.bool (if neg then !(xs.any fun y=>PyData.eqv y d) else xs.any fun y=>PyData.eqv y d)) else .no
  | .dict kvs=>if pE kvs=true then .no else match iq d with
    | some _=>.ok (.bool (if neg then !(mC kvs d).isSome else (mC kvs d).isSome))
    | none=>.no
  | _=>.no
section
variable {X:Cx} {a b c:Expr} {fa fb fc:Fe} {pos:Pos}
theorem dm {H:Hp} {i:Int}:Rp H (.int i) (.int i):=by simp only [Rp]
theorem fB {H:Hp} {i:Bool}:Rp H (.bool i) (.bl i):=by simp only [Rp]
theorem yM {H:Hp} {i:Str}:Rp H (.str i) (.str i):=by simp only [Rp]
theorem CT:cn X ie (zH fun i j=>.int (i-j)) n6:=fun H x y dx dy Q hx hy q=>by
  unfold n6 at q;split at q
  · exact ⟨_,_,bR hx,bR hy,q _ H (aF.refl _) dm⟩
  · exact q.elim
theorem Cz:cn X ie (rI (fun _ j=>0 < j) fun i j=>.int (i%j)) fY:=fun H x y dx dy Q hx hy q=>by
  unfold fY at q;split at q
  · split at q
    · rename_i h;exact ⟨_,_,bR hx,bR hy,h,q _ H (aF.refl _) dm⟩
    · exact q.elim
  · exact q.elim
theorem Dg:cn X ie (rI D4 fun i j=>.int (i / j)) md:=fun H x y dx dy Q hx hy q=>by
  unfold md at q;split at q
  · split at q
    · rename_i h;exact ⟨_,_,bR hx,bR hy,h,q _ H (aF.refl _) dm⟩
    · exact q.elim
  · exact q.elim
theorem oH {p:Int->Int->Bool}:cn X ie (zH fun i j=>.bl (p i j)) (gr p):=fun H x y dx dy Q hx hy q=>by
  unfold gr at q;split at q
  · exact ⟨_,_,bR hx,bR hy,q _ H (aF.refl _) fB⟩
  · exact q.elim
theorem jv (ha:Z.dH X a fa) (hb:Z.dH X b fb):Z.cx X (.BinOp a .Sub b pos) (e2 n6 fa fb):=⟨have ha:=ha.un;have hb:=hb.un;oY fU B9 CT ha hb⟩
theorem cc (ha:Z.dH X a fa) (hb:Z.dH X b fb):Z.cx X (.BinOp a .Mod b pos) (e2 fY fa fb):=⟨have ha:=ha.un;have hb:=hb.un;oY fU CG Cz ha hb⟩
theorem gC (ha:Z.dH X a fa) (hb:Z.dH X b fb):Z.cx X (.BinOp a .FloorDiv b pos) (e2 md fa fb):=⟨have ha:=ha.un;have hb:=hb.un;oY fU Aj Dg ha hb⟩
noncomputable abbrev FI:Int->Int->Bool:=fun i j=>decide (i < j)
noncomputable abbrev FL:Int->Int->Bool:=fun i j=>decide (i<=j)
noncomputable abbrev qf:Int->Int->Bool:=fun i j=>decide (j < i)
theorem zN (ha:Z.dH X a fa) (hb:Z.dH X b fb):Z.cx X (.Compare a [.Gt] [b] pos) (e2 (gr qf) fa fb):=⟨have ha:=ha.un;have hb:=hb.un;qE Bv oH ha hb (iI _)⟩
theorem xX (ha:Z.dH X a fa) (hb:Z.dH X b fb):Z.ny X (.Compare a [.Lt] [b] pos) (tE (e2 (gr FI) fa fb)):=⟨have ha:=ha.un;have hb:=hb.un;gX DD oH ha hb (iI _)⟩
theorem kR (ha:Z.dH X a fa) (hb:Z.dH X b fb):Z.ny X (.Compare a [.Gt] [b] pos) (tE (e2 (gr qf) fa fb)):=⟨have ha:=ha.un;have hb:=hb.un;gX Bv oH ha hb (iI _)⟩
noncomputable def AO (X:Cx) (neg:Bool):R2:=fun x y H Q=>∃ dx dy,ig H dx x/\ig H dy y/\yO dx dy=true/\Q (.bl (if neg then !PyData.eqv dx dy else PyData.eqv dx dy)) H
theorem o0 {x y:PyData} (h:yO x y=true):x.canLay0=true/\y.canLay0=true/\min x.depth y.depth<=60:=by
  unfold yO at h;rw [Bool.and_eq_true,Bool.and_eq_true,decide_eq_true_eq] at h;exact ⟨h.1.1,h.1.2,h.2⟩
theorem xI (hu:X.A.units+64 < cLine):jc X (compareOp .Eq) (AO X false):=by
  intro pins s σ H x y v u Q I rx ry h;obtain ⟨dx,dy,hx,hy,ho,q⟩:=h;obtain ⟨c1,c2,c3⟩:=o0 ho;obtain ⟨as,r1⟩:=dE I.hok c1 hx rx;obtain ⟨bs,r2⟩:=dE I.hok c2 hy ry;exact PySem.SeqAt.compareEq_reads r1 r2 c1 c2 (by omega) ⟨.bl _,H,I,rfl,q⟩
theorem Cf (hu:X.A.units+64 < cLine):jc X (compareOp .NotEq) (AO X true):=by
  intro pins s σ H x y v u Q I rx ry h;obtain ⟨dx,dy,hx,hy,ho,q⟩:=h;obtain ⟨c1,c2,c3⟩:=o0 ho;obtain ⟨as,r1⟩:=dE I.hok c1 hx rx;obtain ⟨bs,r2⟩:=dE I.hok c2 hy ry;exact PySem.SeqAt.compareNe_reads r1 r2 c1 c2 (by omega) ⟨.bl _,H,I,rfl,q⟩
theorem Bs:cn X ie (AO X false) jb:=fun H x y dx dy Q hx hy q=>by
  unfold jb at q;split at q
  · rename_i h;exact ⟨dx,dy,hx,hy,h,q _ H (aF.refl _) fB⟩
  · exact q.elim
theorem DU:cn X ie (AO X true) xp:=fun H x y dx dy Q hx hy q=>by
  unfold xp at q;split at q
  · rename_i h;exact ⟨dx,dy,hx,hy,h,q _ H (aF.refl _) fB⟩
  · exact q.elim
theorem qM (hu:X.A.units+64 < cLine) (ha:Z.dH X a fa) (hb:Z.dH X b fb):Z.cx X (.Compare a [.Eq] [b] pos) (e2 jb fa fb):=⟨have ha:=ha.un;have hb:=hb.un;qE (xI hu) Bs ha hb (iI _)⟩
theorem dQ (hu:X.A.units+64 < cLine) (ha:Z.dH X a fa) (hb:Z.dH X b fb):Z.ny X (.Compare a [.Eq] [b] pos) (tE (e2 jb fa fb)):=⟨have ha:=ha.un;have hb:=hb.un;gX (xI hu) Bs ha hb (iI _)⟩
theorem kT (hu:X.A.units+64 < cLine) (ha:Z.dH X a fa) (hb:Z.dH X b fb):Z.ny X (.Compare a [.NotEq] [b] pos) (tE (e2 xp fa fb)):=⟨have ha:=ha.un;have hb:=hb.un;gX (Cf hu) DU ha hb (iI _)⟩
theorem vi {H:Hp} {d:PyData} {x:V} (h:ig H d x):decide (x=.non)=fO d:=by
  cases d with
  | none=>rw [lC h];rfl
  | bool b=>rw [oK h];rfl
  | int i=>rw [bR h];rfl
  | str y=>rw [gV h];rfl
  | tuple ds=>obtain ⟨a,vs,rfl,_⟩:=dC h;rfl
  | list ds=>obtain ⟨a,vs,rfl,_⟩:=dN (K:=default) h;rfl
  | dict kvs=>obtain ⟨a,rfl⟩:=za h;rfl
theorem yb:cn X ie (fun x y H Q=>y=.non/\Q (.bl (decide (x=.non))) H) kc:=fun H x y dx dy Q hx hy q=>by
  unfold kc at q;split at q
  · rename_i h;cases dy <;> simp only [fO,Bool.false_eq_true] at h;exact ⟨lC hy,by rw [vi hx];exact q _ H (aF.refl _) fB⟩
  · exact q.elim
theorem zU:cn X ie (fun x y H Q=>y=.non/\Q (.bl (!decide (x=.non))) H) mx:=fun H x y dx dy Q hx hy q=>by
  unfold mx at q;split at q
  · rename_i h;cases dy <;> simp only [fO,Bool.false_eq_true] at h;exact ⟨lC hy,by rw [vi hx];exact q _ H (aF.refl _) fB⟩
  · exact q.elim
theorem yQ (ha:Z.dH X a fa) (hb:Z.dH X b fb):Z.cx X (.Compare a [.Is] [b] pos) (e2 kc fa fb):=⟨have ha:=ha.un;have hb:=hb.un;qE yJ yb ha hb (iI _)⟩
theorem lO (ha:Z.dH X a fa) (hb:Z.dH X b fb):Z.ny X (.Compare a [.Is] [b] pos) (tE (e2 kc fa fb)):=⟨have ha:=ha.un;have hb:=hb.un;gX yJ yb ha hb (iI _)⟩
theorem oQ (ha:Z.dH X a fa) (hb:Z.dH X b fb):Z.ny X (.Compare a [.IsNot] [b] pos) (tE (e2 mx fa fb)):=⟨have ha:=ha.un;have hb:=hb.un;gX Ay zU ha hb (iI _)⟩
noncomputable def E3 (X:Cx) (neg:Bool):R2:=fun x y H Q=>∃ d xs,ig H d x/\(ig H (.list xs) y\/ig H (.tuple xs) y)/\mW xs d=true/\Q (.bl (if neg then !(xs.any fun z=>PyData.eqv z d) else xs.any fun z=>PyData.eqv z d)) H
noncomputable def BZ (X:Cx) (neg:Bool):R2:=fun x y H Q=>E3 X neg x y H Q\/∃ a o,y=.ref a/\oO H a x o/\Q (.bl (if neg then !o.isSome else o.isSome)) H
theorem oz {xs:List PyData} {d:PyData} (h:mW xs d=true):PyData.canLayAll0 xs=true/\d.canLay0=true/\min (PyData.depthAll xs) d.depth<=60:=by
  unfold mW at h;rw [Bool.and_eq_true,Bool.and_eq_true,decide_eq_true_eq] at h;exact ⟨h.1.1,h.1.2,h.2⟩
theorem xJ (hu:X.A.units+64 < cLine):jc X (compareOp .In) (BZ X false):=by
  intro pins s σ H x y v u Q I rx ry h;rcases h with h | ⟨a,o,rfl,g,q⟩
  case inr =>
    cases ry;exact Ff (by omega) I g rx fun s' I'=>⟨.bl _,H,I',rfl,q⟩
  obtain ⟨d,xs,hx,hy,ho,q⟩:=h;obtain ⟨c1,c2,c3⟩:=oz ho;obtain ⟨as,r1⟩:=dE I.hok c2 hx rx;rcases hy with hy | hy
  · obtain ⟨bs,r2⟩:=dE I.hok (d:=.list xs) (by simpa only [PyData.canLay0] using c1) hy ry;exact PySem.SeqAt.in_list_reads r2 r1 c1 c2 (by omega) ⟨.bl _,H,I,rfl,q⟩
  · obtain ⟨bs,r2⟩:=dE I.hok (d:=.tuple xs) (by simpa only [PyData.canLay0] using c1) hy ry;exact PySem.SeqAt.in_tuple_reads r2 r1 c1 c2 (by omega) ⟨.bl _,H,I,rfl,q⟩
theorem wT (hu:X.A.units+64 < cLine):jc X (compareOp .NotIn) (BZ X true):=by
  intro pins s σ H x y v u Q I rx ry h;rcases h with h | ⟨a,o,rfl,g,q⟩
  case inr =>
    cases ry;exact AU (by omega) I g rx fun s' I'=>⟨.bl _,H,I',rfl,q⟩
  obtain ⟨d,xs,hx,hy,ho,q⟩:=h;obtain ⟨c1,c2,c3⟩:=oz ho;obtain ⟨as,r1⟩:=dE I.hok c2 hx rx;rcases hy with hy | hy
  · obtain ⟨bs,r2⟩:=dE I.hok (d:=.list xs) (by simpa only [PyData.canLay0] using c1) hy ry;exact PySem.SeqAt.notIn_list_reads r2 r1 c1 c2 (by omega) ⟨.bl _,H,I,rfl,q⟩
  · obtain ⟨bs,r2⟩:=dE I.hok (d:=.tuple xs) (by simpa only [PyData.canLay0] using c1) hy ry;exact PySem.SeqAt.notIn_tuple_reads r2 r1 c1 c2 (by omega) ⟨.bl _,H,I,rfl,q⟩
theorem zb {neg:Bool}:cn X ie (BZ X neg) (ni neg):=fun H x y dx dy Q hx hy q=>by
  unfold ni at q;split at q
  · split at q
    · rename_i h;exact .inl ⟨dx,_,hx,.inl hy,h,q _ H (aF.refl _) fB⟩
    · exact q.elim
  · split at q
    · rename_i h;exact .inl ⟨dx,_,hx,.inr hy,h,q _ H (aF.refl _) fB⟩
    · exact q.elim
  · split at q
    · exact q.elim
    rename_i hi;split at q
    · rename_i κ e;obtain ⟨a,ks,rfl,h,r⟩:=lx (Bool.not_eq_true _ ▸ hi) hy;obtain ⟨o,g,e1,_⟩:=u4 (κ:=κ) h r;rw [<- uV hx e] at g;rw [<- sr e] at e1;exact .inr ⟨a,o,rfl,g,by rw [e1];exact q _ H (aF.refl _) fB⟩
    · exact q.elim
  · exact q.elim
theorem u7 (hu:X.A.units+64 < cLine) (ha:Z.dH X a fa) (hb:Z.dH X b fb) (hm:behindInMarks .In b=false):Z.cx X (.Compare a [.In] [b] pos) (e2 (ni false) fa fb):=⟨have ha:=ha.un;have hb:=hb.un;qE (xJ hu) zb ha hb hm⟩
theorem ln (hu:X.A.units+64 < cLine) (ha:Z.dH X a fa) (hb:Z.dH X b fb) (hm:behindInMarks .In b=false):Z.ny X (.Compare a [.In] [b] pos) (tE (e2 (ni false) fa fb)):=⟨have ha:=ha.un;have hb:=hb.un;gX (xJ hu) zb ha hb hm⟩
theorem mr (hu:X.A.units+64 < cLine) (ha:Z.dH X a fa) (hb:Z.dH X b fb) (hm:behindInMarks .NotIn b=false):Z.ny X (.Compare a [.NotIn] [b] pos) (tE (e2 (ni true) fa fb)):=⟨have ha:=ha.un;have hb:=hb.un;gX (wT hu) zb ha hb hm⟩
end
inductive xm where
  | nx (ρ:aQ)
  | rt (d:PyData)
  | bk (ρ:aQ)
  | ct (ρ:aQ)
noncomputable abbrev Fs:=aQ->R xm
structure iY (Fm H:Hp) (σ:St) (ρ:aQ):Prop where
  fm:aF Fm H
  sl:Sl H σ ρ
  own:∀ (i:Nat) (d:PyData) (a:Addr),ρ[i]?=some (.own d)->σ[i]?=some (some (.ref a))->Fm a=none
  apart:∀ (i j:Nat) (d e:PyData) (a:Addr),ρ[i]?=some (.own d)->ρ[j]?=some (.own e)->σ[i]?=some (some (.ref a))->σ[j]?=some (some (.ref a))->i=j
theorem iY.mono {Fm H H':Hp} {σ:St} {ρ:aQ} (h:iY Fm H σ ρ) (s:aF H H'):iY Fm H' σ ρ:=⟨h.fm.trans s,h.sl.mono s,h.own,h.apart⟩
noncomputable def Az (X:Cx) (Fm:Hp) (r:R xm) (D:rS):Prop :=
  match r with
  | .ok (.nx ρ)=>∀ σ H,iY Fm H σ ρ->D.nx σ H
  | .ok (.rt d)=>∀ v H,aF Fm H->Rp H d v->D.rt v H
  | .ok (.bk ρ)=>∀ σ H,iY Fm H σ ρ->D.bk σ H
  | .ok (.ct ρ)=>∀ σ H,iY Fm H σ ρ->D.ct σ H
  | .ex c=>Xw X c Fm/\Ds X c Fm
  | .no=>False
noncomputable def By (X:Cx) (Fm:Hp) (g:Fs):TS:=fun D σ H=>∃ ρ,iY Fm H σ ρ/\Az X Fm (g ρ) D
noncomputable def kN (X:Cx) (st:Stmt) (g:Fs):Prop:=∀ Fm,PS X st (By X Fm g)
structure Z.kN (X:Cx) (st:Stmt) (g:Fs):Prop where
  un:D2.kN X st g
noncomputable def lV (X:Cx) (st:List Stmt) (g:Fs):Prop:=∀ Fm,qX X st (By X Fm g)
structure Z.lV (X:Cx) (st:List Stmt) (g:Fs):Prop where
  un:D2.lV X st g
theorem PS.imp {X:Cx} {e:Stmt} {t t':TS} (h:PS X e t) (i:∀ D σ H,t' D σ H->t D σ H):PS X e t':=fun pins s σ H D I q=>h pins s σ H D I (i D σ H q)
theorem qX.imp {X:Cx} {e:List Stmt} {t t':TS} (h:qX X e t) (i:∀ D σ H,t' D σ H->t D σ H):qX X e t':=fun pins s σ H D I q=>h pins s σ H D I (i D σ H q)
section
variable {X:Cx} {Fm:Hp} {σ:St} {H:Hp} {D:rS}
theorem ml {P:Hp->Hp->PyData->V->Prop} {f:Fe} {k:aQ->PyData->R xm} (h:By X Fm (fun ρ=>f ρ>>=k ρ) D σ H) :
    ka X P f σ H (fun v H1=>∃ ρ d,iY Fm H1 σ ρ/\aF H H1/\P H H1 d v/\Az X Fm (k ρ d) D):=by
  obtain ⟨ρ,sl,q⟩:=h;refine ⟨ρ,sl.sl,?_⟩;dsimp only at q;cases e:f ρ with
  | ok d=>rw [e] at q;exact fun v H1 s p=>⟨ρ,d,sl.mono s,s,p,q⟩
  | ex c=>rw [e] at q;exact q.1.mono sl.fm
  | no=>rw [e] at q;exact q
theorem vg {f:aQ->R Bool} {k:aQ->Bool->R xm} (h:By X Fm (fun ρ=>f ρ>>=k ρ) D σ H):AG X f σ H (fun b H1=>∃ ρ,iY Fm H1 σ ρ/\aF H H1/\Az X Fm (k ρ b) D):=by
  obtain ⟨ρ,sl,q⟩:=h;refine ⟨ρ,sl.sl,?_⟩;dsimp only at q;cases e:f ρ with
  | ok d=>rw [e] at q;exact fun H1 s=>⟨ρ,sl.mono s,s,q⟩
  | ex c=>rw [e] at q;exact q.1.mono sl.fm
  | no=>rw [e] at q;exact q
end
noncomputable def dX:Fs:=fun ρ=>.ok (.nx ρ)
noncomputable def vw (h:Fs):xm->R xm
  | .nx ρ=>h ρ
  | o=>.ok o
noncomputable def aY (g h:Fs):Fs:=fun ρ=>g ρ>>=vw h
noncomputable def lK (t:aQ->R Bool) (g h:Fs):Fs:=fun ρ=>t ρ>>=fun b=>if b=true then g ρ else h ρ
noncomputable def cR (f:Fe):Fs:=fun ρ=>f ρ>>=fun d=>.ok (.rt d)
noncomputable def bT (i:Nat) (f:Fe):Fs:=fun ρ=>f ρ>>=fun d=>.ok (.nx (ρ.set i (.val d)))
noncomputable def gP (i:Nat) (f:Fe):Fs:=fun ρ=>f ρ>>=fun d=>.ok (.nx (ρ.set i (.own d)))
section
variable {X:Cx} {nl:Nat} {G:List Str} {st:Stmt} {sts:List Stmt} {g h:Fs} {f:Fe} {e:Expr} {pos pos':Pos} {x:Str}
theorem cK  : Z.lV X [] dX:=⟨fun Fm=>qX.imp Af fun D σ H ⟨ρ,sl,q⟩=>q σ H sl⟩
theorem aj (h1:Z.kN X st g) (h2:Z.lV X sts h):Z.lV X (st::sts) (aY g h):=⟨have h1:=h1.un;have h2:=h2.un;fun Fm=>by
  refine qX.imp (nN (h1 Fm) (h2 Fm)) fun D σ H ⟨ρ,sl,q⟩=>⟨ρ,sl,?_⟩
  unfold aY at q;cases e:g ρ with
  | ex c=>rw [e] at q;exact q
  | no=>rw [e] at q;exact q
  | ok o =>
    rw [e] at q;cases o with
    | nx ρ'=>exact fun σ' H' s'=>⟨ρ',s',q⟩
    | rt d=>exact q
    | bk ρ'=>exact q
    | ct ρ'=>exact q⟩
theorem ar (h1:Z.kN X st g):Z.lV X [st] g:=⟨have h1:=h1.un;fun Fm=>uZ (h1 Fm)⟩
theorem aO (he:Z.cx X e f):Z.kN X (.Return (some e) pos) (cR f):=⟨have he:=he.un;fun Fm =>
  PS.imp (Cd he) fun D σ H h=>(ml (P:=ie) (f:=f) (k:=fun _ d=>.ok (.rt d)) h).post fun v H1 ⟨ρ,d,sl,_,p,q⟩=>q v H1 sl.fm p⟩
theorem cX {c:Expr} {a b:List Stmt} {t:aQ->R Bool} (hc:Z.ny X c t) (ha:Z.lV X a g) (hb:Z.lV X b h):Z.kN X (.If c a b pos) (lK t g h):=⟨have hc:=hc.un;have ha:=ha.un;have hb:=hb.un;fun Fm =>
  PS.imp (El hc (ha Fm) (hb Fm)) fun D σ H q=>(vg (f:=t) (k:=fun ρ b=>if b=true then g ρ else h ρ) q).post fun b H1 ⟨ρ,sl,_,q⟩=>by
    cases b with
    | true=>exact ⟨ρ,sl,q⟩
    | false=>exact ⟨ρ,sl,q⟩⟩
theorem Sl.set {H:Hp} {σ:St} {ρ:aQ} {c:bh} {o:Option V} (h:Sl H σ ρ) (i:Nat) (hc:jx H c o):Sl H (σ.set i o) (ρ.set i c):=by
  refine ⟨by rw [List.length_set,List.length_set];exact h.1,fun j c' o' h1 h2=>?_⟩;rw [List.getElem?_set] at h1 h2;by_cases hij:i=j
  · rw [if_pos hij] at h1 h2;by_cases hi:i < ρ.length
    · rw [if_pos hi] at h1;rw [if_pos (by rw [h.1];exact hi)] at h2;cases h1;cases h2;exact hc
    · rw [if_neg hi] at h1;cases h1
  · rw [if_neg hij] at h1 h2;exact h.2 j c' o' h1 h2
theorem bX {ρ:aQ} {i j:Nat} {c:bh} {d:PyData} (hc:∀ e,c≠.own e) (h:(ρ.set i c)[j]?=some (.own d)):i≠j/\ρ[j]?=some (.own d):=by
  rw [List.getElem?_set] at h;by_cases hij:i=j
  · rw [if_pos hij] at h;split at h
    · exact absurd (Option.some.inj h) (hc d)
    · cases h
  · rw [if_neg hij] at h;exact ⟨hij,h⟩
theorem iY.set {Fm H:Hp} {σ:St} {ρ:aQ} {c:bh} {o:Option V} (h:iY Fm H σ ρ) (i:Nat) (hn:∀ e,c≠.own e) (hc:jx H c o):iY Fm H (σ.set i o) (ρ.set i c):=by
  refine ⟨h.fm,h.sl.set i hc,fun j d a h1 h2=>?_,fun j k d e a h1 h2 h3 h4=>?_⟩
  · obtain ⟨ne,h1⟩:=bX hn h1;rw [List.getElem?_set,if_neg ne] at h2;exact h.own j d a h1 h2
  · obtain ⟨ne,h1⟩:=bX hn h1;obtain ⟨ne',h2⟩:=bX hn h2;rw [List.getElem?_set,if_neg ne] at h3;rw [List.getElem?_set,if_neg ne'] at h4;exact h.apart j k d e a h1 h2 h3 h4
theorem qS {H:Hp} {d:PyData} {v:V} (h:i9 H d v):∃ a o,v=.ref a/\H a=some o:=by
  cases d <;> simp only [i9] at h
  · obtain ⟨a,vs,e,ha,_⟩:=h;exact ⟨a,_,e,ha⟩
  · obtain ⟨a,vs,e,ha,_⟩:=h;exact ⟨a,_,e,ha⟩
theorem iY.setOwn {Fm H0 H:Hp} {σ:St} {ρ:aQ} {d:PyData} {v:V} (h0:iY Fm H0 σ ρ) (h:iY Fm H σ ρ) (hs:aF H0 H) (i:Nat) (hn:Do H0 H d v):iY Fm H (σ.set i (some v)) (ρ.set i (.own d)):=by
  obtain ⟨p,a,rfl,ha⟩:=hn;have old:∀ (j:Nat) (e:PyData) (b:Addr),i≠j->(ρ.set i (.own d))[j]?=some (.own e)->(σ.set i (some (.ref a)))[j]?=some (some (.ref b))->ρ[j]?=some (.own e)/\σ[j]?=some (some (.ref b)):=fun j e b ne h1 h2=>by
    rw [List.getElem?_set,if_neg ne] at h1 h2;exact ⟨h1,h2⟩
  have notA:∀ (j:Nat) (e:PyData),ρ[j]?=some (.own e)->σ[j]?=some (some (.ref a))->False:=fun j e h1 h2=>by
    obtain ⟨u,e1,q⟩:=h0.sl.2 j _ _ h1 h2;cases e1;obtain ⟨b,o,e2,hb⟩:=qS q;cases e2;rw [ha] at hb;cases hb
  have here:∀ (b:Addr),(σ.set i (some (.ref a)))[i]?=some (some (.ref b))->b=a:=fun b h2=>by
    rw [List.getElem?_set,if_pos rfl] at h2;split at h2
    · cases h2;rfl
    · cases h2
  refine ⟨h.fm,h.sl.set i ⟨_,rfl,p⟩,fun j e b h1 h2=>?_,fun j k e f b h1 h2 h3 h4=>?_⟩
  · by_cases hij:i=j
    · subst hij;rw [here b h2];exact (h0.fm).free ha
    · obtain ⟨h1,h2⟩:=old j e b hij h1 h2;exact h.own j e b h1 h2
  · by_cases hij:i=j
    · subst hij;have eb:=here b h3;by_cases hik:i=k
      · exact hik
      · obtain ⟨h2,h4⟩:=old k f b hik h2 h4;rw [eb] at h4;exact (notA k f h2 h4).elim
    · obtain ⟨h1,h3⟩:=old j e b hij h1 h3;by_cases hik:i=k
      · subst hik;have eb:=here b h4;rw [eb] at h3;exact (notA j e h1 h3).elim
      · obtain ⟨h2,h4⟩:=old k f b hik h2 h4;exact h.apart j k e f b h1 h2 h3 h4
theorem aR (T:Tb X nl G) (i:Nat) (hN:(X.N.take nl)[i]?=some x) (he:Z.cx X e f) (hs:swapsWith e (some (.Name x pos')) pos.line X.env=pure false:=by rfl):Z.kN X (.Assign [.Name x pos'] e pos) (bT i f):=⟨have he:=he.un;fun Fm=>by
  have hm:=T.loc x (List.mem_of_getElem? hN);have hi:X.N[i]?=some x:=by
    rw [List.getElem?_take] at hN;split at hN
    · exact hN
    · cases hN
  exact PS.imp (xF T.nd hi hm.1 he hs hm.2) fun D σ H h=>(ml (P:=ie) (f:=f) (k:=fun ρ d=>.ok (.nx (ρ.set i (.val d)))) h).post fun v H1 ⟨ρ,d,sl,_,p,q⟩ =>
    q _ H1 (sl.set i (fun e z=>by cases z) ⟨v,rfl,p⟩)⟩
theorem gB (T:Tb X nl G) (i:Nat) (hN:(X.N.take nl)[i]?=some x) (he:Z.o5 X e f) (hs:swapsWith e (some (.Name x pos')) pos.line X.env=pure false:=by rfl):Z.kN X (.Assign [.Name x pos'] e pos) (gP i f):=⟨have he:=he.un;fun Fm=>by
  have hm:=T.loc x (List.mem_of_getElem? hN);have hi:X.N[i]?=some x:=by
    rw [List.getElem?_take] at hN;split at hN
    · exact hN
    · cases hN
  refine PS.imp (xF T.nd hi hm.1 he hs hm.2) fun D σ H h=>?_
  obtain ⟨ρ0,sl0,q0⟩:=h;refine ⟨ρ0,sl0.sl,?_⟩;unfold gP at q0;cases ef:f ρ0 with
  | ex c=>rw [ef] at q0;exact q0.1.mono sl0.fm
  | no=>rw [ef] at q0;exact q0
  | ok d =>
    rw [ef] at q0;exact fun v H1 s p=>q0 _ H1 (iY.setOwn sl0 (sl0.mono s) s i p)⟩
end
structure zK (J:It) (Gd:Hp->Prop) (ds:List PyData):Prop where
  go:∀ i H,Gd H->i < ds.length->J.go i H
  yld:∀ i H x H' d,Gd H->ds[i]?=some d->J.yld i H x H'->aF H H'/\Rp H' d x
  stop:∀ i H,Gd H->ds.length<=i->J.stop i H
noncomputable def EJ (H0:Hp) (B:Addr->Prop) (Gd:Hp->Prop):Prop:=∀ H,Kp H0 H->(∀ b o,B b->H0 b=some o->H b=some o)->Gd H
noncomputable def FJ (X:Cx) (f:aQ->R (List PyData)):TI:=fun σ H Rk=>∃ ρ,Sl H σ ρ/\match f ρ with
  | .ok ds=>∀ J H',aF H H'->(∃ Gd,zK J Gd ds/\EJ H' (fun _=>False) Gd)->Rk J H'
  | .ex c=>Xw X c H
  | .no=>False
noncomputable def sY (X:Cx) (tg iter:Expr) (f:aQ->R (List PyData)):Prop:=PI X tg iter (FJ X f)
structure Z.sY (X:Cx) (tg iter:Expr) (f:aQ->R (List PyData)):Prop where
  un:D2.sY X tg iter f
noncomputable def FG (X:Cx) (b:PyData->aQ->Option aQ):TG:=fun v σ H Q=>∃ ρ d,Sl H σ ρ/\Rp H d v/\match b d ρ with
  | some ρ'=>∀ σ',Sl H σ' ρ'->(∀ (i:Nat) (e:PyData),ρ'[i]?=some (.own e)->ρ[i]?=some (.own e)/\σ'[i]?=σ[i]?)->Q σ' H
  | none=>False
noncomputable def sW (X:Cx) (tg:Expr) (b:PyData->aQ->Option aQ):Prop:=PG X tg (FG X b)
structure Z.sW (X:Cx) (tg:Expr) (b:PyData->aQ->Option aQ):Prop where
  un:D2.sW X tg b
noncomputable def aX (i:Nat):PyData->aQ->Option aQ:=fun d ρ=>some (ρ.set i (.val d))
theorem PG.imp {X:Cx} {e:Expr} {t t':TG} (h:PG X e t) (i:∀ v σ H Q,t' v σ H Q->t v σ H Q):PG X e t':=fun pins s σ H v u Q I r q=>h pins s σ H v u Q I r (i v σ H Q q)
theorem PI.imp {X:Cx} {tg e:Expr} {t t':TI} (h:PI X tg e t) (i:∀ σ H Q,t' σ H Q->t σ H Q):PI X tg e t':=fun pins s σ H Q I q=>h pins s σ H Q I (i σ H Q q)
section
variable {X:Cx} {nl:Nat} {G:List Str} {x:Str} {pos:Pos}
theorem Tb.nm (T:Tb X nl G) {i:Nat} (hN:(X.N.take nl)[i]?=some x):X.N[i]?=some x/\Bu X.env.scope x/\(X.fn x=true\/X.env.scope.names.lookup x=some .local):=by
  have hm:=T.loc x (List.mem_of_getElem? hN);have hi:X.N[i]?=some x:=by
    rw [List.getElem?_take] at hN;split at hN
    · exact hN
    · cases hN
  exact ⟨hi,hm⟩
theorem ba (T:Tb X nl G) (i:Nat) (hN:(X.N.take nl)[i]?=some x):Z.sW X (.Name x pos) (aX i):=⟨by
  obtain ⟨hi,h1,h2⟩:=T.nm hN;refine PG.imp (jU T.nd hi h1 h2) fun v σ H Q ⟨ρ,d,sl,p,q⟩=>?_
  refine q _ (sl.set i ⟨v,rfl,p⟩) fun j e h=>?_
  obtain ⟨ne,h⟩:=bX (fun e z=>by cases z) h;exact ⟨h,by rw [List.getElem?_set,if_neg ne]⟩⟩
end
noncomputable def fg (b:PyData->aQ->Option aQ) (g:Fs):List PyData->Fs
  | [],ρ=>.ok (.nx ρ)
  | d::ds,ρ=>match b d ρ with
    | none=>.no
    | some ρ1=>g ρ1>>=fun o=>match o with
      | .nx ρ2=>fg b g ds ρ2
      | .ct ρ2=>fg b g ds ρ2
      | .bk ρ2=>.ok (.nx ρ2)
      | .rt r=>.ok (.rt r)
noncomputable def ji (it:aQ->R (List PyData)) (b:PyData->aQ->Option aQ) (g:Fs):Fs:=fun ρ=>it ρ>>=fun ds=>fg b g ds ρ
noncomputable def stab (Fm H:Hp):Hp:=fun b=>match H b with
  | some (.tup xs)=>some (.tup xs)
  | some (.frz o u)=>some (.frz o u)
  | _=>Fm b
theorem wD {Fm H:Hp} (h:aF Fm H):aF (stab Fm H) H:=fun b o e=>by
  unfold stab at e;split at e
  · rename_i q;rw [q];exact e
  · rename_i q;rw [q];exact e
  · exact h b o e
theorem AB {Fm H:Hp}:Kp H (stab Fm H):=⟨fun b xs e=>by unfold stab;rw [e],fun b o u e=>by unfold stab;rw [e]⟩
theorem zR {Fm H:Hp} (h:aF Fm H):aF Fm (stab Fm H):=fun b o e=>by
  have:=h b o e;unfold stab;split
  · rename_i q;rw [this] at q;exact q.symm
  · rename_i q;rw [this] at q;exact q.symm
  · exact e
theorem iY.stab {Fm H:Hp} {σ:St} {ρ:aQ} (h:iY Fm H σ ρ):iY (stab Fm H) H σ ρ:=by
  refine ⟨wD h.fm,h.sl,fun i d a h1 h2=>?_,h.apart⟩;have f:=h.own i d a h1 h2;obtain ⟨u,e1,q⟩:=h.sl.2 i _ _ h1 h2;cases e1;unfold D2.stab;cases d <;> simp only [i9] at q
  · obtain ⟨b,vs,e,hb,_⟩:=q;cases e;rw [hb];exact f
  · obtain ⟨b,vs,e,hb,_⟩:=q;cases e;rw [hb];exact f
theorem iY.unstab {Fm F H:Hp} {σ:St} {ρ:aQ} (hF:aF Fm F) (h:iY F H σ ρ):iY Fm H σ ρ:=⟨hF.trans h.fm,h.sl,fun i d a h1 h2=>hF.free (h.own i d a h1 h2),h.apart⟩
theorem eL {X:Cx} {tg iter:Expr} {body:List Stmt} {it:aQ->R (List PyData)} {b:PyData->aQ->Option aQ} {g:Fs} {pos:Pos} (hp:PassesOwn (model X.prog X.w) X.A X.env X.xe) (hc:X.calm=true) (hi:Z.sY X tg iter it) (hg:Z.sW X tg b) (hb:Z.lV X body g) (hs:∀ x,foldedSetIterable iter X.env x=pure x:=by intro _;rfl):Z.kN X (.For tg iter body [] pos) (ji it b g):=⟨have hi:=hi.un;have hg:=hg.un;have hb:=hb.un;fun Fm=>by
  intro pins s σ H D I h;obtain ⟨ρ,sl,q⟩:=h;unfold ji at q
  -- the frame: what is stable at the loop's i4 is only known behind the iterator's making: the body is taken at every frame
  refine Ca (wi:=FJ X it) (g:=FG X b) (tb:=fun D' σ' H'=>∃ F,By X F g D' σ' H') hp hc hi hg (fun pins' s' σ' H' D' I' ⟨F,q'⟩=>hb F pins' s' σ' H' D' I' q') hs pins s σ H D I ?_;refine ⟨ρ,sl.sl,?_⟩;cases ei:it ρ with
  | ex c=>rw [ei] at q;exact q.1.mono sl.fm
  | no=>rw [ei] at q;exact q
  | ok ds =>
    rw [ei] at q;intro J H1 s1 ⟨Gd,idt,sta⟩;have sl1:=sl.mono s1;let F:=stab Fm H1
    have hF:aF Fm F:=zR sl1.fm
    -- the word: so many items are taken,and the eT gives what the whole gives
    refine ⟨fun i m σ' H'=>m=ds.length-i/\i<=ds.length/\∃ ρ',iY F H' σ' ρ'/\Az X Fm (fg b g (ds.drop i) ρ') D,⟨ds.length,by simp,Nat.zero_le _,ρ,sl1.stab,by simpa using q⟩,?_⟩;rintro i m σ2 H2 ⟨rfl,hi',ρ2,sl2,q2⟩;have gd:Gd H2:=sta H2 (Kp.trans AB (Kp.of sl2.fm)) fun _ _ z=>z.elim
    by_cases hlt:i < ds.length
    · refine .inr ⟨idt.go i H2 gd hlt,fun σ' H'=>i+1<=ds.length/\∃ ρ',iY F H' σ' ρ'/\Az X Fm (fg b g (ds.drop (i+1)) ρ') D,fun σ' H' ⟨z,p⟩=>⟨ds.length-(i+1),by omega,rfl,z,p⟩,fun x H3 y=>?_⟩;obtain ⟨d,hd⟩:∃ d,ds[i]?=some d:=⟨ds[i],List.getElem?_eq_getElem hlt⟩
      obtain ⟨s3,p3⟩:=idt.yld i H2 x H3 d gd hd y;have hdrop:ds.drop i=d::ds.drop (i+1):=by
        rw [List.drop_eq_getElem_cons hlt];congr 1;exact Option.some.inj ((List.getElem?_eq_getElem hlt).symm.trans hd)
      rw [hdrop] at q2;unfold fg at q2;have sl3:=sl2.mono s3;refine ⟨ρ2,d,sl3.sl,p3,?_⟩;cases eb:b d ρ2 with
      | none=>rw [eb] at q2;exact q2
      | some ρ3 =>
        rw [eb] at q2;intro σ4 sl4 hown;refine ⟨F,ρ3,⟨sl3.fm,sl4,fun j e a h1 h2=>?_,fun j k e f a h1 h2 h3 h4=>?_⟩,?_⟩
        · obtain ⟨z1,z2⟩:=hown j e h1;exact sl3.own j e a z1 (by rw [<- z2];exact h2)
        · obtain ⟨z1,z2⟩:=hown j e h1;obtain ⟨z3,z4⟩:=hown k f h2;exact sl3.apart j k e f a z1 z3 (by rw [<- z2];exact h3) (by rw [<- z4];exact h4)
        · have q3:Az X Fm (g ρ3>>=fun o=>match o with
            | .nx ρ2=>fg b g (ds.drop (i+1)) ρ2
            | .ct ρ2=>fg b g (ds.drop (i+1)) ρ2
            | .bk ρ2=>.ok (.nx ρ2)
            | .rt r=>.ok (.rt r)) D:=q2
          cases eg:g ρ3 with
          | ex c=>rw [eg] at q3;exact ⟨q3.1.mono hF,q3.2.mono hF⟩
          | no=>rw [eg] at q3;exact q3
          | ok o =>
            rw [eg] at q3;cases o with
            | nx ρ4=>exact fun σ' H' s'=>⟨hlt,ρ4,s',q3⟩
            | ct ρ4=>exact fun σ' H' s'=>⟨hlt,ρ4,s',q3⟩
            | bk ρ4=>exact fun σ' H' s'=>q3 σ' H' (s'.unstab hF)
            | rt r=>exact fun v H' s' p'=>q3 v H' (hF.trans s') p'
    · have e:i=ds.length:=by omega
      subst e;refine .inl ⟨idt.stop _ H2 gd (Nat.le_refl _),?_⟩;rw [List.drop_length] at q2;exact q2 σ2 H2 (sl2.unstab hF)⟩
noncomputable def dM (n:Nat) (g:Fs):List PyData->R PyData:=fun ds=>g (ds.map bh.val++List.replicate (n-ds.length) .non)>>=fun o=>match o with
  | .rt d=>.ok d
  | .nx _=>.ok .none
  | _=>.no
noncomputable def du (F:List PyData->R PyData) (n:Nat):Sp:=fun vs H Q E=>∃ ds,bx H ds vs/\ds.length=n/\match F ds with
  | .ok d=>∀ v H',aF H H'->Rp H' d v->Q v H'
  | .ex c=>∀ H',aF H H'->E (.str c 0) none H'
  | .no=>False
theorem x8 {H:Hp} {N:List Str}:∀ {ds:List PyData} {vs:List V},bx H ds vs->Sl H (L2.i4 N vs) (ds.map bh.val++List.replicate (N.length-ds.length) .non):=fun {ds vs} r=>by
  have hl:=r.length;refine ⟨by unfold L2.i4;rw [List.length_append,List.length_append,List.length_map,List.length_map,List.length_replicate,List.length_replicate,hl],fun i c o h1 h2=>?_⟩;by_cases hi:i < ds.length
  · rw [List.getElem?_append_left (by simpa using hi),List.getElem?_map] at h1;cases e:ds[i]? with
    | none=>rw [e] at h1;cases h1
    | some d =>
      rw [e] at h1;cases h1;obtain ⟨v,e1,p⟩:=r.get e;unfold L2.i4 at h2;rw [List.getElem?_append_left (by rw [List.length_map,hl];exact hi),List.getElem?_map,e1] at h2;cases h2;exact ⟨v,rfl,p⟩
  · rw [List.getElem?_append_right (by simpa using hi),List.getElem?_replicate] at h1;split at h1
    · cases h1;exact True.intro
    · cases h1
section
variable {P:Program} {w:World} {H:Hp} {h:Heap} {a:Addr}
theorem rb:∀ {o:HO},bS P w H h a o->∃ u,h.get? a=some u
  | .lst xs,x=>by obtain ⟨_,_,_,_,e⟩:=x;exact ⟨_,e⟩
  | .tup xs,x=>by obtain ⟨_,_,_,o,e,_⟩:=x;exact ⟨_,e⟩
  | .dK kvs,x=>by obtain ⟨_,_,_,_,o,_,_,e,_⟩:=x;exact ⟨_,e⟩
  | .dT kvs,x=>by obtain ⟨_,_,_,_,o,_,_,e,_⟩:=x;exact ⟨_,e⟩
  | .set S n,x=>by obtain ⟨o,_,_,_,e,_⟩:=x;exact ⟨_,e⟩
  | .ins C dx fs,x=>by obtain ⟨_,_,_,e,_⟩:=x;exact ⟨_,e⟩
  | .own y,x=>by obtain ⟨_,e⟩:=x;exact ⟨_,e⟩
  | .xd fs,x=>by obtain ⟨_,⟨_,_,_,e,_⟩,_⟩:=x;exact ⟨_,e⟩
  | .rng lo hi,x=>by obtain ⟨_,_,_,e⟩:=x;exact ⟨_,e⟩
  | .frz ob u,x=>by obtain ⟨e,_⟩:=x;exact ⟨_,e⟩
  | .tbl ps,x=>⟨_,(show h.get? a=some _ from x)⟩
  | .met f y,x=>⟨_,(show h.get? a=some _ from x)⟩
  | .ext φ,x=>by obtain ⟨_,⟨_,e⟩,_⟩:=x;exact ⟨_,e⟩
end
theorem qJ.un {P:Program} {w:World} {outer:List Env} {H H':Hp} {s s':Shared} {C:Addr} {e:Value} (f:qJ P w outer H s C H' e s'):Un (lG outer) [] H H' s.heap s'.heap:=by
  obtain ⟨p,a0,B,_,fl,ok,_,cov⟩:=f.ex;refine ⟨fun b o q n hb _=>fl.1 _ _ (cov b o q n hb).1,fun b o q n hb _=>(f.slot b o q n hb).1,fun b o q n _=>?_,fun b o q _=>?_,fun b xs q=>f.same _ _ q,fun b o u q=>f.same _ _ q,fun b ps q=>⟨#[],by rw [f.same _ _ q];simp⟩⟩
  · by_cases hb:b∈lG outer
    · exact (f.slot b o q n hb).2
    · exact (cov b o q n hb).2
  · cases n:H b with
    | none =>
      by_cases hb:b∈lG outer
      · obtain ⟨sl,z⟩:=(f.slot b o q n hb).1;exact ⟨_,z⟩
      · exact ⟨o,fl.1 _ _ (cov b o q n hb).1⟩
    | some u =>
      obtain ⟨o',z⟩:=rb (ok b u (f.same _ _ n));exact ⟨o',fl.1 _ _ z⟩
theorem qJ.hok {P:Program} {w:World} {outer:List Env} {H H':Hp} {s s':Shared} {C:Addr} {e:Value} (f:qJ P w outer H s C H' e s'):iB P w H' s'.heap:=by
  obtain ⟨p,a0,B,_,fl,ok,_,_⟩:=f.ex;exact ok.kept fun b u q=>fl.1 b u q
theorem Cs.un {P:Program} {w:World} {outer:List Env} {H H':Hp} {s s':Shared} {C:Addr} {e:Value} (f:Cs P w outer H s C H' e s'):Un (lG outer) [] H H' s.heap s'.heap:=f.hld.un
theorem qJ.inv {X:Cx} {pins:List (Addr×Obj)} {σ:St} {Hc H1:Hp} {sc s':Shared} {C:Addr} {e:Value} (f:qJ X.prog X.w X.stack Hc sc C H1 e s') (I:aP X pins σ Hc sc):aP X pins σ H1 s' :=
  I.call' f.os f.un f.hok f.bare fun b z=>absurd z (by simp)
section
variable {P:Program} {w:World} {l:List Env} {H H':Hp} {s s':Shared} {C p:Addr} {e:Value}
theorem qJ.again {a0:Value} {B h':Heap} (f:qJ P w l H s C H' e s') (t:sB B l p (.ref C) a0 s'.heap) (t':sB B l p (.ref C) a0 h') (up:s'.heap.UpToSlots h') (okB:iB P w H' B) (hp:H' p=none)
    (cov:∀ b o,s.heap.get? b=some o->H b=none->b∉lG l->B.get? b=some o/\H' b=none):qJ P w l H s C H' (.ref p) { s' with heap:=h' }:=by
  refine ⟨f.os,f.bare,f.same,⟨p,a0,B,rfl,t',okB,hp,cov⟩,fun b o q n hb=>?_⟩;obtain ⟨⟨sl,q2⟩,n2⟩:=f.slot b o q n hb;obtain ⟨_,o3,q3,nf⟩:=t.2.2.1.mem hb;rw [q2] at q3;cases q3;obtain ⟨sl3,q4⟩:=up b _ q2 nf;exact ⟨⟨sl3,q4⟩,n2⟩
theorem yV {x:Value} {env env0:Env} (h:env.frame=env0.frame):noteFrame x env=noteFrame x env0:=by
  unfold noteFrame PySem.frameOf;rw [h]
theorem qJ.note {M:Model} {A:Around} {E:Value->Shared->Prop} {Q:Unit->Shared->Prop} {env env0:Env} {outer:List Env} {L:Addr} (f:qJ P w l H s C H' e s') (hl:l=env0::outer) (hfr:A.frames=some l) (h0:env0.frame=some L) (h1:env.frame=some L)
    (k:∀ h',qJ P w l H s C H' e { s' with heap:=h' }->s'.heap.UpToSlots h'->Q () { s' with heap:=h' }):wpAny M A (noteFrame e env) Q E s':=by
  subst hl;obtain ⟨p,a0,B,rfl,t,okB,hp,cov⟩:=f.ex;rw [yV (h1.trans h0.symm)];exact sS hfr h0 t fun h' t' up=>k h' (f.again t t' up okB hp cov) up
theorem qJ.pass {α:Type} {M:Model} {A:Around} {E:Value->Shared->Prop} {Q:α->Shared->Prop} {env:Env} {what:String} (f:qJ P w l H s C H' e s') (k:∀ h',qJ P w l H s C H' e { s' with heap:=h' }->E e { s' with heap:=h' }):wpAny M A (PySem.passOn what e env:Sem α) Q E s':=by
  obtain ⟨p,a0,B,rfl,t,okB,hp,cov⟩:=f.ex;exact xV t fun h' t' up=>k h' (f.again t t' up okB hp cov)
end
section
variable {P:Program} {w:World} {K:PySem.W.Frag} {mg:Str->Option Value} {base:Heap} {N:List Str} {qual:Str} {sc:Scope} {f:Addr} {cdv:Value} {A:Around} {outer:List Env} {s:Shared} {H:Hp} {E:XK} {c:Str}
theorem CY (h:∀ H',aF H H'->E (.str c 0) none H'):Xw (fV (cU P w mg) P w K mg base N qual sc f cdv A outer s H E) c H:=by
  intro H1 s1 C hm pins σ Hc sc' e s' I fl;obtain ⟨p,a0,B,rfl,fly,okB,hp,cov⟩:=fl.ex;have old:∀ b o,s.heap.get? b=some o->b≠s.heap.objs.size:=fun b o q=>Nat.ne_of_lt (Heap.lt_size q)
  refine wa I.ok.frames rfl fly fun h' fl' up=>⟨c,C,H1,hm,⟨fl.os.trans I.os,fl.bare,s1,⟨p,a0,B,rfl,fl',okB,hp,fun b o q n hb=>?_⟩,fun b o q n hb=>?_⟩,h H1 s1⟩
  · have q1:=I.base.keep b o q n hb (by simp [fV]);have n1:=I.base.free b o q n (by simp [fV]);refine cov b o q1 n1 fun z=>?_
    have z':b∈(s.heap.objs.size::lG outer):=z;rcases List.mem_cons.mp z' with z2 | z2
    · exact old b o q z2
    · exact hb z2
  · obtain ⟨sl,q1⟩:=I.base.slot b o q n hb (by simp [fV]);have n1:=I.base.free b o q n (by simp [fV]);have hb':b∈lG (fV (cU P w mg) P w K mg base N qual sc f cdv A outer s H E).stack:=List.mem_cons_of_mem _ hb;obtain ⟨⟨sl',q2⟩,n2⟩:=fl.slot b _ q1 n1 hb';obtain ⟨_,o3,q3,nf⟩:=fly.2.2.1.mem hb';rw [q2] at q3;cases q3;obtain ⟨sl3,q4⟩:=up b _ q2 nf;exact ⟨⟨sl3,q4⟩,n2⟩
theorem zS (h:∀ H',aF H H'->E (.str c 0) none H'):Ds (fV (cU P w mg) P w K mg base N qual sc f cdv A outer s H E) c H:=by
  intro C hm pins σ Hm sm sH I h' p vs hx;have hin:∀ env∈(fV (cU P w mg) P w K mg base N qual sc f cdv A outer s H E).stack,∀ b,env.frame=some b->b∈lG (fV (cU P w mg) P w K mg base N qual sc f cdv A outer s H E).stack:=fun env he b hb=>List.mem_filterMap.mpr ⟨env,he,hb⟩
  have old:∀ b o,s.heap.get? b=some o->b≠s.heap.objs.size:=fun b o q=>Nat.ne_of_lt (Heap.lt_size q)
  refine wpAny_leaves_madeW (s:={ sm with heap:=h' }) (base:=PySem.W.hideAll sm.heap (lG (fV (cU P w mg) P w K mg base N qual sc f cdv A outer s H E).stack)) I.ok.frames rfl (fun b o q=>PySem.W.of_hideAll _ q) (PySem.W.funFrames_hide I.stack hin) hx fun h'' t fl' _ _ up =>
    ⟨c,C,Hm,hm,⟨I.os,I.bare,sH,⟨p,.ref t,_,rfl,fl',fun b u q=>?_,?_,fun b o q n hb=>?_⟩,fun b o q n hb=>?_⟩,h Hm sH⟩
  · refine (I.hok b u q).stay (fun c' v hc z=>PySem.W.hideAll_get _ z fun m=>?_) (fun _ z=>z) fun _ _ z=>z
    have hn:=I.stkFree c' m;rcases hc with rfl | hc
    · rw [hn] at q;cases q
    · rw [hn] at hc;cases hc
  · cases q:Hm p with
    | none=>rfl
    | some u =>
      obtain ⟨o',z⟩:=rb (I.hok p u q);rw [hx.new] at z;cases z
  · have q1:=I.base.keep b o q n hb (by simp [fV]);have n1:=I.base.free b o q n (by simp [fV]);refine ⟨PySem.W.hideAll_get _ q1 fun z=>?_,n1⟩;have z':b∈(s.heap.objs.size::lG outer):=z;rcases List.mem_cons.mp z' with z2 | z2
    · exact old b o q z2
    · exact hb z2
  · obtain ⟨sl,q1⟩:=I.base.slot b o q n hb (by simp [fV]);have n1:=I.base.free b o q n (by simp [fV]);have hb':b∈lG (fV (cU P w mg) P w K mg base N qual sc f cdv A outer s H E).stack:=List.mem_cons_of_mem _ hb;obtain ⟨_,o3,q3,nf⟩:=I.stack.mem hb';rw [q1] at q3;cases q3;obtain ⟨sl3,q4⟩:=up b _ (hx.keeps _ _ q1) nf;exact ⟨⟨sl3,q4⟩,n1⟩
end
theorem AH {P:Program} {w:World} {K:PySem.W.Frag} {mg:Str->Option Value} {base:Heap} {x qual:Str} {st:Stmt} {f:Addr} {fd:FuncData} {N ps:List Str} {k:Nat} {g:Fs} (F:gN K x qual st f fd) (S:aV N ps (ai st))
    (body:∀ (cdv:Value) (A:Around) (outer:List Env) (s:Shared) (H:Hp) (E:XK),fx k (A.deeper (envOfC qual (ai st) s.heap.objs.size f cdv)) ->
      lV (fV (cU P w mg) P w K mg base N qual (ai st) f cdv A outer s H E) (cV st) g):bg P w K mg base (cU P w mg) (k+1) f fd ps (du (dM N.length g) ps.length):=by
  obtain ⟨oc,od,kV,doc,pm,an,cdv,ct,osl,rfl,lk,hcd⟩:=F.ex;refine yl lk hcd S (fun vs H Q E ⟨ds,r,hl,_⟩=>by rw [r.length];exact hl) fun A outer s H vs Q E hr h=>?_
  obtain ⟨ds,r,hl,q⟩:=h;have noOwn:∀ (i:Nat) (d:PyData),(ds.map bh.val++List.replicate (N.length-ds.length) bh.non)[i]?=some (.own d)->False:=fun i d h1=>by
    by_cases hi:i < ds.length
    · rw [List.getElem?_append_left (by simpa using hi),List.getElem?_map] at h1;cases e:ds[i]? with
      | none=>rw [e] at h1;cases h1
      | some d=>rw [e] at h1;cases h1
    · rw [List.getElem?_append_right (by simpa using hi),List.getElem?_replicate] at h1;split at h1
      · cases h1
      · cases h1
  refine ⟨_,body cdv A outer s H E hr H,_,⟨aF.refl _,x8 r,fun i d a h1 h2=>(noOwn i d h1).elim,fun i j d e a h1 h2 h3 h4=>(noOwn i d h1).elim⟩,?_⟩;unfold dM at q;cases eg:g (ds.map bh.val++List.replicate (N.length-ds.length) .non) with
  | ex c=>rw [eg] at q;exact ⟨CY q,zS q⟩
  | no=>rw [eg] at q;exact q.elim
  | ok o =>
    rw [eg] at q;cases o with
    | rt d=>exact fun v H' s' p=>q v H' s' p
    | nx ρ=>exact fun σ' H' s'=>q .non H' s'.fm (by simp only [Rp])
    | bk ρ=>exact q.elim
    | ct ρ=>exact q.elim
noncomputable def aJ (F:List PyData->R PyData) (fs:aQ->R (List PyData)):Fe:=fun ρ=>fs ρ>>=F
theorem A9 {X:Cx} {k n:Nat} {f:Addr} {fd:FuncData} {ps:List Str} {F:List PyData->R PyData} {x:Str} {p pos:Pos} {e:Expr} {es:List Expr} {fs:aQ->R (List PyData)} {nl:Nat} {G:List Str}
    (C:bg X.prog X.w X.K X.mg X.base (cU X.prog X.w X.mg) k f fd ps (du F n)) (hr:fx k X.A) (T:Tb X nl G) (j:Nat) (hG:G[j]?=some x) (hm:X.mg x=some (.ref f)) (hk:PySem.W.keepIn X.K (.ref f)=true) (hb:bF X.K fd ps []) (ha:uG X (e::es) fs)
    (hlen:(e::es).length=n) (hfs:∀ ρ ds,fs ρ=.ok ds->ds.length=n)
    (he:(e::es).all aT=true:=by rfl):cx X (.Call (.Name x p) (e::es) [] pos) (aJ F fs):=by
  rw [List.all_cons,Bool.and_eq_true] at he;have g:=T.gl x (List.mem_of_getElem? hG);refine PE.imp (A6 C hr g.1 hm hk hb .nil u6 ha g.2.1 (bo he.1) (nW he.2)) fun σ H Q ⟨ρ,sl,q⟩=>?_
  refine ⟨ρ,sl,?_⟩;unfold aJ at q;cases e1:fs ρ with
  | ex c=>rw [e1] at q;exact q
  | no=>rw [e1] at q;exact q
  | ok ds =>
    rw [e1] at q;intro vs H1 s1 r1;rw [List.append_nil];refine ⟨ds,oV.mp r1,hfs ρ ds e1,?_⟩;have q':uI X ie (F ds) H Q:=q;cases e2:F ds with
    | ok d=>rw [e2] at q';exact fun v H' s' p'=>q' v H' (s1.trans s') p'
    | ex c=>rw [e2] at q';exact fun H' s'=>Xw.ex q' H' (s1.trans s')
    | no=>rw [e2] at q';exact q'
theorem aw:∀ ρ ds,aI ρ=.ok ds->ds.length=0:=fun ρ ds e=>by cases e;rfl
theorem ag {f:Fe} {g:aQ->R (List PyData)} {n:Nat} (h:∀ ρ ds,g ρ=.ok ds->ds.length=n):∀ ρ ds,ah f g ρ=.ok ds->ds.length=n+1:=fun ρ ds e=>by
  unfold ah at e;cases e1:f ρ with
  | ex c=>rw [e1] at e;cases e
  | no=>rw [e1] at e;cases e
  | ok d =>
    rw [e1] at e;cases e2:g ρ with
    | ex c=>rw [e2] at e;cases e
    | no=>rw [e2] at e;cases e
    | ok ds'=>rw [e2] at e;cases e;rw [List.length_cons,h ρ ds' e2]
theorem ua {scope:Scope} {env:Env} (h:∀ x∈scope.names,x.2=.free->∃ c,env.cells.lookup x.1=some c) :
    ∃ cl,closureFor scope env=pure cl/\(∀ x c,cl.lookup x=some c->env.cells.lookup x=some c)/\∀ x∈scope.names,x.2=.free->∃ c,cl.lookup x.1=some c:=by
  suffices gen:∀ (names:List (Str×NameKind)) (acc:List (Str×Addr)),(∀ x∈names,x.2=.free->∃ c,env.cells.lookup x.1=some c)->(∀ x c,acc.lookup x=some c->env.cells.lookup x=some c) ->
      ∃ cl,(forIn names acc fun x r=>if (x.snd==NameKind.free)=true then do let a <- cellOf env x.fst;pure (ForInStep.yield ((x.fst,a)::r)) else pure (ForInStep.yield r):Sem (List (Str×Addr)))=pure cl /\
        (∀ x c,cl.lookup x=some c->env.cells.lookup x=some c)/\(∀ x c,acc.lookup x=some c->∃ c',cl.lookup x=some c')/\∀ x∈names,x.2=.free->∃ c,cl.lookup x.1=some c by
    obtain ⟨cl,h1,h2,_,h4⟩:=gen scope.names [] h fun x c e=>by simp at e
    refine ⟨cl,?_,h2,h4⟩;simp only [closureFor];rw [h1];rfl
  intro names;induction names with
  | nil=>intro acc _ ha;exact ⟨acc,rfl,ha,fun x c e=>⟨c,e⟩,fun x hx=>by cases hx⟩
  | cons y r ih =>
    intro acc hn ha;obtain ⟨n,k⟩:=y;by_cases hk:k=.free
    · subst hk;obtain ⟨c,hc⟩:=hn (n,.free) List.mem_cons_self rfl;obtain ⟨cl,e1,e2,e3,e4⟩:=ih ((n,c)::acc) (fun x hx=>hn x (List.mem_cons_of_mem _ hx)) (fun x c' e=>by
        rw [List.lookup_cons] at e;split at e
        · rename_i q;have:x=n:=by simpa using q
          subst this;cases e;exact hc
        · exact ha x c' e)
      refine ⟨cl,?_,e2,fun x c' e=>?_,fun x hx hf=>?_⟩
      · rw [List.forIn_cons];have:cellOf env n=pure c:=by unfold cellOf;rw [hc]
        simp only [beq_self_eq_true,if_true,this,pure_bind];exact e1
      · by_cases hx:x=n
        · subst hx;exact e3 x c (by rw [List.lookup_cons];simp)
        · have hb:(x==n)=false:=by simpa using hx
          exact e3 x c' (by rw [List.lookup_cons,hb];exact e)
      · rcases List.mem_cons.mp hx with rfl | hx
        · exact e3 n c (by rw [List.lookup_cons];simp)
        · exact e4 x hx hf
    · obtain ⟨cl,e1,e2,e3,e4⟩:=ih acc (fun x hx=>hn x (List.mem_cons_of_mem _ hx)) ha;refine ⟨cl,?_,e2,e3,fun x hx hf=>?_⟩
      · rw [List.forIn_cons];have:(k==NameKind.free)=false:=by simpa using hk
        simp only [this,Bool.false_eq_true,if_false,pure_bind];exact e1
      · rcases List.mem_cons.mp hx with rfl | hx
        · exact absurd hf hk
        · exact e4 x hx hf
noncomputable def D7 (env:Env) (p:Str×NameKind):NameKind:=if (p.2==.free&&env.scope.kind==.function&&env.kindOf p.1==some .cell)=true then .cell else p.2
theorem o6 (scope:Scope) (env:Env):(relabel scope env).names=scope.names.map fun p=>(p.1,D7 env p):=by
  unfold relabel;refine List.map_congr_left fun p _=>?_
  obtain ⟨n,k⟩:=p;unfold D7;dsimp only;split <;> rfl
theorem mJ (g:Str×NameKind->NameKind) (x:Str):∀ l:List (Str×NameKind),(l.map fun p=>(p.1,g p)).lookup x=(l.lookup x).map fun k=>g (x,k)
  | []=>rfl
  | (n,k)::r=>by
    rw [List.map_cons];cases hx:x==n with
    | true =>
      have e:x=n:=by simpa using hx
      subst e;simp
    | false =>
      have ne:¬ x=n:=by simpa using hx
      simp only [List.lookup_cons,hx];exact mJ g x r
theorem kl (scope:Scope) (env:Env) (x:Str):(relabel scope env).names.lookup x=(scope.names.lookup x).map fun k=>D7 env (x,k):=by
  rw [o6];exact mJ _ _ _
theorem ft {scope:Scope} {env:Env} {x:Str} {k:NameKind} (h:scope.names.lookup x=some k) (hk:k≠.free):(relabel scope env).names.lookup x=some k:=by
  rw [kl,h];have:(k==NameKind.free)=false:=by simpa using hk
  simp only [D7,this,Bool.false_and,Bool.false_eq_true,if_false,Option.map_some]
theorem kP {scope:Scope} {env:Env} {x:Str} (h:scope.names.lookup x=some .free):(relabel scope env).names.lookup x=some .free\/(relabel scope env).names.lookup x=some .cell:=by
  rw [kl,h];unfold D7;dsimp only [Option.map_some];split
  · exact .inr rfl
  · exact .inl rfl
theorem sE {scope:Scope} {env:Env} {x:Str} (hc:∀ y∈scope.names,y.2≠.cell) (h:(relabel scope env).names.lookup x=some .free\/(relabel scope env).names.lookup x=some .cell):(x,NameKind.free)∈scope.names:=by
  cases e:scope.names.lookup x with
  | none =>
    rw [kl,e] at h;rcases h with h | h <;> cases h
  | some k =>
    by_cases hk:k=.free
    · subst hk;exact PySem.mem_of_lookup e
    · exfalso;have:=ft (env:=env) e hk;rw [this] at h;rcases h with h | h
      · cases h;exact hk rfl
      · cases h;exact hc _ (PySem.mem_of_lookup e) rfl
noncomputable def bj (X:Cx) (N:List Str) (scope:Scope) (cl:List (Str×Addr)) (C:Addr) (s:Shared) (H:Hp) (fp:List Addr) (E:Value->Shared->Prop:=fun _ _=>False):Cx :=
  { X with N:=N,s₀:=s,H₀:=H,env:=compEnvC scope cl C X.env,outer:=X.stack,stack:=X.stack,ex:=fp,fn:=fun _=>false,pn:=[],xe:=E }
noncomputable def fI (sc:Scope) (N:List Str) (own:Nat) (G:List Str) (oN:List Str) (fr:List Nat):Prop :=
  sc.kind=.function/\(∀ y∈sc.names,y.2≠.cell)/\(∀ y∈sc.names,y.2=.local->sc.names.lookup y.1=some .local)/\N.Nodup/\(∀ x∈N.take own,sc.names.lookup x=some .local)/\(∀ x∈N.drop own,sc.names.lookup x=some .free) /\
  (∀ x∈N,(x==("__debug__" : Str))=false/\(x==("__classdict__" : Str))=false)/\(∀ x∈G,sc.names.lookup x=some .globalImplicit/\(x==("__debug__" : Str))=false/\x≠("__name__" : Str)) /\
  own<=N.length/\(N.drop own).map some=fr.map fun i=>oN[i]?
noncomputable instance {sc:Scope} {N:List Str} {own:Nat} {G oN:List Str} {fr:List Nat}:Decidable (fI sc N own G oN fr):=by unfold fI;infer_instance
theorem Ax {X:Cx} {nl:Nat} {G0:List Str} (T:Tb X nl G0) {sc:Scope} {N:List Str} {own:Nat} {G oN:List Str} {fr:List Nat} (ck:fI sc N own G oN fr) (cl:List (Str×Addr)) (C:Addr) (s:Shared) (H:Hp) (fp:List Addr) :
    Tb (bj X N sc cl C s H fp) own G:=by
  obtain ⟨_,_,_,nd,l,f,db,g,_,_⟩:=ck;refine ⟨T.hu,T.calm,nd,fun x hx=>?_,fun x hx=>?_,fun x hx=>?_⟩
  · refine ⟨?_,db x hx⟩;have hx':x∈N.take own++N.drop own:=by rw [List.take_append_drop];exact hx
    rcases List.mem_append.mp hx' with z | z
    · exact .inl (ft (l x z) (by decide))
    · rcases kP (env:=X.env) (f x z) with q | q
      · exact .inr (.inr q)
      · exact .inr (.inl q)
  · have q:=ft (env:=X.env) (l x hx) (by decide);exact ⟨.inl q,.inr q⟩
  · obtain ⟨g1,g2,g3⟩:=g x hx;exact ⟨ft (env:=X.env) g1 (by decide),g2,g3⟩
theorem yz {X:Cx} {nl:Nat} {G0:List Str} (T:Tb X nl G0) {sc:Scope} {N:List Str} {own:Nat} {G oN:List Str} {fr:List Nat} (ck:fI sc N own G oN fr) (cl:List (Str×Addr)) (C:Addr) (s:Shared) (H:Hp) (fp:List Addr) (E:Value->Shared->Prop) :
    Tb (bj X N sc cl C s H fp E) own G:=let T1:=Ax T ck cl C s H fp;⟨T1.hu,T1.calm,T1.nd,T1.vis,T1.loc,T1.gl⟩
noncomputable def F5 (X:Cx) (ifs:List Expr) (t:TT):Prop :=
  ∀ (pins:List (Addr×Obj)) (s:Shared) (σ:St) (H:Hp) (Q:Bool->Hp->Prop),aP X pins σ H s->t σ H Q->wpAny (model X.prog X.w) X.A (forIn ifs true fun c r=>if r=true then do let ok <- isTrue c X.env (eval c X.env);pure (ForInStep.yield ok) else pure (ForInStep.yield r))
    (TP X pins σ Q) X.xe s
noncomputable def wo (X:Cx) (ifs:List Expr) (t:aQ->R Bool):Prop:=F5 X ifs (AG X t)
structure Z.wo (X:Cx) (ifs:List Expr) (t:aQ->R Bool):Prop where
  un:D2.wo X ifs t
theorem cu {X:Cx}:Z.wo X [] (fun _=>.ok true):=⟨fun pins s σ H Q I ⟨ρ,sl,q⟩=>wpAny_tests_nil ⟨H,I,q H (aF.refl _)⟩⟩
theorem fq {X:Cx} {c:Expr} {t:aQ->R Bool} (h:Z.ny X c t):Z.wo X [c] t:=⟨have h:=h.un;fun pins s σ H Q I q=>wpAny_tests_one (h pins s σ H Q I q)⟩
noncomputable def bI (b:PyData->aQ->Option aQ) (t:aQ->R Bool) (f:Fe) (ρ:aQ):List PyData->R (List PyData)
  | []=>.ok []
  | d::ds=>match b d ρ with
    | none=>.no
    | some ρ1=>t ρ1>>=fun k=>if k=true then f ρ1>>=fun x=>bI b t f ρ ds>>=fun xs=>.ok (x::xs) else bI b t f ρ ds
noncomputable def aC (own:Nat) (fr:List Nat) (ρ:aQ):aQ:=List.replicate own .non++fr.map fun i=>ρ.getD i .non
noncomputable def mw {α:Type}:R α->R α
  | .ex _=>.no
  | r=>r
noncomputable def bO (it:aQ->R (List PyData)) (own:Nat) (fr:List Nat) (b:PyData->aQ->Option aQ) (t:aQ->R Bool) (f:Fe):Fe:=fun ρ =>
  mw (it ρ)>>=fun ds=>if ds.length<=sizeLine then match bI b t f (aC own fr ρ) ds with
    | .ok xs=>.ok (.list xs)
    | .ex c=>.ex c
    | .no=>.no
  else .no
noncomputable def ib (own:Nat) (fr:List Nat) (σ:St):St:=List.replicate own none++fr.map fun i=>(σ[i]?).join
theorem AD {H:Hp} {σ:St} {ρ:aQ} (h:Sl H σ ρ) (own:Nat) (fr:List Nat) (hin:∀ i∈fr,i < ρ.length):Sl H (ib own fr σ) (aC own fr ρ):=by
  refine ⟨by simp [ib,aC],fun i c o h1 h2=>?_⟩;unfold aC at h1;unfold ib at h2;by_cases hi:i < own
  · rw [List.getElem?_append_left (by simpa using hi),List.getElem?_replicate,if_pos hi] at h1;cases h1;exact True.intro
  · rw [List.getElem?_append_right (by simpa using hi),List.getElem?_map,List.length_replicate] at h1 h2;cases e:fr[i-own]? with
    | none=>rw [e] at h1;cases h1
    | some j =>
      rw [e] at h1 h2;have hj:=hin j (List.mem_of_getElem? e);have hj':j < σ.length:=by rw [h.1];exact hj
      cases h1;cases h2;refine h.2 j _ _ ?_ ?_
      · show ρ[j]?=some (ρ.getD j .non);rw [List.getD_eq_getElem?_getD,List.getElem?_eq_getElem hj];rfl
      · show σ[j]?=some ((σ[j]?).join);rw [List.getElem?_eq_getElem hj'];rfl
section
variable {X:Cx} {pins:List (Addr×Obj)} {σ:St} {H:Hp} {s:Shared} {nl:Nat} {G0:List Str} {sc:Scope} {N:List Str} {own:Nat} {G:List Str} {fr:List Nat} {cl:List (Str×Addr)} {fp:List Addr} {a C:Addr} {h4:Heap} {t4:Nat} {m:Str->Option Value}
theorem xN (I:aP X pins σ H s) (ck:fI sc N own G X.N fr) (hf:∀ b∈fp,lN X pins H b) (hob:∀ b∈fp,b < s.heap.objs.size) (hcl1:∀ x c,cl.lookup x=some c->X.env.cells.lookup x=some c) (hcl2:∀ x∈sc.names,x.2=.free->∃ c,cl.lookup x.1=some c)
    (vis:∀ x∈X.N,BM X.env.scope x) (hout:∀ y∈sc.names,y.2=.free->X.env.kindOf y.1=some .cell\/X.env.kindOf y.1=some .free)
    (ha:s.heap.objs.size<=a) (hC:s.heap.objs.size<=C) (hac:a≠C) (keep:∀ b o,s.heap.get? b=some o->h4.get? b=some o) (hl:h4.get? a=some { cls:=.type "list",data:=.seq #[] 0 }) (hn:h4.Ns C m) :
    aP (bj X N sc cl C s H fp) [] (ib own fr σ) (cw H a (.lst [])) { s with heap:=h4,toks:=t4 }:=by
  obtain ⟨ck1,ck2,ck3,nd,l,f,db,g,ol,ofr⟩:=ck;have hHa:H a=none:=I.hok.fresh ha;have hHC:H C=none:=I.hok.fresh hC;have lt:∀ {b:Addr} {o:Obj},s.heap.get? b=some o->b < s.heap.objs.size:=fun e=>Heap.lt_size e
  have cellLt:∀ x c,cl.lookup x=some c->c < s.heap.objs.size:=fun x c e=>by
    obtain ⟨v,q⟩:=I.cell x c (hcl1 x c e);exact q.lt
  refine ⟨⟨I.ok.mod,ck1,I.ok.glob,I.ok.blt,hC,fun x y c h1 h2=>I.ok.inj x y c (hcl1 x c h1) (hcl1 y c h2),fun x hx=>?_,fun x c hx=>(Bool.false_ne_true hx).elim,I.ok.hd,I.ok.frames,.inl rfl,fun b hb=>⟨?_,fun x c e=>?_⟩,I.bs,Nat.le_trans I.ok.bsz I.sz,fun b o e hb=>?_,fun b hb hs=>?_,I.stack,I.stkFree⟩,
    rfl,I.bare,Un.laid keep ha hHa,⟨m,hn,fun i x v h1 h2 h3=>?_⟩,fun x c e=>?_,?_,fun x c e=>?_,fun p hp=>?_,?_,?_⟩
  · have q:=sE (env:=X.env) ck2 (show (relabel sc X.env).names.lookup x=some .free\/(relabel sc X.env).names.lookup x=some .cell from hx.elim .inr .inl);exact hcl2 _ q rfl
  · exact Nat.ne_of_lt (Nat.lt_of_lt_of_le (hob b hb) hC)
  · exact (hf b hb).2.2.2.2.1 x c (hcl1 x c e)
  · rcases (hf b hb).2.2.2.1 with z | z
    · exact I.ok.noex b o e z
    · exact absurd (Nat.lt_of_lt_of_le (Heap.lt_size e) I.ok.bsz) (Nat.not_lt.mpr z)
  · rcases List.mem_cons.mp (I.stkSub b hs) with z | z
    · exact (hf b hb).2.1 z
    · exact (hf b hb).2.2.1 z
  · -- a captured name
    have hi:¬ i < own:=fun hi=>by
      unfold ib at h2;rw [List.getElem?_append_left (by simpa using hi),List.getElem?_replicate,if_pos hi] at h2;cases h2
    unfold ib at h2;rw [List.getElem?_append_right (by simpa using hi),List.getElem?_map,List.length_replicate] at h2;cases e:fr[i-own]? with
    | none=>rw [e] at h2;cases h2
    | some j =>
      rw [e] at h2;have h2':(σ[j]?).join=some v:=Option.some.inj h2;have hσ:σ[j]?=some (some v):=by
        cases q:σ[j]? with
        | none=>rw [q] at h2';cases h2'
        | some o=>rw [q] at h2';exact congrArg some h2'
      have hx:(N.drop own)[i-own]?=some x:=by
        rw [List.getElem?_drop];have:own+(i-own)=i:=by omega
        rw [this];exact h1
      have hj:X.N[j]?=some x:=by
        have q:=congrArg (fun l=>l[i-own]?) ofr;simp only [List.getElem?_map,hx,e,Option.map_some] at q;exact (Option.some.inj q).symm
      have hfree:=f x (List.mem_of_getElem? hx);obtain ⟨c,hc⟩:=hcl2 _ (PySem.mem_of_lookup hfree) rfl;have hXc:=hcl1 x c hc;obtain ⟨m0,hn0,hl0⟩:=I.loc;obtain ⟨u,ru,lk⟩:=hl0 j x v hj hσ (vis x (List.mem_of_getElem? hj));have ko:=hout _ (PySem.mem_of_lookup hfree) rfl;refine ⟨u,ru,.inr ⟨(kP (env:=X.env) hfree).symm,c,hc,?_⟩⟩;rcases lk with ⟨k1,_⟩ | ⟨_,c',e1,ob,q1,q2⟩
      · exfalso;rcases ko with k | k <;> (rw [k] at k1;cases k1)
      · rw [hXc] at e1;cases e1;exact ⟨ob,keep _ _ q1,q2⟩
  · obtain ⟨v,o,q,d⟩:=I.cell x c (hcl1 x c e);exact ⟨v,o,keep _ _ q,d⟩
  · show cw H a (.lst []) C=none;rw [av (Ne.symm hac)];exact hHC
  · have q:=I.freeC x c (hcl1 x c e);show cw H a (.lst []) c=none;rw [av (Nat.ne_of_lt (Nat.lt_of_lt_of_le (cellLt x c e) ha))];exact q
  · exact absurd (show p∈([]:List (Addr×Obj)) from hp) (by simp)
  · exact I.hok.laid keep ha ⟨Nat.zero_le _,[],0,.nil,hl⟩
  · show (ib own fr σ).length=N.length;have q:=congrArg List.length ofr;rw [List.length_map,List.length_map,List.length_drop] at q;unfold ib;rw [List.length_append,List.length_replicate,List.length_map];omega
end
noncomputable def nc (ρ0 ρ1:aQ):Prop:=ρ1.length=ρ0.length/\∀ (i:Nat) (c:bh),ρ0[i]?=some c->c=.non\/ρ1[i]?=some c
theorem Sl.unfit {H:Hp} {σ:St} {ρ0 ρ1:aQ} (h:Sl H σ ρ1) (f:nc ρ0 ρ1):Sl H σ ρ0:=by
  refine ⟨h.1.trans f.1,fun i c o h1 h2=>?_⟩;rcases f.2 i c h1 with rfl | q
  · exact True.intro
  · exact h.2 i c o q h2
noncomputable def xO (H0:Hp) (σ:St) (ρ:aQ):Prop:=∀ (i:Nat) (e:PyData),ρ[i]?=some (.own e)->∃ v,σ[i]?=some (some v)/\i9 H0 e v
theorem xh {X:Cx} {J:It} {tn:Nat->Heap->Prop} {it a:Addr} {fp:List Addr} {tg iter elt:Expr} {ifs:List Expr} {scope:Scope} {pos:Pos} {b:PyData->aQ->Option aQ} {t:aQ->R Bool} {f:Fe} {ds:List PyData} {r:R (List PyData)} {Gd:Hp->Prop} {H0:Hp} {ρ0:aQ}
    {Rk:Result->Shared->Prop} (T:rd X.prog X.w X.K tg J fp it tn) (calm:X.calm=true) (hfp:∀ H:Hp,(∀ b∈fp,H b=none)->∀ b∈fp,lN X [] H b) (hxe:∀ e s',X.xe e s'->notedBy (model X.prog X.w) X.A X.env (fun x s'=>Rk (.error x) s') e s') (hX:∀ c,r=.ex c->Xw X c H0) (hno:r≠.no) (hg:sW X tg b) (ht:wo X ifs t) (hf:cx X elt f)
    (idt:zK J Gd ds) (sta:EJ H0 (fun _=>False) Gd) (hsz:ds.length<=sizeLine) (ha0:H0 a=none) (hb0:∀ d ρ1,b d ρ0=some ρ1->nc ρ0 ρ1)
    (fin:∀ xs s' σ' H' vs,r=.ok xs->aP X [] σ' H' s'->aF H0 H'->H' a=some (.lst vs)->bx H' xs vs->Rk (.ok .next) s') :
    ∀ {s:Shared} {σ:St} {H:Hp},aP X [] σ H s->tn 0 s.heap->(∀ b∈fp,H b=none)->aF H0 H->H a=some (.lst [])->bI b t f ρ0 ds=r->Sl H σ ρ0->xO H0 σ ρ0 ->
      codeAny (model X.prog X.w) X.A (.compLoop (.ListComp elt [⟨tg,iter,ifs,0⟩] scope pos) 0 (.ref it) (.ref a) X.env) Rk s:=by
  intro s σ H I st fr s0 hla hc sl ow;refine codeAny_loop rfl (fun n s=>∃ i acc σ H vs,n=ds.length-i/\i<=ds.length/\acc.length<=i/\aP X [] σ H s/\tn i s.heap/\(∀ b∈fp,H b=none)/\aF H0 H/\H a=some (.lst vs)/\bx H acc vs/\(bI b t f ρ0 (ds.drop i)>>=fun eT=>.ok (acc++eT))=r /\
    Sl H σ ρ0/\xO H0 σ ρ0) (fun n s hI=>?_) ds.length ⟨0,[],σ,H,[],by simp,Nat.zero_le _,Nat.le_refl _,I,st,fr,s0,hla,bx.nil,by rw [List.drop_zero,hc];cases r <;> rfl,sl,ow⟩
  clear I st fr s0 hla hc sl ow;obtain ⟨i,acc,σ,H,vs,rfl,hi,hal,I,st,fr,s0,hla,ra,hc,sl,ow⟩:=hI;show wpAny _ X.A ((compTurn (.ListComp elt [⟨tg,iter,ifs,0⟩] scope pos) 0 (.ref it) (.ref a) X.env).onRaise (fun x=>do noteFrame x X.env;theTreesLotGoes x)) _ _ s;refine wpAny_noted ?_;rw [compTurn_list];have gd:Gd H:=sta H (Kp.of s0) fun _ _ z=>z.elim
  have noex:∀ {α:Type} {m:Sem α} {Q Q':α->Shared->Prop} {s:Shared},wpAny (model X.prog X.w) X.A m Q X.xe s->(∀ v s,Q v s->Q' v s)->wpAny (model X.prog X.w) X.A m Q' (notedBy (model X.prog X.w) X.A X.env (fun x s'=>Rk (.error x) s')) s:=fun h k =>
    wpAny_mono h k hxe
  by_cases hlt:i < ds.length
  · obtain ⟨d,hd⟩:∃ d,ds[i]?=some d:=⟨ds[i],List.getElem?_eq_getElem hlt⟩
    have hdrop:ds.drop i=d::ds.drop (i+1):=by
      rw [List.drop_eq_getElem_cons hlt];congr 1;exact Option.some.inj ((List.getElem?_eq_getElem hlt).symm.trans hd)
    rw [hdrop] at hc;unfold bI at hc;refine wpAny_bind (wpAny_standAt (wpAny_bind (dg (T.item X rfl rfl rfl calm i [] s σ H _ I (hfp H fr) st (idt.go i H gd hlt)) fun r s1 ⟨u,hr,h1⟩=>?_)));subst hr;refine wpAny_bind (dg h1 fun _ s2 ⟨x,H2,I2,r2,y2,st2,fr2⟩=>?_);obtain ⟨s02,p2⟩:=idt.yld i H x H2 d gd hd y2;have I2':=I2.pinned (hfp H2 fr2) (T.obj _ _ st2);have back:∀ {σ':St} {H':Hp} {s':Shared},aP X ([]++oJ fp s2.heap) σ' H' s'->aP X [] σ' H' s'/\tn (i+1) s'.heap/\∀ b∈fp,H' b=none:=fun {σ' H' s'} J' =>
      ⟨J'.unpinned,T.keep _ _ _ st2 fun b hb o e=>(J'.pin (b,o) (List.mem_append_right _ (List.mem_append_right _ (iH hb e)))).1,fun b hb=>by
        obtain ⟨o,e,_⟩:=T.obj _ _ st2 b hb;exact (J'.pin (b,o) (List.mem_append_right _ (List.mem_append_right _ (iH hb e)))).2.1⟩
    cases eb:b d ρ0 with
    | none=>rw [eb] at hc;exact absurd hc.symm hno
    | some ρ1 =>
      rw [eb] at hc;dsimp only at hc;have hfit:=hb0 d ρ1 eb;refine wpAny_bind (noex (hg _ s2 σ H2 x u (fun σ' H'=>H'=H2/\Sl H2 σ' ρ1/\∀ (i:Nat) (e:PyData),ρ1[i]?=some (.own e)->ρ0[i]?=some (.own e)/\σ'[i]?=σ[i]?) I2' r2 ⟨ρ0,d,sl.mono s02,p2,by rw [eb];exact fun σ' sl' w'=>⟨rfl,sl',w'⟩⟩) fun _ s3 ⟨σ3,H3,I3,e3,sl3,w3⟩=>?_);subst e3;have ow3:xO H0 σ3 ρ0:=fun j e h=>by
        obtain ⟨v,z1,z2⟩:=ow j e h;rcases hfit.2 j _ h with z | z
        · cases z
        · exact ⟨v,by rw [(w3 j e z).2];exact z1,z2⟩
      cases et:t ρ1 with
      | no=>rw [et] at hc;exact absurd hc.symm hno
      | ex c =>
        rw [et] at hc;exact wpAny_bind (noex (ht _ s3 σ3 H3 (fun _ _=>False) I3 ⟨ρ1,sl3,by rw [et];exact (hX c hc.symm).mono (s0.trans s02)⟩) fun ok s4 ⟨H4,I4,z⟩=>z.elim)
      | ok k =>
        rw [et] at hc;refine wpAny_bind (noex (ht _ s3 σ3 H3 (fun b' H'=>b'=k/\aF H3 H') I3 ⟨ρ1,sl3,by rw [et];exact fun H' s'=>⟨rfl,s'⟩⟩) fun ok s4 ⟨H4,I4,e4,s34⟩=>?_);subst e4;have s04:=(s0.trans s02).trans s34;have hla4:H4 a=some (.lst vs):=s34 _ _ (s02 _ _ hla);have ra4:bx H4 acc vs:=(ra.mono s02).mono s34;cases ok with
        | false =>
          obtain ⟨J1,J2,J3⟩:=back I4;have hc':(bI b t f ρ0 (ds.drop (i+1))>>=fun eT=>.ok (acc++eT))=r:=hc;exact wpAny_pure ⟨rfl,ds.length-(i+1),by omega,i+1,acc,σ3,H4,vs,rfl,hlt,by omega,J1,J2,J3,s04,hla4,ra4,hc',(sl3.unfit hfit).mono s34,ow3⟩
        | true =>
          have hc':((f ρ1>>=fun x=>bI b t f ρ0 (ds.drop (i+1))>>=fun xs=>.ok (x::xs))>>=fun eT=>.ok (acc++eT))=r:=hc;cases ef:f ρ1 with
          | no=>rw [ef] at hc';exact absurd hc'.symm hno
          | ex c =>
            rw [ef] at hc';exact wpAny_bind (wpAny_bind (noex (hf _ s4 σ3 H4 (fun _ _=>False) I4 ⟨ρ1,sl3.mono s34,by rw [ef];exact (hX c hc'.symm).mono s04⟩) fun yv s5 ⟨v5,H5,I5,r5,z⟩=>z.elim))
          | ok y =>
              rw [ef,R.ok_bind] at hc';have hc2:(bI b t f ρ0 (ds.drop (i+1))>>=fun eT=>.ok ((acc++[y])++eT))=r:=by
                rw [<- hc'];cases bI b t f ρ0 (ds.drop (i+1)) with
                | ok eT=>simp only [R.ok_bind,List.append_assoc,List.singleton_append]
                | ex c=>rfl
                | no=>rfl
              refine wpAny_bind (wpAny_bind (noex (hf _ s4 σ3 H4 (fun v H'=>aF H4 H'/\Rp H' y v) I4 ⟨ρ1,sl3.mono s34,by rw [ef];exact fun v H' s' p'=>⟨s',p'⟩⟩) fun yv s5 ⟨v5,H5,I5,r5,s45,p5⟩=>?_));have hla5:H5 a=some (.lst vs):=s45 _ _ hla4;have hlen:vs.length < sizeLine:=by
                rw [ra.length];omega
              refine wpAny_bind (noex (pG _ s5 σ3 H5 (.ref a) [v5] (.ref a) [yv] (fun _ H'=>H'=cw H5 a (.lst (vs++[v5]))) I5 rfl (.cons r5 .nil) ⟨a,vs,v5,rfl,rfl,hla5,hlen,rfl⟩) fun _ s6 ⟨v6,H6,I6,r6,e6⟩=>?_);subst e6;obtain ⟨J1,J2,J3⟩:=back I6;have kp:Kp H5 (cw H5 a (.lst (vs++[v5]))):=gA hla5 (.inl ⟨_,rfl⟩);have s06:aF H0 (cw H5 a (.lst (vs++[v5]))):=fun b o e=>by
                rw [av (aU e ha0)];exact (s04.trans s45) b o e
              refine wpAny_pure (wpAny_pure ⟨rfl,ds.length-(i+1),by omega,i+1,acc++[y],σ3,_,vs++[v5],rfl,hlt,by rw [List.length_append,List.length_singleton];omega,J1,J2,J3,s06,bi,?_,hc2,?_,ow3⟩)
              · exact bx.append (bx.kp kp _ _ (ra4.mono s45)) (bx.cons (Rp.kp kp _ _ p5) bx.nil)
              · have sl5:Sl H5 σ3 ρ0:=((sl3.unfit hfit).mono s34).mono s45;refine ⟨sl5.1,fun j c o h1 h2=>?_⟩;cases c with
                | exc p=>exact sl5.2 j _ o h1 h2
                | non=>exact True.intro
                | val d' =>
                  obtain ⟨v',z1,z2⟩:=sl5.2 j _ o h1 h2;exact ⟨v',z1,Rp.kp kp _ _ z2⟩
                | own e' =>
                  obtain ⟨v',z1,z2⟩:=ow3 j e' h1;rw [z1] at h2;cases h2;exact ⟨v',rfl,z2.mono s06⟩
  · have e:i=ds.length:=by omega
    subst e;rw [List.drop_length] at hc;have hr':r=.ok acc:=by rw [<- hc];simp only [bI,R.ok_bind,List.append_nil]
    refine wpAny_bind (wpAny_standAt (wpAny_bind (dg (T.done X rfl rfl rfl calm _ [] s σ H _ I (hfp H fr) st (idt.stop _ H gd (Nat.le_refl _))) fun r s1 ⟨hr,I1⟩=>?_)));subst hr;exact wpAny_pure (fin acc s1 σ H vs hr' I1 s0 hla ra)
theorem iB.but {P:Program} {w:World} {H:Hp} {h1 h2:Heap} {C:Addr} (ok:iB P w H h1) (hC:H C=none) (sb:∀ b o,b≠C->h1.get? b=some o->h2.get? b=some o):iB P w H h2:=fun a o e =>
  (ok a o e).stay (fun b u hb q=>sb b u (by
    rcases hb with rfl | hb
    · exact aU e hC
    · exact aU hb hC) q) (fun _ q=>q) fun _ _ q=>q
theorem kh {h h' base:Heap} {C:Addr} (tp:∀ b o,b≠C->h.get? b=some o->h'.get? b=some o):∀ {l:List Env},C∉lG l->h.FunFrames base l->h'.FunFrames base l
  | [],_,_=>trivial
  | env::l,hC,⟨hk,⟨L,o,hf,hn,ho,hd⟩,hr⟩=>⟨hk,⟨L,o,hf,hn,tp L o (fun z=>hC (List.mem_filterMap.mpr ⟨env,List.mem_cons_self,by rw [hf,z]⟩)) ho,hd⟩,kh tp (fun z=>hC (by
    obtain ⟨e,he,hz⟩:=List.mem_filterMap.mp z;exact List.mem_filterMap.mpr ⟨e,List.mem_cons_of_mem _ he,hz⟩)) hr⟩
theorem ld {X:Cx} {tg iter elt:Expr} {ifs:List Expr} {sc:Scope} {pos pos':Pos} {it:aQ->R (List PyData)} {b:PyData->aQ->Option aQ} {t:aQ->R Bool} {f:Fe} {N:List Str} {own:Nat} {G G0:List Str} {fr:List Nat} {nl:Nat}
    (T:Tb X nl G0) (ck:fI sc N own G X.N fr) (hout:∀ y∈sc.names,y.2=.free->X.env.kindOf y.1=some .cell\/X.env.kindOf y.1=some .free) (hi:sY X tg iter it)
    (hb0:∀ ρ d ρ1,b d (aC own fr ρ)=some ρ1->nc (aC own fr ρ) ρ1)
    (hbody:∀ cl C s H fp E,Tb (bj X N sc cl C s H fp E) own G->sW (bj X N sc cl C s H fp E) tg b/\wo (bj X N sc cl C s H fp E) ifs t/\cx (bj X N sc cl C s H fp E) elt f)
    (hs:∀ x,foldedSetIterable iter X.env x=pure x) {use:Option (Value->Sem Unit)} {Qc:Value->Shared->Prop} {pins:List (Addr×Obj)} {s:Shared} {σ:St} {H:Hp} (I:aP X pins σ H s) {ρ:aQ} {ds:List PyData} {r:R (List PyData)} (sl:Sl H σ ρ) (ei:it ρ=.ok ds)
    (hsz:ds.length<=sizeLine) (ec:bI b t f (aC own fr ρ) ds=r) (hX:∀ c,r=.ex c->Xw X c H) (hno:r≠.no) (hstk:∃ env0 outer0 L,X.stack=env0::outer0/\env0.frame=some L/\X.env.frame=some L)
    (fin:∀ (xs:List PyData) (a C:Addr) (H':Hp) (s':Shared) (m:Str->Option Value) (vs:List V),r=.ok xs->aP X pins σ H' s'->lN X pins H' C->s'.heap.Ns C m->aF H H'->H a=none->H' a=some (.lst vs)->bx H' xs vs->compPost (model X.prog X.w) X.A X.xe use Qc (.ref a) C (.ok .next) s') :
    wpAny (model X.prog X.w) X.A (comprehension (.ListComp elt [⟨tg,iter,ifs,0⟩] sc pos) sc X.env pos' (newList []) false (eval iter X.env) use) Qc X.xe s:=by
  obtain ⟨cl,hcl,hcl1,hcl2⟩:=ua (scope:=sc) (env:=X.env) fun x hx hf=>I.ok.has _ (hout x hx hf)
  have ck':=ck;obtain ⟨ck1,ck2,ck3,_,_,_,_,_,_,ofr⟩:=ck';have hin:∀ i∈fr,i < ρ.length:=fun i hi=>by
    have e1:ρ.length=X.N.length:=by rw [<- sl.1];exact I.len
    rw [e1];obtain ⟨k,hk⟩:=List.getElem?_of_mem hi;have q:=congrArg (fun l=>l[k]?) ofr;simp only [List.getElem?_map,hk,Option.map_some] at q;cases z:(N.drop own)[k]? with
    | none=>rw [z] at q;cases q
    | some y =>
      rw [z] at q;have q':some y=X.N[i]?:=Option.some.inj q;exact (List.getElem?_eq_some_iff.mp q'.symm).1
  refine wpAny_comprehension_free (use:=use) rfl hs hcl ck1 ck3 ?_;refine dg (hi pins s σ H (fun J H1=>aF H H1/\∃ Gd,zK J Gd ds/\EJ H1 (fun _=>False) Gd) I ⟨ρ,sl,by rw [ei];exact fun J H1 s1 z=>⟨s1,z⟩⟩) fun xv s1 h1=>dg h1 fun itv s2 h2=>?_
  obtain ⟨itA,fp,tn,J,H2,e,I2,T2,st2,f2,s02,Gd,idt,sta⟩:=h2;subst e;refine wpAny_newObj_type (wpAny_newFunctionEnv ck2 (by intro y hy;simp at hy) (fun h₁ hns₁ hsb₁=>?_) ck1);dsimp only at hns₁ hsb₁ ⊢;generalize hHp:s2.heap.push { cls:=.type "list",dict:=none,data:=.seq ([]:List Value).toArray }=Hp2 at hns₁ hsb₁ ⊢;have hC:Hp2.objs.size=s2.heap.objs.size+1:=by rw [<- hHp,Heap.size_push]
  have hDC:s2.heap.objs.size≠Hp2.objs.size:=by rw [hC];exact Nat.ne_of_lt (Nat.lt_succ_self _)
  have hCle:s2.heap.objs.size<=Hp2.objs.size:=by rw [hC];exact Nat.le_succ _
  have below:∀ b,b < s2.heap.objs.size->b≠Hp2.objs.size:=fun b hb=>by rw [hC];exact Nat.ne_of_lt (Nat.lt_succ_of_lt hb)
  have old:∀ b o,s2.heap.get? b=some o->h₁.get? b=some o:=fun b o e=>hsb₁.extBut b o (below b (Heap.lt_size e)) (Heap.get?_push_of_some _ (hHp ▸ Heap.get?_push_of_some _ e))
  have hacc:h₁.get? s2.heap.objs.size=some { cls:=.type "list",dict:=none,data:=.seq ([]:List Value).toArray }:=hsb₁.extBut _ _ hDC (Heap.get?_push_of_some _ (hHp ▸ Heap.get?_push_size _ rfl));have hob:∀ b∈fp,b < s2.heap.objs.size:=fun b hb=>by
    obtain ⟨o,e,_⟩:=T2.obj _ _ st2 b hb;exact Heap.lt_size e
  have sl2:Sl H2 σ ρ:=sl.mono s02;have IC:aP (bj X N sc cl Hp2.objs.size s2 H2 fp) [] (ib own fr σ) (cw H2 s2.heap.objs.size (.lst [])) { s2 with heap:=h₁,toks:=s2.toks+([]:List (Str×Value)).length } :=
    xN I2 ck f2 hob hcl1 hcl2 (fun x hx=>(T.vis x hx).1) hout (Nat.le_refl _) hCle hDC old hacc hns₁
  let E:Value->Shared->Prop:=fun e s'=>∃ c Ce pins' σ' H' s1 H1,r=.ex c/\X.mg c=some (.ref Ce)/\aP (bj X N sc cl Hp2.objs.size s2 H2 fp) pins' σ' H' s1/\aF H2 H1/\qJ X.prog X.w X.stack H' s1 Ce H1 e s'
  obtain ⟨hg,ht,hf⟩:=hbody cl Hp2.objs.size s2 H2 fp E (yz T ck cl Hp2.objs.size s2 H2 fp E);have ha0:H2 s2.heap.objs.size=none:=I2.hok.fresh (Nat.le_refl _);have hfp:∀ H':Hp,(∀ b∈fp,H' b=none)->∀ b∈fp,lN (bj X N sc cl Hp2.objs.size s2 H2 fp E) [] H' b:=fun H' hn b hb =>
    ⟨hn b hb,below b (hob b hb),fun z=>by
      rcases List.mem_cons.mp (I2.stkSub b z) with y | y
      · exact (f2 b hb).2.1 y
      · exact (f2 b hb).2.2.1 y,.inl hb,fun x c e=>(f2 b hb).2.2.2.2.1 x c (hcl1 x c e),fun p hp=>absurd (show p∈([]:List (Addr×Obj)) from hp) (by simp)⟩
  have st3:tn 0 h₁:=T2.keep _ _ _ st2 fun b _ o e=>old b o e
  have slC:Sl H2 (ib own fr σ) (aC own fr ρ):=AD sl2 own fr hin;have fin':∀ xs s' σ' H' vs,r=.ok xs->aP (bj X N sc cl Hp2.objs.size s2 H2 fp E) [] σ' H' s'->aF H2 H'->H' s2.heap.objs.size=some (.lst vs)->bx H' xs vs ->
      compPost (model X.prog X.w) X.A X.xe use Qc (.ref s2.heap.objs.size) Hp2.objs.size (.ok .next) s':=fun xs s' σ' H' vs hr J' s2' hv rv=>by
    obtain ⟨m,hn,_⟩:=J'.loc;exact fin xs _ _ H' s' m vs hr (I2.call' (s':=s') (ch:=fp) J'.os J'.base J'.hok J'.bare (fun b hb=>⟨(f2 b hb).2.2.2.1,(f2 b hb).2.1,(f2 b hb).2.2.2.2.1,(f2 b hb).2.2.2.2.2⟩)) (I2.fpOk hCle J'.free) hn (s02.trans s2') (s02.free ha0) hv rv
  have hXc:∀ c,r=.ex c->Xw (bj X N sc cl Hp2.objs.size s2 H2 fp E) c H2:=fun c hr H1 s1 Ce hm pins' σ' H' s1' e s' J f =>
    ⟨c,Ce,pins',σ',H',s1',H1,hr,hm,J.unwish,s1,f⟩
  have hxe:∀ e s',E e s'->notedBy (model X.prog X.w) X.A (compEnvC sc cl Hp2.objs.size X.env) (fun x s'=>compPost (model X.prog X.w) X.A X.xe use Qc (.ref s2.heap.objs.size) Hp2.objs.size (.error x) s') e s':=fun e s' hE=>by
    obtain ⟨c,Ce,pins',σ',H',s1,H1,hr,hm,J,same1,f⟩:=hE;obtain ⟨env0,outer0,L,k1,k2,k3⟩:=hstk;refine f.note k1 I.ok.frames k2 k3 fun h4 f4 up=>?_
    obtain ⟨m,hn,_⟩:=(f4.inv (X:=bj X N sc cl Hp2.objs.size s2 H2 fp) J).loc;refine ⟨m,hn,fun h5 sb cenv _=>?_⟩;have fC:=I2.fpOk hCle J.free;have fC1:H1 Hp2.objs.size=none:=(f4.inv (X:=bj X N sc cl Hp2.objs.size s2 H2 fp) J).free;have nfr:Hp2.objs.size∉lG X.stack:=fun z=>by
      rcases List.mem_cons.mp (I2.stkSub _ z) with y | y
      · exact fC.2.1 y
      · exact fC.2.2.1 y
    have Io:=I2.call' (s':=s1) (ch:=fp) J.os J.base J.hok J.bare (fun b hb=>⟨(f2 b hb).2.2.2.1,(f2 b hb).2.1,(f2 b hb).2.2.2.2.1,(f2 b hb).2.2.2.2.2⟩);have Io2:aP X pins σ H' { s1 with heap:=PySem.W.hideAll s1.heap [Hp2.objs.size],toks:=s1.toks }:=by
      obtain ⟨g0,g1,g2,g3,g4,g5⟩:=fC;exact Io.turned (t':=s1.toks) (fun b o hb q=>PySem.W.hideAll_get _ q (by simpa using hb)) g0 g1 g3 g4 g5
    obtain ⟨p,a0,B,rfl,t,okB,hp,cov⟩:=f4.ex;have stB:(PySem.W.hideAll B [Hp2.objs.size]).StaysIn B:=fun b o q=>PySem.W.of_hideAll _ q
    have hid:∀ {h:Heap} {b:Addr} {o:Obj},(PySem.W.hideAll h [Hp2.objs.size]).get? b=some o->b≠Hp2.objs.size:=fun {h b o} q z=>by
      rw [PySem.W.hideAll_none _ (by rw [z];exact List.mem_singleton.mpr rfl)] at q;cases q
    have tp:∀ b o,b≠Hp2.objs.size->h4.get? b=some o->h5.get? b=some o:=fun b o hb q=>(sb.2 b hb).trans q
    have ne_e:p≠Hp2.objs.size:=fun z=>by
      obtain ⟨oe,vs,q1,_,q2,_⟩:=t.first;obtain ⟨o,es,ep,q3,q4,_⟩:=hn;have q3':h4.get? Hp2.objs.size=some o:=q3;rw [<- z,q1] at q3';cases q3';rw [q2] at q4;cases q4
    have f5:qJ X.prog X.w X.stack H' { s1 with heap:=PySem.W.hideAll s1.heap [Hp2.objs.size],toks:=s1.toks } Ce H1 (.ref p) { s' with heap:=h5 }:=by
      refine ⟨f4.os,f4.bare,f4.same,⟨p,a0,PySem.W.hideAll B [Hp2.objs.size],rfl,?_,?_,hp,fun b o q n hb=>?_⟩,fun b o q n hb=>?_⟩
      · obtain ⟨t1,t2,t3,fl,oe,vs,T',oT,ts,a1,a2,a3,a4,a5,a6,a7,a8,a9⟩:=t;refine ⟨fun b o q=>tp b o (hid q) (t1 b o (stB b o q)),PySem.W.fresh_of_stays stB t2,kh tp nfr (PySem.W.funFrames_base stB t3),fl,oe,vs,T',oT,ts,tp _ _ ne_e a1,a2,a3,a4,PySem.W.fresh_of_stays stB a5,a6,tp _ _ ?_ a7,a8,a9⟩;intro z;obtain ⟨o,es,ep,q3,q4,_⟩:=hn;have q3':h4.get? Hp2.objs.size=some o:=q3;have a7':h4.get? T'=some oT:=a7;rw [<- z,a7'] at q3';cases q3';rw [a8] at q4;cases q4
      · exact iB.but okB fC1 fun b o hb q=>PySem.W.hideAll_get _ q (by simpa using hb)
      · obtain ⟨z1,z2⟩:=cov b o (PySem.W.of_hideAll _ q) n hb;exact ⟨PySem.W.hideAll_get _ z1 (by simpa using hid q),z2⟩
      · obtain ⟨⟨sl',z1⟩,z2⟩:=f4.slot b o (PySem.W.of_hideAll _ q) n hb;exact ⟨⟨sl',tp b _ (hid q) z1⟩,z2⟩
    refine f5.pass fun h6 f6=>?_
    exact hX c hr H1 (s02.trans same1) Ce hm pins σ H' _ _ _ Io2 f6
  have loop:=xh (X:=bj X N sc cl Hp2.objs.size s2 H2 fp E) (iter:=iter) (scope:=sc) (pos:=pos) T2 T.calm hfp hxe hXc hno hg ht hf idt sta hsz ha0 (fun d ρ1 e=>hb0 ρ d ρ1 e) fin' (IC.wish E) st3 (fun b hb=>by
      show cw H2 s2.heap.objs.size (.lst []) b=none;rw [av (Nat.ne_of_lt (hob b hb))];exact (f2 b hb).1) (cf ha0 _) bi ec (slC.mono (cf ha0 _)) (fun i e h=>by
      obtain ⟨o,z1,v,rfl,z2⟩:=slC.at h;exact ⟨v,z1,z2⟩)
  exact codeAny_compStart_list loop (T2.self _ 0 _ _ _ st3 loop)
theorem rz {X:Cx} {tg iter elt:Expr} {ifs:List Expr} {sc:Scope} {pos:Pos} {it:aQ->R (List PyData)} {b:PyData->aQ->Option aQ} {t:aQ->R Bool} {f:Fe} {N:List Str} {own:Nat} {G G0:List Str} {fr:List Nat} {nl:Nat}
    (T:Tb X nl G0) (ck:fI sc N own G X.N fr) (hout:∀ y∈sc.names,y.2=.free->X.env.kindOf y.1=some .cell\/X.env.kindOf y.1=some .free) (hi:sY X tg iter it)
    (hb0:∀ ρ d ρ1,b d (aC own fr ρ)=some ρ1->nc (aC own fr ρ) ρ1)
    (hbody:∀ cl C s H fp E,Tb (bj X N sc cl C s H fp E) own G->sW (bj X N sc cl C s H fp E) tg b/\wo (bj X N sc cl C s H fp E) ifs t/\cx (bj X N sc cl C s H fp E) elt f)
    (hs:∀ x,foldedSetIterable iter X.env x=pure x:=by intro _;rfl) (hstk:∃ env0 outer0 L,X.stack=env0::outer0/\env0.frame=some L/\X.env.frame=some L:=by exact ⟨_,_,_,rfl,rfl,rfl⟩):o5 X (.ListComp elt [⟨tg,iter,ifs,0⟩] sc pos) (bO it own fr b t f):=by
  intro pins s σ H Q I h;obtain ⟨ρ,sl,q⟩:=h;unfold bO at q;rw [eval_ListComp];cases ei:it ρ with
  | ex c=>rw [ei] at q;exact q.elim
  | no=>rw [ei] at q;exact q.elim
  | ok ds =>
    rw [ei] at q;simp only [mw,R.ok_bind] at q;split at q
    · rename_i hsz;cases ec:bI b t f (aC own fr ρ) ds with
      | no=>rw [ec] at q;exact q.elim
      | ex c =>
        rw [ec] at q;exact ld (use:=none) T ck hout hi hb0 hbody hs I sl ei hsz ec (fun c' hr=>by cases hr;exact q) (fun z=>nomatch z) hstk fun xs a C H' s' m vs hr=>by cases hr
      | ok xs =>
        rw [ec] at q;refine ld (use:=none) T ck hout hi hb0 hbody hs I sl ei hsz ec (fun c' hr=>by cases hr) (fun z=>nomatch z) hstk fun xs' a C H' s' m vs hr I' fC hn s2' ha hv rv=>?_
        cases hr;obtain ⟨f0,f1,f2,f3,f4,f5⟩:=fC;refine ⟨m,hn,fun h' sb=>⟨.ref a,H',I'.turned (t':=s'.toks) (fun b o hb e=>sb.extBut b o hb e) f0 f1 f3 f4 f5,rfl,?_⟩⟩;refine q _ H' s2' ⟨?_,_,rfl,ha⟩;simp only [i9];exact ⟨_,vs,rfl,hv,rv⟩
    · exact q.elim
theorem BW {X:Cx} {tg iter elt:Expr} {ifs:List Expr} {sc:Scope} {pos:Pos} {it:aQ->R (List PyData)} {b:PyData->aQ->Option aQ} {t:aQ->R Bool} {f:Fe} {N:List Str} {own:Nat} {G G0:List Str} {fr:List Nat} {nl:Nat} (T:Tb X nl G0) (ck:fI sc N own G X.N fr) (hout:∀ y∈sc.names,y.2=.free->X.env.kindOf y.1=some .cell\/X.env.kindOf y.1=some .free) (hi:Z.sY X tg iter it) (hb0:∀ ρ d ρ1,b d (aC own fr ρ)=some ρ1->nc (aC own fr ρ) ρ1) (hbody:∀ cl C s H fp E,Tb (bj X N sc cl C s H fp E) own G->Z.sW (bj X N sc cl C s H fp E) tg b/\Z.wo (bj X N sc cl C s H fp E) ifs t/\Z.cx (bj X N sc cl C s H fp E) elt f) (hs:∀ x,foldedSetIterable iter X.env x=pure x:=by intro _;rfl) (hstk:∃ env0 outer0 L,X.stack=env0::outer0/\env0.frame=some L/\X.env.frame=some L:=by exact ⟨_,_,_,rfl,rfl,rfl⟩):Z.o5 X (.ListComp elt [⟨tg,iter,ifs,0⟩] sc pos) (bO it own fr b t f) :=
  ⟨D2.rz T ck hout hi.un hb0 (fun cl C s H fp E T=>let ⟨q1,q2,q3⟩:=hbody cl C s H fp E T;⟨q1.un,q2.un,q3.un⟩) hs hstk⟩
theorem Ah {X:Cx} {tg iter elt:Expr} {ifs:List Expr} {sc:Scope} {pos py spos:Pos} {it:aQ->R (List PyData)} {b:PyData->aQ->Option aQ} {t:aQ->R Bool} {f:Fe} {N:List Str} {own:Nat} {G G0:List Str} {fr:List Nat} {nl:Nat} {y:Str} {i:Nat}
    (T:Tb X nl G0) (ck:fI sc N own G X.N fr) (hout:∀ y∈sc.names,y.2=.free->X.env.kindOf y.1=some .cell\/X.env.kindOf y.1=some .free) (hi:sY X tg iter it)
    (hb0:∀ ρ d ρ1,b d (aC own fr ρ)=some ρ1->nc (aC own fr ρ) ρ1)
    (hbody:∀ cl C s H fp E,Tb (bj X N sc cl C s H fp E) own G->sW (bj X N sc cl C s H fp E) tg b/\wo (bj X N sc cl C s H fp E) ifs t/\cx (bj X N sc cl C s H fp E) elt f)
    (hN:(X.N.take nl)[i]?=some y) (hsw:swapsWith (.ListComp elt [⟨tg,iter,ifs,0⟩] sc pos) (some (.Name y py)) spos.line X.env=pure true)
    (hs:∀ x,foldedSetIterable iter X.env x=pure x:=by intro _;rfl) (hstk:∃ env0 outer0 L,X.stack=env0::outer0/\env0.frame=some L/\X.env.frame=some L:=by exact ⟨_,_,_,rfl,rfl,rfl⟩):kN X (.Assign [.Name y py] (.ListComp elt [⟨tg,iter,ifs,0⟩] sc pos) spos) (gP i (bO it own fr b t f)):=fun Fm=>by
  intro pins s σ H D I h;obtain ⟨ρ,sl,q⟩:=h;unfold gP bO at q;obtain ⟨hNi,hl,hf⟩:=T.nm hN;cases ei:it ρ with
  | ex c=>rw [ei] at q;exact q.elim
  | no=>rw [ei] at q;exact q.elim
  | ok ds =>
    rw [ei] at q;simp only [mw,R.ok_bind] at q;by_cases hsz:ds.length<=sizeLine
    · rw [if_pos hsz] at q;cases ec:bI b t f (aC own fr ρ) ds with
      | no=>rw [ec] at q;exact q.elim
      | ex c =>
        rw [ec] at q;rw [exec_Assign_Name_used _ _ _ _ hsw];refine wpAny_bind (wpAny_standAt (wpAny_bind ?_));show wpAny _ X.A (do let _ <- comprehension (.ListComp elt [⟨tg,iter,ifs,0⟩] sc pos) sc X.env _ (newList []) false (eval iter X.env) (some (assign (.Name y py) X.env))) _ _ s;exact wpAny_bind (dg (ld (use:=some (assign (.Name y py) X.env)) (Qc:=fun _ s'=>False) T ck hout hi hb0 hbody hs I sl.sl ei hsz ec (fun c' hr=>by cases hr;exact q.1.mono sl.fm) (fun z=>nomatch z) hstk fun xs a C H' s' m vs hr=>by cases hr) fun _ s' hq=>hq.elim)
      | ok xs =>
        rw [ec] at q;rw [exec_Assign_Name_used _ _ _ _ hsw];refine wpAny_bind (wpAny_standAt (wpAny_bind ?_));show wpAny _ X.A (do let _ <- comprehension (.ListComp elt [⟨tg,iter,ifs,0⟩] sc pos) sc X.env _ (newList []) false (eval iter X.env) (some (assign (.Name y py) X.env))) _ _ s;refine wpAny_bind (dg (ld (use:=some (assign (.Name y py) X.env)) (Qc:=fun _ s'=>SP X pins D .next s') T ck hout hi hb0 hbody hs I sl.sl ei hsz ec (fun c' hr=>by cases hr) (fun z=>nomatch z) hstk fun xs' a C H' s' m vs hr I' fC hn s2' ha hv rv=>?_) fun _ s' hq=>wpAny_pure (wpAny_pure hq));cases hr;obtain ⟨f0,f1,f2,f3,f4,f5⟩:=fC;show wpAny _ X.A (assign (.Name y py) X.env (.ref a)) _ _ _;refine wpAny_assign_Name (pQ I' T.nd hNi hl (v:=.ref a) rfl (fun s'' I'' k=>?_) hf);have sls:iY Fm H' (σ.set i (some (.ref a))) (ρ.set i (.own (.list xs))):=iY.setOwn sl (sl.mono s2') s2' i ⟨by simp only [i9];exact ⟨a,vs,rfl,hv,rv⟩,a,rfl,ha⟩;refine ⟨m,?_,fun h' sb=>⟨_,H',I''.turned (t':=s''.toks) (fun b o hb e=>sb.extBut b o hb e) f0 f1 f3 f4 f5,q _ H' sls⟩⟩;obtain ⟨a',sb',ha'⟩:=k;refine hn.sameBut sb' ?_;rcases ha' with rfl | ha'
        · exact f1
        · exact Ne.symm (f4 y a' ha')
    · rw [if_neg hsz] at q;exact q.elim
theorem iY.freeze {Fm H:Hp} {σ:St} {ρ:aQ} {i:Nat} {d:PyData} {a:Addr} {u:HO} {o:Obj} (h:iY Fm H σ ρ) (h1:ρ[i]?=some (.own d)) (h2:σ[i]?=some (some (.ref a))) (hu:H a=some u) (hm:(∃ xs,u=.lst xs)\/∃ ks,u=.dK ks)
    (hr:Rp (cw H a (.frz o u)) d (.ref a)):iY Fm (cw H a (.frz o u)) σ (ρ.set i (.val d)):=by
  have hFa:=h.own i d a h1 h2;have kp:Kp H (cw H a (.frz o u)):=gA hu hm;refine ⟨fun b x e=>?_,⟨by rw [List.length_set];exact h.sl.1,fun j c w' e1 e2=>?_⟩,fun j e b e1 e2=>?_,fun j k e f b e1 e2 e3 e4=>?_⟩
  · rw [av (aU e hFa)];exact h.fm b x e
  · rw [List.getElem?_set] at e1;by_cases hij:i=j
    · subst hij;rw [if_pos rfl] at e1;split at e1
      · cases e1;rw [h2] at e2;cases e2;exact ⟨_,rfl,hr⟩
      · cases e1
    · rw [if_neg hij] at e1;have q:=h.sl.2 j c w' e1 e2;cases c with
      | exc p=>exact q
      | non=>exact True.intro
      | val d'=>obtain ⟨v,z1,z2⟩:=q;exact ⟨v,z1,Rp.kp kp _ _ z2⟩
      | own d' =>
        obtain ⟨v,z1,z2⟩:=q;subst z1;obtain ⟨b,ob,rfl,hb⟩:=qS z2;have nb:b≠a:=fun z=>hij (by subst z;exact h.apart i j d d' b h1 e1 h2 e2)
        refine ⟨_,rfl,?_⟩;cases d' <;> simp only [i9] at z2 ⊢
        · obtain ⟨b',vs,e,hb',r⟩:=z2;cases e;exact ⟨b,vs,rfl,by rw [av nb];exact hb',bx.kp kp _ _ r⟩
        · obtain ⟨b',vs,e,hb',r⟩:=z2;cases e;exact ⟨b,vs,rfl,by rw [av nb];exact hb',eG.kp kp _ _ r⟩
  · obtain ⟨ne,e1⟩:=bX (fun e z=>by cases z) e1;exact h.own j e b e1 e2
  · obtain ⟨ne,e1⟩:=bX (fun e z=>by cases z) e1;obtain ⟨ne',e2⟩:=bX (fun e z=>by cases z) e2;exact h.apart j k e f b e1 e2 e3 e4
theorem BF {X:Cx} {pins:List (Addr×Obj)} {s:Shared} {Fm H:Hp} {σ:St} {ρ:aQ} {i:Nat} {d:PyData} (I:aP X pins σ H s) (h:iY Fm H σ ρ) (h1:ρ[i]?=some (.own d)) :
    ∃ H' v,aP X pins σ H' s/\iY Fm H' σ (ρ.set i (.val d))/\σ[i]?=some (some v)/\Rp H' d v:=by
  obtain ⟨w',h2,v,rfl,q⟩:=h.sl.at h1;cases d <;> simp only [i9] at q
  · rename_i ds;obtain ⟨a,vs,rfl,ha,r⟩:=q;obtain ⟨o,J⟩:=gI I ha (.inl ⟨_,rfl⟩);have hr:Rp (cw H a (.frz o (.lst vs))) (.list ds) (.ref a):=by
      simp only [Rp];exact ⟨a,o,vs,rfl,bi,bx.kp (gA ha (.inl ⟨_,rfl⟩)) _ _ r⟩
    exact ⟨_,_,J,h.freeze h1 h2 ha (.inl ⟨_,rfl⟩) hr,h2,hr⟩
  · rename_i ds;obtain ⟨a,vs,rfl,ha,r⟩:=q;obtain ⟨o,J⟩:=gI I ha (.inr ⟨_,rfl⟩);have hr:Rp (cw H a (.frz o (.dK vs))) (.dict ds) (.ref a):=by
      simp only [Rp];exact .inl ⟨a,o,vs,rfl,bi,eG.kp (gA ha (.inr ⟨_,rfl⟩)) _ _ r⟩
    exact ⟨_,_,J,h.freeze h1 h2 ha (.inr ⟨_,rfl⟩) hr,h2,hr⟩
theorem kN.fz {X:Cx} {st:Stmt} {i:Nat} {f:Fe} (h:kN X st (gP i f)) (hi:i < X.N.length):kN X st (bT i f):=fun Fm=>by
  intro pins s σ H D I ⟨ρ,sl,q⟩;unfold bT at q;cases ef:f ρ with
  | ex c=>rw [ef] at q;exact h Fm pins s σ H D I ⟨ρ,sl,by unfold gP;rw [ef];exact q⟩
  | no=>rw [ef] at q;exact q.elim
  | ok d =>
    rw [ef] at q;have hr:By X Fm (gP i f) { nx:=fun σ' H'=>iY Fm H' σ' (ρ.set i (.own d)),rt:=fun _ _=>False } σ H:=⟨ρ,sl,by unfold gP;rw [ef];exact fun σ' H' s'=>s'⟩
    refine dg (h Fm pins s σ H _ I hr) fun fl s' z=>?_
    cases fl with
    | next =>
      obtain ⟨σ',H',I',sls⟩:=z;have hi':i < ρ.length:=by rw [<- sl.sl.1,I.len];exact hi
      obtain ⟨H2,v,I2,sl2,_,_⟩:=BF I' sls (i:=i) (d:=d) (by rw [List.getElem?_set,if_pos rfl,if_pos hi']);rw [List.set_set] at sl2;exact ⟨σ',H2,I2,q σ' H2 sl2⟩
    | brk=>obtain ⟨_,_,_,z⟩:=z;exact z.elim
    | cont=>obtain ⟨_,_,_,z⟩:=z;exact z.elim
    | ret u=>obtain ⟨_,_,_,_,_,z⟩:=z;exact z.elim
theorem ip {X:Cx} {st:Stmt} {i:Nat} {f:Fe} (h:Z.kN X st (gP i f)) (hi:i < X.N.length):Z.kN X st (bT i f) :=
  ⟨D2.kN.fz h.un hi⟩
theorem wl {X:Cx} {tg iter elt:Expr} {ifs:List Expr} {sc:Scope} {pos:Pos} {it:aQ->R (List PyData)} {b:PyData->aQ->Option aQ} {t:aQ->R Bool} {f:Fe} {N:List Str} {own:Nat} {G G0:List Str} {fr:List Nat} {nl:Nat}
    (T:Tb X nl G0) {oN:List Str} {on:List (Str×NameKind)} (hoN:X.N=oN) (hon:X.env.scope.names=on)
    (ck:fI sc N own G oN fr/\∀ y∈sc.names,y.2=.free->on.lookup y.1=some .cell\/on.lookup y.1=some .free) (hi:sY X tg iter it)
    (hb0:∀ ρ d ρ1,b d (aC own fr ρ)=some ρ1->nc (aC own fr ρ) ρ1)
    (hbody:∀ cl C s H fp E,Tb (bj X N sc cl C s H fp E) own G->sW (bj X N sc cl C s H fp E) tg b/\wo (bj X N sc cl C s H fp E) ifs t/\cx (bj X N sc cl C s H fp E) elt f)
    (hs:∀ x,foldedSetIterable iter X.env x=pure x:=by intro _;rfl) (hstk:∃ env0 outer0 L,X.stack=env0::outer0/\env0.frame=some L/\X.env.frame=some L:=by exact ⟨_,_,_,rfl,rfl,rfl⟩):o5 X (.ListComp elt [⟨tg,iter,ifs,0⟩] sc pos) (bO it own fr b t f) :=
  rz T (by rw [hoN];exact ck.1) (fun y hy hf=>by unfold Env.kindOf;rw [hon];exact ck.2 y hy hf) hi hb0 hbody hs hstk
theorem bq {X:Cx} {tg iter elt:Expr} {ifs:List Expr} {sc:Scope} {pos:Pos} {it:aQ->R (List PyData)} {b:PyData->aQ->Option aQ} {t:aQ->R Bool} {f:Fe} {N:List Str} {own:Nat} {G G0:List Str} {fr:List Nat} {nl:Nat} (T:Tb X nl G0) {oN:List Str} {on:List (Str×NameKind)} (hoN:X.N=oN) (hon:X.env.scope.names=on) (ck:fI sc N own G oN fr/\∀ y∈sc.names,y.2=.free->on.lookup y.1=some .cell\/on.lookup y.1=some .free) (hi:Z.sY X tg iter it) (hb0:∀ ρ d ρ1,b d (aC own fr ρ)=some ρ1->nc (aC own fr ρ) ρ1) (hbody:∀ cl C s H fp E,Tb (bj X N sc cl C s H fp E) own G->Z.sW (bj X N sc cl C s H fp E) tg b/\Z.wo (bj X N sc cl C s H fp E) ifs t/\Z.cx (bj X N sc cl C s H fp E) elt f) (hs:∀ x,foldedSetIterable iter X.env x=pure x:=by intro _;rfl) (hstk:∃ env0 outer0 L,X.stack=env0::outer0/\env0.frame=some L/\X.env.frame=some L:=by exact ⟨_,_,_,rfl,rfl,rfl⟩):Z.o5 X (.ListComp elt [⟨tg,iter,ifs,0⟩] sc pos) (bO it own fr b t f) :=
  ⟨D2.wl T hoN hon ck hi.un hb0 (fun cl C s H fp E T=>let ⟨q1,q2,q3⟩:=hbody cl C s H fp E T;⟨q1.un,q2.un,q3.un⟩) hs hstk⟩
theorem Ao {X:Cx} {tg iter elt:Expr} {ifs:List Expr} {sc:Scope} {pos py spos:Pos} {it:aQ->R (List PyData)} {b:PyData->aQ->Option aQ} {t:aQ->R Bool} {f:Fe} {N:List Str} {own:Nat} {G G0:List Str} {fr:List Nat} {nl:Nat} {y:Str} (i:Nat)
    (hN:(X.N.take nl)[i]?=some y) (T:Tb X nl G0) {oN:List Str} {on:List (Str×NameKind)} (hoN:X.N=oN) (hon:X.env.scope.names=on)
    (ck:fI sc N own G oN fr/\∀ y∈sc.names,y.2=.free->on.lookup y.1=some .cell\/on.lookup y.1=some .free) (hi:sY X tg iter it)
    (hb0:∀ ρ d ρ1,b d (aC own fr ρ)=some ρ1->nc (aC own fr ρ) ρ1)
    (hbody:∀ cl C s H fp E,Tb (bj X N sc cl C s H fp E) own G->sW (bj X N sc cl C s H fp E) tg b/\wo (bj X N sc cl C s H fp E) ifs t/\cx (bj X N sc cl C s H fp E) elt f)
    (hsw:swapsWith (.ListComp elt [⟨tg,iter,ifs,0⟩] sc pos) (some (.Name y py)) spos.line X.env=pure true:=by rfl)
    (hs:∀ x,foldedSetIterable iter X.env x=pure x:=by intro _;rfl) (hstk:∃ env0 outer0 L,X.stack=env0::outer0/\env0.frame=some L/\X.env.frame=some L:=by exact ⟨_,_,_,rfl,rfl,rfl⟩):kN X (.Assign [.Name y py] (.ListComp elt [⟨tg,iter,ifs,0⟩] sc pos) spos) (gP i (bO it own fr b t f)) :=
  Ah T (by rw [hoN];exact ck.1) (fun y hy hf=>by unfold Env.kindOf;rw [hon];exact ck.2 y hy hf) hi hb0 hbody hN hsw hs hstk
theorem eZ {X:Cx} {tg iter elt:Expr} {ifs:List Expr} {sc:Scope} {pos py spos:Pos} {it:aQ->R (List PyData)} {b:PyData->aQ->Option aQ} {t:aQ->R Bool} {f:Fe} {N:List Str} {own:Nat} {G G0:List Str} {fr:List Nat} {nl:Nat} {y:Str} (i:Nat) (hN:(X.N.take nl)[i]?=some y) (T:Tb X nl G0) {oN:List Str} {on:List (Str×NameKind)} (hoN:X.N=oN) (hon:X.env.scope.names=on) (ck:fI sc N own G oN fr/\∀ y∈sc.names,y.2=.free->on.lookup y.1=some .cell\/on.lookup y.1=some .free) (hi:Z.sY X tg iter it) (hb0:∀ ρ d ρ1,b d (aC own fr ρ)=some ρ1->nc (aC own fr ρ) ρ1) (hbody:∀ cl C s H fp E,Tb (bj X N sc cl C s H fp E) own G->Z.sW (bj X N sc cl C s H fp E) tg b/\Z.wo (bj X N sc cl C s H fp E) ifs t/\Z.cx (bj X N sc cl C s H fp E) elt f) (hsw:swapsWith (.ListComp elt [⟨tg,iter,ifs,0⟩] sc pos) (some (.Name y py)) spos.line X.env=pure true:=by rfl) (hs:∀ x,foldedSetIterable iter X.env x=pure x:=by intro _;rfl) (hstk:∃ env0 outer0 L,X.stack=env0::outer0/\env0.frame=some L/\X.env.frame=some L:=by exact ⟨_,_,_,rfl,rfl,rfl⟩):Z.kN X (.Assign [.Name y py] (.ListComp elt [⟨tg,iter,ifs,0⟩] sc pos) spos) (gP i (bO it own fr b t f)) :=
  ⟨D2.Ao i hN T hoN hon ck hi.un hb0 (fun cl C s H fp E T=>let ⟨q1,q2,q3⟩:=hbody cl C s H fp E T;⟨q1.un,q2.un,q3.un⟩) hsw hs hstk⟩
theorem bL {own:Nat} {fr:List Nat} {i:Nat} (h:i < own):∀ ρ d ρ1,aX i d (aC own fr ρ)=some ρ1->nc (aC own fr ρ) ρ1:=fun ρ d ρ1 e=>by
  have e':ρ1=(aC own fr ρ).set i (.val d):=(Option.some.inj e).symm;subst e';refine ⟨by rw [List.length_set],fun j c hj=>?_⟩;by_cases hij:i=j
  · subst hij;left;unfold aC at hj;rw [List.getElem?_append_left (by simpa using h),List.getElem?_replicate,if_pos h] at hj;exact (Option.some.inj hj).symm
  · right;rw [List.getElem?_set,if_neg hij];exact hj
noncomputable def vo (sc:Scope) (N G:List Str):Prop :=
  N.Nodup/\(∀ x∈N,(sc.names.lookup x=some .local\/sc.names.lookup x=some .cell)/\(x==("__debug__" : Str))=false/\(x==("__classdict__" : Str))=false)/\∀ x∈G,sc.names.lookup x=some .globalImplicit/\(x==("__debug__" : Str))=false/\x≠("__name__" : Str)
noncomputable instance {sc:Scope} {N G:List Str}:Decidable (vo sc N G):=by unfold vo;infer_instance
theorem Cl {P:Program} {w:World} {K:PySem.W.Frag} {mg:Str->Option Value} {base:Heap} {N:List Str} {qual:Str} {sc:Scope} {f:Addr} {cdv:Value} {A:Around} {outer:List Env} {s:Shared} {H:Hp} {E:XK} {G:List Str} {k:Nat}
    (hr:fx k (A.deeper (envOfC qual sc s.heap.objs.size f cdv))) (ck:vo sc N G):Tb (fV (cU P w mg) P w K mg base N qual sc f cdv A outer s H E) N.length G:=by
  obtain ⟨nd,l,g⟩:=ck;refine ⟨hr.units,rfl,nd,fun x hx=>⟨?_,(l x hx).2⟩,fun x hx=>⟨?_,.inl rfl⟩,fun x hx=>?_⟩
  · rcases (l x hx).1 with q | q
    · exact .inl q
    · exact .inr (.inl q)
  · exact (l x (List.mem_of_mem_take hx)).1
  · exact g x hx
section
variable {X:Cx} {a b c:Expr} {fa fb fc:Fe} {pos:Pos}
noncomputable def FV:PyData->R PyData
  | .int i=>.ok (.int (-i))
  | _=>.no
noncomputable def qI (g g':PyData->PyData->R PyData) (fa fb fc:Fe):Fe:=fun ρ=>fa ρ>>=fun x=>fb ρ>>=fun y=>g x y>>=fun d=>sX d>>=fun k=>if k=true then fc ρ>>=fun z=>g' y z else .ok (.bool false)
theorem yf {r r':R2} {g g':PyData->PyData->R PyData} (hg:cn X ie r g) (hg':cn X ie r' g') (σ:St) (H:Hp) (Q:VK) (h:ka X ie (qI g g' fa fb fc) σ H Q) :
    x9 r r' (ka X vH fa) (ka X vH fb) (ka X vH fc) σ H Q :=
  (fD (P:=vH) (k:=fun ρ x=>fb ρ>>=fun y=>g x y>>=fun d=>sX d>>=fun k=>if k=true then fc ρ>>=fun z=>g' y z else .ok (.bool false)) (fu (X:=X) fU Q) h).post fun v H1 ⟨ρ1,d1,sl1,_,p1,q1⟩ =>
    (fD (P:=vH) (f:=fb) (k:=fun ρ y=>g d1 y>>=fun d=>sX d>>=fun k=>if k=true then fc ρ>>=fun z=>g' y z else .ok (.bool false)) (fu (X:=X) fU Q) ⟨ρ1,sl1,q1⟩).post fun u H2 ⟨ρ2,d2,sl2,s2,p2,q2⟩=>by
      refine hg H2 v u d1 d2 _ (ig.mono p1 s2) p2 ?_;cases e:g d1 d2 with
      | ex c=>rw [e] at q2;exact q2
      | no=>rw [e] at q2;exact q2
      | ok d =>
        rw [e] at q2;intro w' H3 s3 p3;have q3:uI X ie (sX d>>=fun k=>if k=true then fc ρ2>>=fun z=>g' d2 z else .ok (.bool false)) H2 Q:=q2;cases d with
        | bool k =>
          have e3:w'=.bl k:=by simpa only [Rp] using p3
          refine ⟨k,e3,?_⟩;cases k with
          | false=>exact q3 _ H3 s3 fB
          | true =>
            have q4:uI X ie (fc ρ2>>=fun z=>g' d2 z) H2 Q:=q3;exact (fD (P:=vH) (f:=fc) (k:=fun _ z=>g' d2 z) (fu (X:=X) fU Q) ⟨ρ2,sl2.mono s3,(fu (X:=X) fU Q).mono _ _ _ q4 s3⟩).post fun z H4 ⟨_,d4,_,s4,p4,q5⟩=>hg' H4 u z d2 d4 Q (ig.mono p2 (s3.trans s4)) p4 q5
        | none=>exact q3.elim
        | int i=>exact q3.elim
        | str i=>exact q3.elim
        | list i=>exact q3.elim
        | tuple i=>exact q3.elim
        | dict i=>exact q3.elim
theorem tK {op op':CmpOp} {r r':R2} {g g':PyData->PyData->R PyData} (ho:jc X (compareOp op) r) (hg:cn X ie r g) (ho':jc X (compareOp op') r') (hg':cn X ie r' g') (ha:Z.dH X a fa) (hb:Z.dH X b fb) (hc:Z.dH X c fc) (hm:lastMarks [op,op'] [b,c]=false:=by with_unfolding_all rfl):Z.cx X (.Compare a [op,op'] [b,c] pos) (qI g g' fa fb fc):=⟨have ha:=ha.un;have hb:=hb.un;have hc:=hc.un;PE.imp (ze ho ho' ha hb hc hm) (yf hg hg')⟩
variable {es:List Expr} {fs:aQ->R (List PyData)}
noncomputable def sj (fs:aQ->R (List PyData)):Fe:=fun ρ=>fs ρ>>=fun ds=>if ds.length<=sizeLine then .ok (.tuple ds) else .no
noncomputable def l8 (fs:aQ->R (List PyData)):Fe:=fun ρ=>fs ρ>>=fun ds=>if ds.length<=sizeLine then .ok (.list ds) else .no
theorem jf {x1} (h:Z.uG X es fs):Z.cx X (.Tuple es x1 pos) (sj fs):=⟨have h:=h.un;PE.imp (Cp h) fun σ H Q q=>(mf (I:=Rp) (f:=fs) (k:=fun _ ds=>if ds.length<=sizeLine then .ok (.tuple ds) else .no) (fu (X:=X) fU Q) q).post fun vs H1 ⟨_,ds,_,_,p,q1⟩=>by
    have p:=oV.mp p;split at q1
    · rename_i hz;exact ⟨by rw [p.length];exact hz,fun a ha=>q1 _ _ (cf ha _) (dl ha p)⟩
    · exact q1.elim⟩
theorem fH (h:Z.uG X es fs):Z.o5 X (.List es pos) (l8 fs):=⟨have h:=h.un;PE.imp (BR h) fun σ H Q q=>(mf (I:=Rp) (f:=fs) (k:=fun _ ds=>if ds.length<=sizeLine then .ok (.list ds) else .no) (fu (X:=X) zP Q) q).post fun vs H1 ⟨_,ds,_,_,p,q1⟩=>by
    have p:=oV.mp p;split at q1
    · rename_i hz;exact ⟨by rw [p.length];exact hz,fun a ha=>q1 _ _ (cf ha _) (dP ha p)⟩
    · exact q1.elim⟩
theorem sL  : Z.o5 X (.Dict [] [] pos) (eC (.dict [])):=⟨PE.imp xG fun σ H Q ⟨ρ,sl,q⟩ p hp=>q _ _ (cf hp _) ⟨by simp only [i9];exact ⟨p,[],rfl,bi,by simp only [eG]⟩,p,rfl,hp⟩⟩
noncomputable def bC:PyData->PyData->R PyData
  | .list ds,.int i=>match atI ds i with
    | some d=>.ok d
    | none=>.no
  | .tuple ds,.int i=>match atI ds i with
    | some d=>.ok d
    | none=>.no
  | .str z,.int i=>if z.length<=sizeLine then match atI z.cps.toList i with
    | some c=>.ok (.str ⟨#[c]⟩)
    | none=>.no else .no
  | .dict kvs,k=>if pE kvs=true then .no else match iq k with
    | some _=>match mC kvs k with
      | some d=>.ok d
      | none=>.no
    | none=>.no
  | _,_=>.no
theorem bx.atI {H:Hp} {ds:List PyData} {vs:List V} {i:Int} {d:PyData} (r:bx H ds vs) (e:L2.atI ds i=some d):∃ v,L2.atI vs i=some v/\Rp H d v:=by
  unfold L2.atI at e ⊢;rw [r.length];cases h:vb ds.length i with
  | none=>rw [h] at e;cases e
  | some j =>
    rw [h] at e;obtain ⟨v,e1,p⟩:=r.get (show ds[j]?=some d from e);exact ⟨v,e1,p⟩
noncomputable def Ey:R2:=fun x y H Q=>∃ a v,x=.ref a/\oO H a y (some v)/\Q v H
theorem Aa (hu:X.A.units+1 < cLine):At X Ey:=by
  intro value slice pins s σ H x y v u Q I rx ry h hs;obtain ⟨a,z,rfl,g,q⟩:=h;cases rx;exact tail_any (rW I g) PySem.F.slot_dict_getitem.lookup (w8 hu I g ry fun w' s3 I3 rw'=>⟨z,H,I3,rw',q⟩) hs
theorem Dy:cn X ie (fun x y H Q=>DY X.K x y H Q\/D9 X.K x y H Q\/Dq x y H Q\/Ey x y H Q) bC:=fun H x y dx dy Q hx hy q=>by
  unfold bC at q;split at q
  · rename_i ds i;split at q
    · rename_i d e;obtain ⟨a,vs,rfl,hq,r⟩:=dN (K:=X.K) hx;obtain ⟨v,e1,p⟩:=r.atI e;exact .inl ⟨a,vs,i,v,rfl,bR hy,hq,e1,q v H (aF.refl _) p⟩
    · exact q.elim
  · rename_i ds i;split at q
    · rename_i d e;obtain ⟨a,vs,rfl,hq,r⟩:=dC hx;obtain ⟨v,e1,p⟩:=r.atI e;exact .inr (.inl ⟨a,vs,i,v,rfl,bR hy,eP.of hq,e1,q v H (aF.refl _) p⟩)
    · exact q.elim
  · rename_i z i;split at q
    · rename_i hz;split at q
      · rename_i c e;exact .inr (.inr (.inl ⟨z,i,c,gV hx,bR hy,hz,e,q _ H (aF.refl _) yM⟩))
      · exact q.elim
    · exact q.elim
  · rename_i kvs k;split at q
    · exact q.elim
    rename_i hi;split at q
    · rename_i κ e;split at q
      · rename_i d e1;obtain ⟨a,ks,rfl,h,r⟩:=lx (Bool.not_eq_true _ ▸ hi) hx;obtain ⟨o,g,_,e2⟩:=u4 (κ:=κ) h r;rw [sr e] at e1;obtain ⟨v,rfl,p⟩:=e2 d e1;rw [<- uV hy e] at g;exact .inr (.inr (.inr ⟨a,v,rfl,g,q v H (aF.refl _) p⟩))
      · exact q.elim
    · exact q.elim
  · exact q.elim
theorem aM (hu:X.A.units+64 < cLine) (ha:Z.dH X a fa) (hb:Z.dH X b fb) (hs:u0 b):Z.cx X (.Subscript a b pos) (e2 bC fa fb):=⟨have ha:=ha.un;have hb:=hb.un;PE.imp (Dr (Ad.or (B5.or (CJ.or (Aa (by omega))))) ha hb hs) (two fU Dy)⟩
variable {nl:Nat} {G:List Str} {x:Str} {p:Pos}
noncomputable def qZ (X:Cx) (P:Hp->Hp->PyData->V->Prop) (r:List V->Hp->VK->Prop) (g:List PyData->R PyData):Prop:=∀ H xs ds Q,RA ig H ds xs->uI X P (g ds) H Q->r xs H Q
theorem xA {P:Hp->Hp->PyData->V->Prop} {r:List V->Hp->VK->Prop} {g:List PyData->R PyData} (hP:Dn P) (hg:qZ X P r g) (σ:St) (H:Hp) (Q:VK) (h:ka X P (fun ρ=>fs ρ>>=g) σ H Q):E4 r (xD X ig fs) σ H Q :=
  (mf (I:=ig) (k:=fun _=>g) (fu (X:=X) hP Q) h).post fun vs H1 ⟨_,ds,_,_,p1,q1⟩=>hg H1 vs ds Q p1 q1
noncomputable def one (g:PyData->R PyData):List PyData->R PyData
  | [d]=>g d
  | _=>.no
noncomputable def Ct (g:PyData->PyData->R PyData):List PyData->R PyData
  | [d,e]=>g d e
  | _=>.no
theorem xB (g:PyData->R PyData) (fa:Fe):(fun ρ=>ah fa aI ρ>>=one g)=e1 g fa:=by
  funext ρ;unfold ah aI e1;cases fa ρ <;> rfl
theorem BX (g:PyData->PyData->R PyData) (fa fb:Fe):(fun ρ=>ah fa (ah fb aI) ρ>>=Ct g)=e2 g fa fb:=by
  funext ρ;unfold ah aI e2;cases fa ρ with
  | ok a=>cases fb ρ <;> rfl
  | ex c=>rfl
  | no=>rfl
theorem yh {P:Hp->Hp->PyData->V->Prop} {r:List V->Hp->VK->Prop} {g:PyData->R PyData} (h:∀ H x d Q,ig H d x->uI X P (g d) H Q->r [x] H Q):qZ X P r (one g):=fun H xs ds Q ra q=>by
  unfold one at q;split at q
  · rename_i d;simp only [RA] at ra;obtain ⟨v,r',e,p,e2⟩:=ra;subst e2;subst e;exact h H v d Q p q
  · exact q.elim
theorem BK {P:Hp->Hp->PyData->V->Prop} {r:List V->Hp->VK->Prop} {g:PyData->PyData->R PyData} (h:∀ H x y d e Q,ig H d x->ig H e y->uI X P (g d e) H Q->r [x,y] H Q):qZ X P r (Ct g):=fun H xs ds Q ra q=>by
  unfold Ct at q;split at q
  · rename_i d e;simp only [RA] at ra;obtain ⟨v,r',e1,p,v',r'',e2,p',e3⟩:=ra;subst e3;subst e2;subst e1;exact h H v v' d e Q p p' q
  · exact q.elim
section
variable {P:Hp->Hp->PyData->V->Prop} {r:List V->Hp->VK->Prop} {g:PyData->R PyData} {g2:PyData->PyData->R PyData} {id ty:String}
theorem AF (T:Tb X nl G) (j:Nat) (hG:G[j]?=some x) (hm:X.mg x=none) (hP:Dn P) (hv:bootBuiltins x=some (.builtin id)) (hc:dW X (.builtin id) r) (hg:∀ H x d Q,ig H d x->uI X P (g d) H Q->r [x] H Q) (ha:dH X a fa)
    (he:aT a=true:=by rfl):PE X (.Call (.Name x p) [a] [] pos) (ka X P (e1 g fa)):=by
  have q:=T.gl x (List.mem_of_getElem? hG);rw [<- xB];exact PE.imp (nO hc q.1 hm hv (nE ha uQ he) q.2.2 q.2.1 (bo he)) (xA hP (yh hg))
theorem CD (T:Tb X nl G) (j:Nat) (hG:G[j]?=some x) (hm:X.mg x=none) (hP:Dn P) (hv:bootBuiltins x=some (.type ty)) (hc:dW X (.type ty) r) (hg:∀ H x d Q,ig H d x->uI X P (g d) H Q->r [x] H Q) (ha:dH X a fa)
    (he:aT a=true:=by rfl):PE X (.Call (.Name x p) [a] [] pos) (ka X P (e1 g fa)):=by
  have q:=T.gl x (List.mem_of_getElem? hG);rw [<- xB];exact PE.imp (ww hc q.1 hm hv (nE ha uQ he) q.2.2 q.2.1 (bo he)) (xA hP (yh hg))
theorem EC (T:Tb X nl G) (j:Nat) (hG:G[j]?=some x) (hm:X.mg x=none) (hP:Dn P) (hv:bootBuiltins x=some (.builtin id)) (hc:dW X (.builtin id) r) (hg:∀ H x y d e Q,ig H d x->ig H e y->uI X P (g2 d e) H Q->r [x,y] H Q) (ha:dH X a fa) (hb:dH X b fb)
    (he:aT a=true:=by rfl) (he2:aT b=true:=by rfl):PE X (.Call (.Name x p) [a,b] [] pos) (ka X P (e2 g2 fa fb)):=by
  have q:=T.gl x (List.mem_of_getElem? hG);rw [<- BX];exact PE.imp (nO hc q.1 hm hv (nE ha (nE hb uQ he2) he) q.2.2 q.2.1 (bo he) (nW (by rw [List.all_cons,he2];rfl))) (xA hP (BK hg))
end
end
theorem mh:fillsNumberSlot (.type "tuple") "mul" = pure false :=
  PySem.fillsNumberSlot_seq (id := "tuple.__mul__") (r:=some (.builtin "tuple.__rmul__")) F.slot_tuple_mul.lookup (by decide +kernel) F.slot_tuple_rmul.lookup (by decide +kernel)
theorem qc:seqRepeat? (.type "tuple")=pure (some (.builtin "tuple.__mul__")):=by
  unfold seqRepeat?;rw [PySem.seqSlot_of (T := "tuple") (name := "__mul__") (id := "tuple.__mul__") F.slot_tuple_mul.lookup (by decide +kernel),PySem.seqSlot_of (T := "tuple") (name := "__rmul__") (id := "tuple.__rmul__") F.slot_tuple_rmul.lookup (by decide +kernel)];rfl
theorem oo (a:Int) (t:Tok) (l:Addr) (items:Array Value) (n:Nat) (dd:Option Addr) (sl:Array (Option Value)) :
    Meets (Builtin.«int.__rmul__» ⟨[.int a t,.ref l],[]⟩) (fun _ R s=>s.heap.get? l=some { cls:=.type "tuple",dict:=dd,data:=.seq items n,slots:=sl }/\R (.ok (.ret Value.notImplemented)) s) :=
  .of_wp fun prog w A R s h=>by obtain ⟨hp,g,d,tk,os⟩:=s;obtain ⟨hl,h⟩:=h;wp_walk;exact ⟨_,rfl,h⟩
theorem tI (l:Addr) (items:Array Value) (n:Nat) (dd:Option Addr) (sl:Array (Option Value)) (x:Int) (u:Tok) (h1:2<=x) (h2:x < 2 ^ 63) (h0:¬ items.isEmpty=true) (hc1:¬ (items.size:Int)*x > (2 ^ 63-1) / 8) (hbig:Builtin.Tuple.tupleTooMany ((items.size:Int)*x)=false) (hsz:¬ (List.foldl (fun x1 x2=>x1++x2) #[] (List.replicate x.toNat items)).size > sizeLine) :
    Meets (Builtin.«tuple.__mul__» ⟨[.ref l,.int x u],[]⟩) (fun _ R s=>s.heap.get? l=some { cls:=.type "tuple",dict:=dd,data:=.seq items n,slots:=sl }/\R (.ok (.ret (Value.ref s.heap.objs.size))) { s with heap:=s.heap.push { cls:=Value.type "tuple",data:=Data.seq (List.foldl (fun x1 x2=>x1++x2) #[] (List.replicate x.toNat items)) },toks:=s.toks }) :=
  .of_wp fun prog w A R s h=>by
    obtain ⟨hp,g,d,tk,os⟩:=s;obtain ⟨hl,h⟩:=h;have f1:=AutoSeq1.idx_int;have f2:=AutoSeq1.sub_tuple_tuple;have f3:=AutoSeq1.sub_list_list;have f4:=AutoSeq1.sub_tuple_list;have f5:=AutoSeq1.sub_list_tuple;have e0:(decide (x < -2 ^ 63)||decide (x>=2 ^ 63))=false:=by
      rw [decide_eq_false (by omega),decide_eq_false (by omega)];rfl
    have e1:(items.isEmpty||x==1)=false:=by
      have:(x==1)=false:=by simp;omega
      rw [this,Bool.or_false];exact Bool.eq_false_iff.mpr h0
    have e2:(decide (x<=0)||items.isEmpty)=false:=by
      rw [decide_eq_false (by omega),Bool.false_or];exact Bool.eq_false_iff.mpr h0
    have e3:decide ((items.size:Int)*x > (2 ^ 63-1) / 8)=false:=decide_eq_false hc1;have e4:Builtin.Tuple.tupleTooMany ((items.size:Int)*x)=false:=hbig
    wp_walk using wpAny_loadPart' hl
    refine wpAny_ite_false (decide_eq_false (by rw [e0];exact Bool.false_ne_true)) ?_
    wp_walk using wpAny_loadPart' hl
    refine wpAny_ite_false (decide_eq_false (by rw [e1];exact Bool.false_ne_true)) ?_
    wp_walk using wpAny_loadPart' hl
    refine wpAny_ite_false (decide_eq_false (by rw [e2];exact Bool.false_ne_true)) ?_
    wp_walk using wpAny_loadPart' hl
    refine wpAny_ite_false e3 ?_
    wp_walk using wpAny_loadPart' hl
    exact ⟨_,rfl,h⟩
section
variable {X:Cx} {a b c:Expr} {fa fb fc:Fe} {pos:Pos} {nl:Nat} {G:List Str} {x:Str} {p:Pos}
noncomputable def Bm (K:PySem.W.Frag):R2:=fun x y H Q=>∃ l k xs,x=.ref l/\y=.int k/\eP K H l xs/\xs≠[]/\2<=k/\k < 2 ^ 63/\xs.length*k.toNat<=sizeLine/\∀ p,H p=none->Q (.ref p) (cw H p (.tup (List.replicate k.toNat xs).flatten))
theorem A4:jc X (binaryOp .Mult) (Bm X.K):=by
  intro pins s σ H x y v u Q I rx ry h;obtain ⟨l,k,xs,rfl,rfl,hH,hne,h1,h2,hz,q⟩:=h;cases rx;obtain ⟨t,rfl⟩:=ry;obtain ⟨its,r,pl,hz0⟩:=I.tuple hH;obtain ⟨⟨cls,dd,data,sl⟩,e,hc,n,hd⟩:=id pl;simp only at hc hd;subst hc hd;have hl:=r.length;have hnew:List.foldl (fun x1 x2=>x1++x2) #[] (List.replicate k.toNat its.toArray)=(List.replicate k.toNat its).flatten.toArray:=by
    have:=pB its k.toNat [];rw [List.nil_append] at this;exact this
  have hlen:(List.replicate k.toNat its).flatten.length<=sizeLine:=by rw [vK,<- hl,Nat.mul_comm];exact hz
  have hprod:(its.length:Int)*k<=(sizeLine:Int):=by
    have h3:((its.length*k.toNat:Nat):Int)<=(sizeLine:Int):=by rw [<- hl];exact Int.ofNat_le.mpr hz
    have h4:((k.toNat:Nat):Int)=k:=Int.toNat_of_nonneg (by omega);rw [Int.natCast_mul,h4] at h3;exact h3
  have hcap:¬ (its.toArray.size:Int)*k > (2 ^ 63-1) / 8:=by
    rw [List.size_toArray];have hs:sizeLine=16777216:=sizeLine_eq;omega
  have hbig:Builtin.Tuple.tupleTooMany ((its.toArray.size:Int)*k)=false:=by
    unfold Builtin.Tuple.tupleTooMany;rw [List.size_toArray];exact decide_eq_false (by omega)
  refine wpAny_binaryOp_repeat_ref (T := "tuple") (U := "int") (by decide) ⟨_,e,rfl⟩ (fun s'=>typeIs_int s' k t) mh F.fills_int_mul F.slot_int_rmul qc F.slot_int_index.lookup
    (call_meets F.slot_int_rmul (typeIs_int s k t) F.entry_int_rmul (F.args_int_rmul_2 _ _) (oo k t l its.toArray n dd sl)
      ⟨e,rfl,⟨_,e,rfl⟩,call_meets F.slot_tuple_mul ⟨_,e,rfl⟩ F.entry_tuple_mul (F.args_tuple_mul_2 _ _) (tI l its.toArray n dd sl k t h1 h2 (by
        intro z;apply hne;have:its=[]:=by simpa using z
        rw [this] at hl;exact List.length_eq_zero_iff.mp hl) hcap hbig (by rw [hnew,List.size_toArray];omega)) ⟨e,?_⟩⟩)
  rw [hnew];refine ⟨.ref s.heap.objs.size,_,I.laid (t':=s.toks) (o:=.tup (List.replicate k.toNat xs).flatten) (fun b ob q=>Heap.get?_push_of_some _ q) (Nat.le_refl _) ?_,rfl,q _ (I.hok.fresh (Nat.le_refl _))⟩;exact ⟨by rw [vK,Nat.mul_comm];exact hz,_,r.rep k.toNat,IsTup.new _ _⟩
noncomputable def gu:PyData->PyData->R PyData
  | .int i,.int j=>if (-(2 ^ 64) < i/\i < 2 ^ 64)\/(-(2 ^ 64) < j/\j < 2 ^ 64) then .ok (.int (i*j)) else .no
  | .tuple xs,.int k=>if xs≠[]/\2<=k/\k < 2 ^ 63/\xs.length*k.toNat<=sizeLine then .ok (.tuple (List.replicate k.toNat xs).flatten) else .no
  | _,_=>.no
theorem Cj:cn X ie (fun x y H Q=>rI AS (fun i j=>.int (i*j)) x y H Q\/Bm X.K x y H Q) gu:=fun H x y dx dy Q hx hy q=>by
  cases dx with
  | int i =>
    cases dy with
    | int j =>
      simp only [gu] at q;split at q
      · rename_i h;exact .inl ⟨_,_,bR hx,bR hy,h,q _ H (aF.refl _) dm⟩
      · exact q.elim
    | _=>exact q.elim
  | tuple xs =>
    cases dy with
    | int k =>
      simp only [gu] at q;split at q
      · rename_i h;obtain ⟨a,vs,rfl,ha,r⟩:=dC hx;have hl:=r.length;refine .inr ⟨a,k,vs,rfl,bR hy,eP.of ha,fun z=>h.1 ?_,h.2.1,h.2.2.1,by rw [hl];exact h.2.2.2,fun p hp=>q _ _ (cf hp _) (dl hp (r.rep _))⟩;rw [z] at hl;exact List.length_eq_zero_iff.mp hl.symm
      · exact q.elim
    | _=>exact q.elim
  | _=>exact q.elim
theorem fj (ha:Z.dH X a fa) (hb:Z.dH X b fb):Z.cx X (.BinOp a .Mult b pos) (e2 gu fa fb):=⟨have ha:=ha.un;have hb:=hb.un;oY fU (Ci.or A4) Cj ha hb⟩
theorem A0:jc X (binaryOp .Add) (fun x y H Q=>∃ i j,x=.str i/\y=.str j/\i.length+j.length<=sizeLine/\Q (.str (i++j)) H):=by
  intro pins s σ H x y v u Q I rx ry h;obtain ⟨i,j,rfl,rfl,hz,q⟩:=h;obtain ⟨t,rfl⟩:=rx;obtain ⟨t',rfl⟩:=ry;exact PyProof.Rows.add_str (fun t' tk=>⟨.str (i++j),H,I.tok _,⟨_,rfl⟩,q⟩) hz
noncomputable def xR (K:PySem.W.Frag):R2:=fun x y H Q=>∃ a b ys,x=.ref a/\y=.ref b/\eP K H a []/\eP K H b ys/\Q (.ref b) H
theorem zF:jc X (binaryOp .Add) (xR X.K):=by
  intro pins s σ H x y v u Q I rx ry h;obtain ⟨a,b,ys,rfl,rfl,ha,hb,q⟩:=h;cases rx;cases ry;obtain ⟨its,r1,p1,_⟩:=I.tuple ha;obtain ⟨its2,r2,p2,_⟩:=I.tuple hb;cases r1;obtain ⟨⟨cls,dd,data,sl⟩,ho,hc,n,hd⟩:=id p1;obtain ⟨⟨cls2,dd2,data2,sl2⟩,ho2,hc2,n2,hd2⟩:=id p2;simp only at hc hd hc2 hd2;subst hc hd hc2 hd2;exact concat_meets ⟨_,ho,rfl⟩ ⟨_,ho2,rfl⟩ noFill_tuple_add seq_tuple_add PySem.F.slot_tuple_add PySem.F.entry_tuple_add (PySem.F.args_tuple_add_2 _ _)
    (tuple_addW0 a b _ its2.toArray n n2 dd dd2 sl sl2 (by rfl)) ⟨ho,ho2,⟨.ref b,H,I,rfl,q⟩⟩
noncomputable def Bk (K:PySem.W.Frag):R2:=fun x y H Q=>∃ l b xs zs,x=.ref l/\y=.ref b/\Rd H l (.lst xs)/\Rd H b (.lst zs)/\xs.length+zs.length<=sizeLine/\∀ p,H p=none->Q (.ref p) (cw H p (.lst (xs++zs)))
theorem Aw:jc X (binaryOp .Add) (Bk X.K):=by
  intro pins s σ H x y v u Q I rx ry h;obtain ⟨l,b,xs,zs,rfl,rfl,hH,hB,hz,q⟩:=h;cases rx;cases ry;obtain ⟨z,its,n,r,e⟩:=hH.ok I.hok;obtain ⟨z2,its2,n2,r2,e2⟩:=hB.ok I.hok;have hl:=r.length;have hl2:=r2.length;refine PySem.P.add_list e e2 ?_ (by rw [List.size_toArray,List.size_toArray];omega);have ea:its.toArray++its2.toArray=(its++its2).toArray:=by simp
  rw [ea];exact ⟨.ref _,_,I.lnew (t':=s.toks) (r.append r2) (by rw [List.length_append];omega),rfl,q _ I.fresh⟩
noncomputable def gj:PyData->PyData->R PyData
  | .int i,.int j=>.ok (.int (i+j))
  | .str x,.str y=>if x.length+y.length<=sizeLine then .ok (.str (x++y)) else .no
  | .tuple xs,.tuple ys=>if xs.length+ys.length<=sizeLine then .ok (.tuple (xs++ys)) else .no
  | .list xs,.list ys=>if xs.length+ys.length<=sizeLine then .ok (.list (xs++ys)) else .no
  | _,_=>.no
theorem qw {H:Hp} {ds:List PyData} {x:V} (h:ig H (.list ds) x):∃ a vs,x=.ref a/\Rd H a (.lst vs)/\bx H ds vs:=by
  rcases h with h | h
  · simp only [Rp] at h;obtain ⟨a,o,vs,e,ha,r⟩:=h;exact ⟨a,vs,e,.inr ⟨o,ha⟩,r⟩
  · simp only [i9] at h;obtain ⟨a,vs,e,ha,r⟩:=h;exact ⟨a,vs,e,.inl ha,r⟩
theorem CM:cn X EO (fun x y H Q=>zH (fun i j=>.int (i+j)) x y H Q\/(∃ i j,x=.str i/\y=.str j/\i.length+j.length<=sizeLine/\Q (.str (i++j)) H)\/Bq X.K x y H Q\/xR X.K x y H Q\/Bk X.K x y H Q) gj:=fun H x y dx dy Q hx hy q=>by
  cases dx with
  | int i =>
    cases dy with
    | int j=>exact .inl ⟨_,_,bR hx,bR hy,q _ H (aF.refl _) (.inl dm)⟩
    | _=>exact q.elim
  | str i =>
    cases dy with
    | str j =>
      simp only [gj] at q;split at q
      · rename_i h;exact .inr (.inl ⟨_,_,gV hx,gV hy,h,q _ H (aF.refl _) (.inl yM)⟩)
      · exact q.elim
    | _=>exact q.elim
  | tuple xs =>
    cases dy with
    | tuple ys =>
      simp only [gj] at q;split at q
      · rename_i h;have hx':=hx;obtain ⟨a,vs,rfl,ha,r⟩:=dC hx;obtain ⟨b,us,rfl,hb,r2⟩:=dC hy;cases xs with
        | nil =>
          have:=r.nil_inv;subst this;refine .inr (.inr (.inr (.inl ⟨a,b,us,rfl,rfl,eP.of ha,eP.of hb,q _ H (aF.refl _) (.inl ?_)⟩)));simp only [Rp,List.nil_append];exact ⟨b,us,rfl,hb,r2⟩
        | cons d ds =>
          refine .inr (.inr (.inl ⟨a,b,vs,us,rfl,rfl,eP.of ha,eP.of hb,fun z=>?_,by rw [r.length,r2.length];exact h,fun z=>?_,fun _ p hp=>q _ _ (cf hp _) (.inl (dl hp (r.append r2)))⟩))
          · rw [z] at r;obtain ⟨_,_,e,_⟩:=r.cons_inv;cases e
          · have hy0:ys=[]:=by
              have:=r2.length;rw [z] at this;exact List.length_eq_zero_iff.mp this.symm
            refine q _ H (aF.refl _) (.inl ?_);rw [hy0,List.append_nil];simp only [Rp];exact ⟨a,vs,rfl,ha,r⟩
      · exact q.elim
    | _=>exact q.elim
  | list xs =>
    cases dy with
    | list ys =>
      simp only [gj] at q;split at q
      · rename_i h;obtain ⟨a,vs,rfl,ha,r⟩:=qw hx;obtain ⟨b,us,rfl,hb,r2⟩:=qw hy;exact .inr (.inr (.inr (.inr ⟨a,b,vs,us,rfl,rfl,ha,hb,by rw [r.length,r2.length];exact h,fun p hp=>q _ _ (cf hp _) (.inr (dP hp (r.append r2)))⟩)))
      · exact q.elim
    | _=>exact q.elim
  | _=>exact q.elim
theorem cN (ha:Z.dH X a fa) (hb:Z.dH X b fb):Z.cx X (.BinOp a .Add b pos) (e2 gj fa fb):=⟨have ha:=ha.un;have hb:=hb.un;zM.e (oY Ae (B8.or (A0.or (AY.or (zF.or Aw)))) CM ha hb)⟩
end
section
variable {prog:Program} {w:World} {A:Around} {E:Value->Shared->Prop} {s:Shared}
theorem j6 {t sl:Addr} {items:Array Value} {vl vu:Value} {lo hi:Option Int} {Q:Value->Shared->Prop} (ht:IsTup s.heap t items) (hs:s.heap.IsSliceOf sl vl vu .none) (pl:IsPart vl lo) (pu:IsPart vu hi)
    (hw:HT.sIx items.size 0 lo=0/\HT.sIx items.size items.size hi=items.size) (h:Q (.ref t) s):wpAny (model prog w) A (getItem (.ref t) (.ref sl)) Q E s:=by
  obtain ⟨os,hos,hcs,hds⟩:=id hs;have hTs:s.TypeIs (.ref sl) "slice" := ⟨os,hos,hcs⟩
  unfold getItem
  try with_reducible refine wpAny_holding ?_
  first | refine wpAny_bind (wpAny_pure ?_) | skip
  refine wpAny_bind (wpAny_sequenceKey ht.typeIs (by decide) ?_);refine wpAny_bind (wpAny_callSpecial?_slot (name:=Str.ofString "__getitem__") ht.typeIs PyProof.Rows.slot_tuple_getitem
    (wpAny_call_entry PyProof.Rows.slot_tuple_getitem ht.typeIs entry_tuple_getitem ?_ (args_tuple_getitem _ _)))
  show wpAny _ _ (Builtin.Tuple.tupleItemsOf (.ref t)>>=_) _ _ s;refine wpAny_bind (tupleItemsOf_ ht ?_);refine wpAny_bind (wpAny_typeOf hTs ?_);rw [if_pos (by decide)];refine wpAny_bind (HT.sliceApplied_gen hs pl pu ?_);have hyes:(((HT.sIx items.size 0 lo:Nat):Int)==0&&(1:Int)==1&&(HT.sIx items.size items.size hi-HT.sIx items.size 0 lo)==items.size)=true:=by
    rw [hw.1,hw.2];simp
  show wpAny _ _ (if (((HT.sIx items.size 0 lo:Nat):Int)==0&&(1:Int)==1&&(HT.sIx items.size items.size hi-HT.sIx items.size 0 lo)==items.size)=true then _ else _) _ _ s;rw [if_pos hyes];refine wpAny_bind (m:=Builtin.Tuple.tupleIsExact _) ?_;unfold Builtin.Tuple.tupleIsExact;refine wpAny_bind (wpAny_typeOf ht.typeIs (wpAny_pure ?_));show wpAny _ _ (if (Value.type "tuple" == Value.type "tuple")=true then _ else _) _ _ s;rw [if_pos (by decide)];refine wpAny_bind (wpAny_rule ?_)
  first
    | exact wpAny_pure ⟨_,rfl,wpAny_pure h⟩
    | exact wpAny_bind (wpAny_pure (wpAny_pure ⟨_,rfl,wpAny_pure h⟩))
end
section
variable {X:Cx} {a b c:Expr} {fa fb fc:Fe} {pos p2:Pos} {nl:Nat} {G:List Str} {x:Str} {p:Pos}
noncomputable def mU (xs:List PyData) (lo hi:Option Int):List PyData:=(xs.drop (HT.sIx xs.length 0 lo)).take (HT.sIx xs.length xs.length hi-HT.sIx xs.length 0 lo)
theorem bx.cut {H:Hp} {ds:List PyData} {vs:List V} (r:bx H ds vs) (lo hi:Option Int):bx H (mU ds lo hi) (rh vs lo hi):=by
  unfold mU rh;rw [r.length];exact (r.drop _).take _
noncomputable def E7 (K:PySem.W.Frag):V->Option Int->Option Int->Hp->VK->Prop:=fun x lo hi H Q=>∃ a xs,x=.ref a/\eP K H a xs/\(HT.sIx xs.length 0 lo=0/\HT.sIx xs.length xs.length hi=xs.length)/\Q (.ref a) H
theorem yp:Ap X (E7 X.K):=by
  intro pins s σ H x v vl vu lo hi sl Q I rx hs pl pu h;obtain ⟨a,xs,rfl,hx,hw,q⟩:=h;cases rx;obtain ⟨its,r,ht,hz⟩:=I.tuple hx;have hlen:its.toArray.size=xs.length:=by rw [List.size_toArray];exact r.length.symm
  refine ⟨"tuple",_,PyProof.Rows.slot_tuple_getitem.lookup,ht.typeIs,?_⟩;exact j6 ht hs pl pu (by rw [hlen];exact hw) ⟨.ref a,H,I,rfl,q⟩
theorem Cq:Ap X (fun x lo hi H Q=>∃ xx,x=.str xx/\xx.length<=sizeLine/\Q (.str (Txt.slice xx lo hi)) H):=by
  intro pins s σ H x v vl vu lo hi sl Q I rx hs pl pu h;obtain ⟨xx,rfl,hz,q⟩:=h;obtain ⟨t,rfl⟩:=rx;refine ⟨"str",_,PySem.F.slot_str_getitem.lookup,typeIs_str _ _ _,?_⟩;have fin:∀ t' k,EP X pins σ Q (.str (Txt.slice xx lo hi) t') { s with toks:=k }:=fun t' k=>⟨.str _,H,I.tok k,⟨t',rfl⟩,q⟩
  cases pl with
  | none =>
    cases pu with
    | none=>exact wpAny_getItem_str_slice (l:=none) (u:=none) (st:=none) hs rfl (post_val_or_str ⟨Nat.le_trans (Txt.slice_le xx _ _) hz,fin⟩)
    | int j uj=>exact wpAny_getItem_str_slice (l:=none) (u:=some (j,uj)) (st:=none) hs rfl (post_val_or_str ⟨Nat.le_trans (Txt.slice_le xx _ _) hz,fin⟩)
  | int i ui =>
    cases pu with
    | none=>exact wpAny_getItem_str_slice (l:=some (i,ui)) (u:=none) (st:=none) hs rfl (post_val_or_str ⟨Nat.le_trans (Txt.slice_le xx _ _) hz,fin⟩)
    | int j uj=>exact wpAny_getItem_str_slice (l:=some (i,ui)) (u:=some (j,uj)) (st:=none) hs rfl (post_val_or_str ⟨Nat.le_trans (Txt.slice_le xx _ _) hz,fin⟩)
noncomputable def BG:PyData->Option Int->Option Int->R PyData
  | .str x,lo,hi=>if x.length<=sizeLine then .ok (.str (Txt.slice x lo hi)) else .no
  | .tuple xs,lo,hi=>.ok (.tuple (mU xs lo hi))
  | .list xs,lo,hi=>.ok (.list (mU xs lo hi))
  | _,_,_=>.no
noncomputable abbrev Fo:=aQ->R (Option Int)
noncomputable def pA:Fo:=fun _=>.ok none
noncomputable def EU:PyData->R Int
  | .int i=>.ok i
  | _=>.no
noncomputable def pX (f:Fe):Fo:=fun ρ=>f ρ>>=fun d=>EU d>>=fun i=>.ok (some i)
noncomputable def xQ (X:Cx) (f:Fo):TO:=fun σ H Q=>∃ ρ,Sl H σ ρ/\match f ρ with
  | .ok o=>∀ H',aF H H'->Q o H'
  | .ex c=>Xw X c H
  | .no=>False
noncomputable def Dm (X:Cx) (e:Option Expr) (f:Fo):Prop:=PO X e (xQ X f)
structure Z.Dm (X:Cx) (e:Option Expr) (f:Fo):Prop where
  un:D2.Dm X e f
theorem jT  : Z.Dm X none pA:=⟨fun pins s σ H Q I ⟨ρ,sl,q⟩=>Bg pins s σ H Q I (q H (aF.refl _))⟩
theorem Eo (Q:Option Int->Hp->Prop):AW X (fun (r:R (Option Int)) H=>match r with | .ok b=>∀ H',aF H H'->Q b H' | .ex c=>Xw X c H | .no=>False) where
  mono:=fun r H H' h s=>by
    cases r with
    | ok d=>exact fun H2 s2=>h H2 (s.trans s2)
    | ex c=>exact Xw.mono h s
    | no=>exact h
  ex:=fun c H h=>h
  no:=fun H h=>h
theorem jM {e:Expr} {f:Fe} (h:Z.cx X e f):Z.Dm X (some e) (pX f):=⟨have h:=h.un;fun pins s σ H Q I q =>
  Ak h pins s σ H Q I ((fD (P:=ie) (f:=f) (k:=fun _ d=>EU d>>=fun i=>.ok (some i)) (Eo (X:=X) Q) q).post fun v H1 ⟨_,d,_,_,p,q1⟩=>by
    cases d with
    | int i =>
      have e1:v=.int i:=by simpa only [Rp] using p
      exact ⟨i,e1,q1 H1 (aF.refl _)⟩
    | _=>exact q1.elim)⟩
noncomputable def Dk (f:Fe) (lo hi:Fo):Fe:=fun ρ=>f ρ>>=fun d=>lo ρ>>=fun l=>hi ρ>>=fun u=>BG d l u
theorem zc {β:Type} {Tg:R β->Hp->Prop} {σ:St} {H:Hp} (t:AW X Tg) {f:Fo} {k:aQ->Option Int->R β} (h:∃ ρ,Sl H σ ρ/\Tg (f ρ>>=k ρ) H):xQ X f σ H (fun o H1=>∃ ρ,Sl H1 σ ρ/\aF H H1/\Tg (k ρ o) H1):=by
  obtain ⟨ρ,sl,q⟩:=h;refine ⟨ρ,sl,?_⟩;cases e:f ρ with
  | ok d=>rw [e] at q;exact fun H1 s=>⟨ρ,sl.mono s,s,t.mono _ _ _ q s⟩
  | ex c=>rw [e] at q;exact t.ex _ _ q
  | no=>rw [e] at q;exact (t.no _ q).elim
theorem xQ.post {f:Fo} {σ:St} {H:Hp} {Q Q':Option Int->Hp->Prop} (h:xQ X f σ H Q) (i:∀ b H',Q b H'->Q' b H'):xQ X f σ H Q':=by
  obtain ⟨ρ,sl,q⟩:=h;refine ⟨ρ,sl,?_⟩;cases e:f ρ with
  | ok d=>rw [e] at q;exact fun H' s=>i _ _ (q H' s)
  | ex c=>rw [e] at q;exact q
  | no=>rw [e] at q;exact q
theorem iJ {lo hi:Option Expr} {fl fh:Fo} (ha:Z.dH X a fa) (hl:Z.Dm X lo fl) (hu:Z.Dm X hi fh):Z.cx X (.Subscript a (.Slice lo hi none p2) pos) (Dk fa fl fh):=⟨have ha:=ha.un;have hl:=hl.un;have hu:=hu.un;by
  refine zM.e (PE.imp (yG (yp.or (Cb.or (Ar.or Cq))) ha hl hu) fun σ H Q h=>?_);refine (fD (P:=vH) (f:=fa) (k:=fun ρ d=>fl ρ>>=fun l=>fh ρ>>=fun u=>BG d l u) (fu (X:=X) Ae Q) h).post fun v H1 ⟨ρ1,d1,sl1,_,p1,q1⟩=>?_
  refine (zc (f:=fl) (k:=fun ρ l=>fh ρ>>=fun u=>BG d1 l u) (fu (X:=X) Ae Q) ⟨ρ1,sl1,q1⟩).post fun l H2 ⟨ρ2,sl2,s2,q2⟩=>?_
  refine (zc (f:=fh) (k:=fun ρ u=>BG d1 l u) (fu (X:=X) Ae Q) ⟨ρ2,sl2,q2⟩).post fun u H3 ⟨ρ3,sl3,s3,q3⟩=>?_
  have p3:ig H3 d1 v:=ig.mono (ig.mono p1 s2) s3;cases d1 with
  | tuple xs =>
    obtain ⟨a',vs,rfl,ha',r⟩:=dC p3;have hlen:=r.length;by_cases hw:HT.sIx vs.length 0 l=0/\HT.sIx vs.length vs.length u=vs.length
    · refine .inl ⟨a',vs,rfl,eP.of ha',hw,q3 _ H3 (aF.refl _) (.inl ?_)⟩;have e:mU xs l u=xs:=by
        unfold mU;rw [<- hlen,hw.1,hw.2];simp [hlen]
      rw [e];simp only [Rp];exact ⟨a',vs,rfl,ha',r⟩
    · exact .inr (.inl ⟨a',vs,rfl,eP.of ha',hw,fun p hp=>q3 _ _ (cf hp _) (.inl (dl hp (r.cut l u)))⟩)
  | list xs =>
    obtain ⟨a',vs,rfl,ha',r⟩:=dN (K:=X.K) p3;exact .inr (.inr (.inl ⟨a',vs,rfl,ha',fun p hp=>q3 _ _ (cf hp _) (.inr (dP hp (r.cut l u)))⟩))
  | str xx =>
    simp only [BG] at q3;split at q3
    · rename_i hz;exact .inr (.inr (.inr ⟨xx,gV p3,hz,q3 _ H3 (aF.refl _) (.inl (by simp only [Rp]))⟩))
    · exact q3.elim
  | _=>exact q3.elim⟩
end
section
variable {X:Cx} {a b c:Expr} {fa fb fc:Fe} {pos p2:Pos} {nl:Nat} {G:List Str} {x:Str} {p:Pos}
theorem wu:dW X (.builtin "len") (fun xs H Q=>∃ a kvs,xs=[V.ref a]/\Rd H a (.dK kvs)/\Q (.int kvs.length) H):=by
  intro pins s σ H xs us Q I r h;obtain ⟨a,kvs,rfl,ha,q⟩:=h;obtain ⟨u,rfl,ru⟩:=gH r;cases ru;exact Ef I ha fun t s' I'=>⟨.int kvs.length,H,I',⟨t,rfl⟩,q⟩
theorem eG.length {H:Hp}:∀ {kvs:List (PyData×PyData)} {ks:List (dj×V)},eG H kvs ks->ks.length=kvs.length
  | [],ks,h=>by simp only [eG] at h;rw [h];rfl
  | kd::kvs,ks,h=>by
    simp only [eG] at h;obtain ⟨x,v,r,rfl,_,t⟩:=h;rw [List.length_cons,List.length_cons,eG.length t]
noncomputable def dO:PyData->R PyData
  | .list ds=>.ok (.int ds.length)
  | .tuple ds=>.ok (.int ds.length)
  | .dict kvs=>if pE kvs=true then .no else .ok (.int kvs.length)
  | .str y=>if y.length<=sizeLine then .ok (.int y.length) else .no
  | _=>.no
theorem cv (T:Tb X nl G) (j:Nat) (hG:G[j]?=some ("len" : Str)) (hm:X.mg "len" = none) (ha:Z.dH X a fa) (he:aT a=true:=by rfl):Z.cx X (.Call (.Name "len" p) [a] [] pos) (e1 dO fa):=⟨have ha:=ha.un;by
  refine AF T j hG hm fU PySem.boot_len (qh.or (qA.or wu)) (fun H x d Q hx q=>?_) ha he;cases d with
  | list ds =>
    obtain ⟨a',vs,rfl,h,r⟩:=dN (K:=X.K) hx;exact .inl ⟨a',vs,rfl,.inl h,by rw [r.length];exact q _ H (aF.refl _) dm⟩
  | tuple ds =>
    obtain ⟨a',vs,rfl,h,r⟩:=dC hx;exact .inl ⟨a',vs,rfl,.inr (eP.of h),by rw [r.length];exact q _ H (aF.refl _) dm⟩
  | dict kvs =>
    simp only [dO] at q;split at q
    · exact q.elim
    rename_i hi;obtain ⟨a',vs,rfl,h,r⟩:=lx (Bool.not_eq_true _ ▸ hi) hx;exact .inr (.inr ⟨a',vs,rfl,h,by rw [r.length];exact q _ H (aF.refl _) dm⟩)
  | str y =>
    simp only [dO] at q;split at q
    · rename_i hz;exact .inr (.inl ⟨y,by rw [gV hx],hz,q _ H (aF.refl _) dm⟩)
    · exact q.elim
  | _=>exact q.elim⟩
noncomputable def BQ:PyData->R PyData
  | .int i=>.ok (.int i)
  | .bool k=>.ok (.int (if k then 1 else 0))
  | _=>.no
theorem wr (T:Tb X nl G) (j:Nat) (hG:G[j]?=some ("int" : Str)) (hm:X.mg "int" = none) (ha:Z.dH X a fa) (he:aT a=true:=by rfl):Z.cx X (.Call (.Name "int" p) [a] [] pos) (e1 BQ fa):=⟨have ha:=ha.un;by
  refine CD T j hG hm fU PyProof.Rows.boot_int wg (fun H x d Q hx q=>?_) ha he;cases d with
  | int i=>exact .inl ⟨i,by rw [bR hx],q _ H (aF.refl _) dm⟩
  | bool k=>exact .inr ⟨k,by rw [oK hx],q _ H (aF.refl _) dm⟩
  | _=>exact q.elim⟩
noncomputable def FX:PyData->R PyData
  | .int i=>if i.natAbs.log2 < 1920 then .ok (.str (toString i)) else .no
  | _=>.no
noncomputable def B7:PyData->PyData->R PyData
  | .int i,.int j=>.ok (.int (if j < i then j else i))
  | _,_=>.no
noncomputable def BP:PyData->PyData->R PyData
  | .int i,.int j=>.ok (.int (if j > i then j else i))
  | _,_=>.no
theorem xY (T:Tb X nl G) (j:Nat) (hG:G[j]?=some ("min" : Str)) (hm:X.mg "min" = none) (ha:Z.dH X a fa) (hb:Z.dH X b fb) (he:aT a=true:=by rfl) (he2:aT b=true:=by rfl):Z.cx X (.Call (.Name "min" p) [a,b] [] pos) (e2 B7 fa fb):=⟨have ha:=ha.un;have hb:=hb.un;by
  refine EC T j hG hm fU PyProof.Rows.boot_min (wx T.calm) (fun H x y d e Q hx hy q=>?_) ha hb he he2;cases d with
  | int i =>
    cases e with
    | int j=>exact ⟨i,j,by rw [bR hx,bR hy],q _ H (aF.refl _) dm⟩
    | _=>exact q.elim
  | _=>exact q.elim⟩
theorem yR (T:Tb X nl G) (j:Nat) (hG:G[j]?=some ("max" : Str)) (hm:X.mg "max" = none) (ha:Z.dH X a fa) (hb:Z.dH X b fb) (he:aT a=true:=by rfl) (he2:aT b=true:=by rfl):Z.cx X (.Call (.Name "max" p) [a,b] [] pos) (e2 BP fa fb):=⟨have ha:=ha.un;have hb:=hb.un;by
  refine EC T j hG hm fU PyProof.Rows.boot_max (wO T.calm) (fun H x y d e Q hx hy q=>?_) ha hb he he2;cases d with
  | int i =>
    cases e with
    | int j=>exact ⟨i,j,by rw [bR hx,bR hy],q _ H (aF.refl _) dm⟩
    | _=>exact q.elim
  | _=>exact q.elim⟩
noncomputable def cM:PyData->R PyData
  | .list ds=>.ok (.tuple ds)
  | .tuple ds=>.ok (.tuple ds)
  | _=>.no
theorem bw (T:Tb X nl G) (j:Nat) (hG:G[j]?=some ("tuple" : Str)) (hm:X.mg "tuple" = none) (ha:Z.dH X a fa) (he:aT a=true:=by rfl):Z.cx X (.Call (.Name "tuple" p) [a] [] pos) (e1 cM fa):=⟨have ha:=ha.un;by
  refine CD T j hG hm fU PyProof.Rows.boot_tuple ph (fun H x d Q hx q=>?_) ha he;cases d with
  | list ds =>
    obtain ⟨a',vs,rfl,h,r⟩:=dN (K:=X.K) hx;exact ⟨a',vs,rfl,.inl ⟨h,fun l hl=>q _ _ (cf hl _) (dl hl r)⟩⟩
  | tuple ds =>
    obtain ⟨a',vs,rfl,h,r⟩:=dC hx;exact ⟨a',vs,rfl,.inr ⟨eP.of h,q _ H (aF.refl _) (by simp only [Rp];exact ⟨a',vs,rfl,h,r⟩)⟩⟩
  | _=>exact q.elim⟩
noncomputable def rL:PyData->R PyData
  | .list ds=>.ok (.list ds)
  | .tuple ds=>.ok (.list ds)
  | _=>.no
theorem nH (T:Tb X nl G) (j:Nat) (hG:G[j]?=some ("list" : Str)) (hm:X.mg "list" = none) (ha:Z.dH X a fa) (he:aT a=true:=by rfl):Z.o5 X (.Call (.Name "list" p) [a] [] pos) (e1 rL fa):=⟨have ha:=ha.un;by
  refine CD T j hG hm zP PyProof.Rows.boot_list qC (fun H x d Q hx q=>?_) ha he;cases d with
  | list ds =>
    obtain ⟨a',vs,rfl,h,r⟩:=dN (K:=X.K) hx;exact ⟨a',vs,rfl,.inl h,fun l hl=>q _ _ (cf hl _) (dP hl r)⟩
  | tuple ds =>
    obtain ⟨a',vs,rfl,h,r⟩:=dC hx;exact ⟨a',vs,rfl,.inr (eP.of h),fun l hl=>q _ _ (cf hl _) (dP hl r)⟩
  | _=>exact q.elim⟩
inductive Ty where
  | int | bool | str | list | tuple
noncomputable def Ty.nm:Ty->String
  | .int => "int"
  | .bool => "bool"
  | .str => "str"
  | .list => "list"
  | .tuple => "tuple"
noncomputable def Dh:Ty->PyData->Bool
  | .int,.int _=>true
  | .int,.bool _=>true
  | .bool,.bool _=>true
  | .str,.str _=>true
  | .list,.list _=>true
  | .tuple,.tuple _=>true
  | _,_=>false
noncomputable def lf (T:Ty):PyData->R PyData
  | .dict _=>.no
  | d=>.ok (.bool (Dh T d))
theorem yK:dW X (.builtin "isinstance") (fun xs H Q=>∃ x t T k,xs=[x,.ty T]/\k8 X.K H x t/\PySem.W.kitOne X.K t (.type T)=some k/\Q (.bl k) H):=by
  intro pins s σ H xs us Q I r h;obtain ⟨x,t,T,k,rfl,ty,e,q⟩:=h;obtain ⟨u,w',rfl,rx,ry⟩:=vQ r;cases ry;exact wG I rx ty e fun tk=>⟨.bl k,H,I.tok tk,rfl,q⟩
theorem DS {K:PySem.W.Frag} {H:Hp} {d:PyData} {v:V} (h:ig H d v):(∃ kvs,d=.dict kvs)\/∃ t,k8 K H v t/\∀ T:Ty,PySem.W.kitOne K t (.type T.nm)=some (Dh T d):=by
  cases d with
  | none=>rw [lC h];exact .inr ⟨_,.non,fun T=>by cases T <;> rfl⟩
  | bool k=>rw [oK h];exact .inr ⟨_,.bl k,fun T=>by cases T <;> rfl⟩
  | int i=>rw [bR h];exact .inr ⟨_,.int i,fun T=>by cases T <;> rfl⟩
  | str y=>rw [gV h];exact .inr ⟨_,.str y,fun T=>by cases T <;> rfl⟩
  | tuple ds=>obtain ⟨a,vs,rfl,ha,_⟩:=dC h;exact .inr ⟨_,.tup ha,fun T=>by cases T <;> rfl⟩
  | list ds =>
    obtain ⟨a,vs,rfl,ha,_⟩:=qw h;rcases ha with ha | ⟨o,ha⟩
    · exact .inr ⟨_,.lst ha,fun T=>by cases T <;> rfl⟩
    · exact .inr ⟨_,.frz ha,fun T=>by cases T <;> rfl⟩
  | dict kvs=>exact .inl ⟨kvs,rfl⟩
theorem tF (ty:Ty) {y:Str} {py:Pos} (T:Tb X nl G) (j:Nat) (hG:G[j]?=some ("isinstance" : Str)) (hm:X.mg "isinstance" = none) (hy:bootBuiltins y=some (.type ty.nm)) (T':Tb X nl G) (j':Nat) (hG':G[j']?=some y) (hm':X.mg y=none) (ha:dH X a fa)
    (he:aT a=true:=by rfl):cx X (.Call (.Name "isinstance" p) [a,.Name y py] [] pos) (e1 (lf ty) fa):=by
  have g:=T.gl _ (List.mem_of_getElem? hG);have g':=T.gl _ (List.mem_of_getElem? hG');have hp:PE X (.Name y py) (tC (.ty ty.nm)):=AI g'.1 hm' hy rfl g'.2.2 g'.2.1;refine PE.imp (nO yK g.1 hm PyProof.Rows.boot_isinstance (qU ha (qU hp xy) (bo he)) g.2.2 g.2.1 (bo he)) fun σ H Q h=>?_
  refine (fD (P:=vH) (f:=fa) (k:=fun _ d=>lf ty d) (fu (X:=X) fU Q) h).post fun v H1 ⟨_,d,_,_,p1,q1⟩=>?_
  show ∃ x t T k,_/\_/\_/\_;rcases DS (K:=X.K) p1 with ⟨kvs,rfl⟩ | ⟨t,ht,hk⟩
  · exact q1.elim
  · refine ⟨v,t,ty.nm,Dh ty d,rfl,ht,hk ty,?_⟩;cases d with
    | dict kvs=>exact q1.elim
    | _=>exact q1 _ H1 (aF.refl _) fB
theorem qP {py:Pos} (T:Tb X nl G) (j:Nat) (hG:G[j]?=some ("isinstance" : Str)) (hm:X.mg "isinstance" = none) (T':Tb X nl G) (j':Nat) (hG':G[j']?=some ("int" : Str)) (hm':X.mg "int" = none) (ha:Z.dH X a fa) (he:aT a=true:=by rfl):Z.cx X (.Call (.Name "isinstance" p) [a,.Name "int" py] [] pos) (e1 (lf .int) fa):=⟨have ha:=ha.un;tF .int T j hG hm PyProof.Rows.boot_int T' j' hG' hm' ha he⟩
theorem pf {py:Pos} (T:Tb X nl G) (j:Nat) (hG:G[j]?=some ("isinstance" : Str)) (hm:X.mg "isinstance" = none) (T':Tb X nl G) (j':Nat) (hG':G[j']?=some ("bool" : Str)) (hm':X.mg "bool" = none) (ha:Z.dH X a fa) (he:aT a=true:=by rfl):Z.cx X (.Call (.Name "isinstance" p) [a,.Name "bool" py] [] pos) (e1 (lf .bool) fa):=⟨have ha:=ha.un;tF .bool T j hG hm PyProof.Rows.boot_bool T' j' hG' hm' ha he⟩
theorem jG {py:Pos} (T:Tb X nl G) (j:Nat) (hG:G[j]?=some ("isinstance" : Str)) (hm:X.mg "isinstance" = none) (T':Tb X nl G) (j':Nat) (hG':G[j']?=some ("tuple" : Str)) (hm':X.mg "tuple" = none) (ha:Z.dH X a fa) (he:aT a=true:=by rfl):Z.cx X (.Call (.Name "isinstance" p) [a,.Name "tuple" py] [] pos) (e1 (lf .tuple) fa):=⟨have ha:=ha.un;tF .tuple T j hG hm PyProof.Rows.boot_tuple T' j' hG' hm' ha he⟩
noncomputable def lg:List PyData->Option Bool
  | []=>some true
  | .bool k::ds=>(lg ds).map fun r=>k&&r
  | _=>none
noncomputable def mT:PyData->R PyData
  | .list ds=>match lg ds with
    | some k=>.ok (.bool k)
    | none=>.no
  | _=>.no
end
section
variable {X:Cx} {tg a b c:Expr} {fa fb fc:Fe} {pos p2:Pos} {nl:Nat} {G:List Str} {x:Str} {p:Pos} {fs:aQ->R (List PyData)} {es:List Expr}
noncomputable def iK:PyData->R (List PyData)
  | .list ds=>.ok ds
  | .tuple ds=>.ok ds
  | _=>.no
noncomputable def eS (f:Fe):aQ->R (List PyData):=fun ρ=>f ρ>>=iK
theorem zq {K:PySem.W.Frag} {a:Addr} {ds:List PyData}:zK (Fa K a) (fun H=>∃ o vs,H a=some (.frz o (.lst vs))/\bx H ds vs) ds where
  go:=fun i H ⟨o,vs,h,r⟩ hi=>by
    have hl:=r.length;exact ⟨vs,vs[i],.inl (.inr ⟨o,h⟩),List.getElem?_eq_getElem (by omega)⟩
  yld:=fun i H x H' d ⟨o,vs,h,r⟩ hd ⟨e,y⟩=>by
    subst e;obtain ⟨v,e1,p⟩:=r.get hd;have:=y vs (.inl (.inr ⟨o,h⟩));rw [e1] at this;cases this;exact ⟨aF.refl _,p⟩
  stop:=fun i H ⟨o,vs,h,r⟩ hi=>⟨vs,.inl (.inr ⟨o,h⟩),by rw [r.length];exact hi⟩
theorem Ai {K:PySem.W.Frag} {a:Addr} {ds:List PyData}:zK (Fy K a) (fun H=>∃ vs,H a=some (.tup vs)/\bx H ds vs) ds where
  go:=fun i H ⟨vs,h,r⟩ hi=>by
    have hl:=r.length;exact ⟨vs,vs[i],eP.of h,List.getElem?_eq_getElem (by omega)⟩
  yld:=fun i H x H' d ⟨vs,h,r⟩ hd ⟨e,y⟩=>by
    subst e;obtain ⟨v,e1,p⟩:=r.get hd;have:=y vs (eP.of h);rw [e1] at this;cases this;exact ⟨aF.refl _,p⟩
  stop:=fun i H ⟨vs,h,r⟩ hi=>⟨vs,eP.of h,by rw [r.length];exact hi⟩
noncomputable def FZ (K:PySem.W.Frag) (tl:TE):TI:=fun σ H R=>tl σ H fun x H1=>∃ a,x=.ref a/\((∃ xs,nk K H1 a xs/\R (Fa K a) H1)\/∃ xs,eP K H1 a xs/\R (Fy K a) H1)
theorem DQ {l:Expr} {tl:TE} (hl:PE X l tl):PI X tg l (FZ X.K tl):=by
  intro pins s σ H R I h;refine dg (hl pins s σ H _ I h) fun v s1 ⟨x,H1,I1,r1,q1⟩=>?_
  obtain ⟨a,e,q⟩:=q1;subst e;cases r1;rcases q with ⟨xs,hq,q⟩ | ⟨xs,hq,q⟩
  · obtain ⟨its,rv,p,hz⟩:=I1.list hq;refine wpAny_pyIter_list p.isList ?_;refine ⟨s1.heap.objs.size,[s1.heap.objs.size],_,_,H1,rfl,I1.kept (t':=s1.toks) fun b o e=>Heap.get?_push_of_some _ e,v8 a _,⟨_,Heap.get?_push_size _ rfl,rfl,rfl⟩,fun b hb=>?_,q⟩;have e:b=s1.heap.objs.size:=by simpa using hb
    subst e;exact I1.fpOk (Nat.le_refl _) (I1.hok.fresh (Nat.le_refl _))
  · obtain ⟨its,rv,p,hz⟩:=I1.tuple hq;refine wpAny_pyIter_tuple (show s1.heap.IsTuple a its.toArray from p) ?_;refine ⟨s1.heap.objs.size,[s1.heap.objs.size],_,_,H1,rfl,I1.kept (t':=s1.toks) fun b o e=>Heap.get?_push_of_some _ e,tT a _,⟨_,Heap.get?_push_size _ rfl,rfl,rfl⟩,fun b hb=>?_,q⟩;have e:b=s1.heap.objs.size:=by simpa using hb
    subst e;exact I1.fpOk (Nat.le_refl _) (I1.hok.fresh (Nat.le_refl _))
theorem Eb (Rk:It->Hp->Prop):AW X (fun (r:R (List PyData)) H=>match r with | .ok ds=>∀ J H',aF H H'->(∃ Gd,zK J Gd ds/\EJ H' (fun _=>False) Gd)->Rk J H' | .ex c=>Xw X c H | .no=>False) where
  mono:=fun r H H' h s=>by
    cases r with
    | ok d=>exact fun J H2 s2=>h J H2 (s.trans s2)
    | ex c=>exact Xw.mono h s
    | no=>exact h
  ex:=fun c H h=>h
  no:=fun H h=>h
theorem bN (ha:Z.cx X a fa):Z.sY X tg a (eS fa):=⟨have ha:=ha.un;PI.imp (DQ ha) fun σ H Rk h=>(fD (P:=ie) (f:=fa) (k:=fun _=>iK) (Eb (X:=X) Rk) h).post fun v H1 ⟨_,d,_,_,p1,q1⟩=>by
    cases d with
    | list ds =>
      simp only [Rp] at p1;obtain ⟨a',o,vs,rfl,h,r⟩:=p1;exact ⟨a',rfl,.inl ⟨vs,.inl (.inr ⟨o,h⟩),q1 _ H1 (aF.refl _) ⟨_,zq,fun H2 k _=>⟨o,vs,k.2 _ _ _ h,bx.kp k _ _ r⟩⟩⟩⟩
    | tuple ds =>
      simp only [Rp] at p1;obtain ⟨a',vs,rfl,h,r⟩:=p1;exact ⟨a',rfl,.inr ⟨vs,eP.of h,q1 _ H1 (aF.refl _) ⟨_,Ai,fun H2 k _=>⟨vs,k.1 _ _ h,bx.kp k _ _ r⟩⟩⟩⟩
    | _=>exact q1.elim⟩
noncomputable def bJ (lo:Int) (n:Nat):List PyData:=(List.range n).map fun (k:Nat)=>.int (lo+k)
noncomputable def pd:List PyData->R (List PyData)
  | [.int j]=>if -(2 ^ 62)<=j/\j < 2 ^ 62 then .ok (bJ 0 j.toNat) else .no
  | [.int i,.int j]=>if -(2 ^ 62)<=i/\i < 2 ^ 62/\-(2 ^ 62)<=j/\j < 2 ^ 62 then .ok (bJ i (j-i).toNat) else .no
  | _=>.no
noncomputable def iO (fs:aQ->R (List PyData)):aQ->R (List PyData):=fun ρ=>fs ρ>>=pd
theorem v7 {lo:Int} {n:Nat}:zK (ER lo n) (fun _=>True) (bJ lo n) where
  go:=fun i H _ hi=>by
    show i < n;simpa [bJ] using hi
  yld:=fun i H x H' d _ hd ⟨e,y⟩=>by
    subst e;subst y;refine ⟨aF.refl _,?_⟩;unfold bJ at hd;rw [List.getElem?_map] at hd;cases h:(List.range n)[i]? with
    | none=>rw [h] at hd;cases hd
    | some k =>
      rw [h] at hd;have hk:k=i:=by
        rw [List.getElem?_range] at h
        · exact (Option.some.inj h).symm
        · have:=(List.getElem?_eq_some_iff.mp h).1;simpa using this
      subst hk;cases hd;exact dm
  stop:=fun i H _ hi=>by
    show n<=i;simpa [bJ] using hi
theorem fR (T:Tb X nl G) (j:Nat) (hG:G[j]?=some ("range" : Str)) (hm:X.mg "range" = none) (ha:Z.uG X [a] fs) (hl:∀ ρ ds,fs ρ=.ok ds->ds.length=1) (hs:aT a=true:=by rfl):Z.sY X tg (.Call (.Name "range" p) [a] [] pos) (iO fs):=⟨have ha:=ha.un;PI.imp (vV (T.gl _ (List.mem_of_getElem? hG)).1 hm ha (bo hs)) fun σ H Rk ⟨ρ,sl,q⟩=>by
    refine ⟨ρ,sl,?_⟩;dsimp only [iO] at q;cases e:fs ρ with
    | ex c=>rw [e] at q;exact q
    | no=>rw [e] at q;exact q
    | ok ds =>
      rw [e] at q;have hlen:=hl ρ ds e;intro vs H1 s1 r1
      match ds,hlen with
      | [d],_ =>
        simp only [RA] at r1;obtain ⟨v,r',rfl,p1,rfl⟩:=r1;cases d with
        | int j =>
          have ev:v=.int j:=by simpa only [Rp] using p1
          subst ev;by_cases hz:-(2 ^ 62)<=j/\j < 2 ^ 62
          · have e2:pd [.int j]=.ok (bJ 0 j.toNat):=if_pos hz;rw [R.ok_bind,e2] at q;exact ⟨j,rfl,hz.1,hz.2,q _ H1 s1 ⟨_,v7,fun _ _ _=>True.intro⟩⟩
          · have e2:pd [.int j]=.no:=if_neg hz;rw [R.ok_bind,e2] at q;exact q.elim
        | _=>exact q.elim⟩
end
noncomputable def ul (x:Int):List Int->List Int
  | []=>[x]
  | y::r=>if x<=y then x::y::r else y::ul x r
noncomputable def gp:List Int->List Int
  | []=>[]
  | x::r=>ul x (gp r)
theorem lQ (x:Int):∀ l,(ul x l).Perm (x::l)
  | []=>List.Perm.refl _
  | y::r=>by
    unfold ul;split
    · exact List.Perm.refl _
    · exact ((lQ x r).cons y).trans (List.Perm.swap x y r)
theorem fF:∀ l,(gp l).Perm l
  | []=>List.Perm.refl _
  | x::r=>(lQ x (gp r)).trans ((fF r).cons x)
theorem my (x:Int):∀ l,l.Pairwise (·<=·)->(ul x l).Pairwise (·<=·)
  | [],_=>by unfold ul;exact List.pairwise_singleton _ _
  | y::r,h=>by
    have h':=List.pairwise_cons.mp h;unfold ul;split
    · rename_i hxy;refine List.pairwise_cons.mpr ⟨fun z hz=>?_,h⟩;rcases List.mem_cons.mp hz with rfl | hz
      · exact hxy
      · exact Int.le_trans hxy (h'.1 z hz)
    · rename_i hxy;refine List.pairwise_cons.mpr ⟨fun z hz=>?_,my x r h'.2⟩;rcases List.mem_cons.mp ((lQ x r).mem_iff.mp hz) with rfl | hz
      · omega
      · exact h'.1 z hz
theorem iE:∀ l,(gp l).Pairwise (·<=·)
  | []=>List.Pairwise.nil
  | x::r=>my x _ (iE r)
theorem rn {a b:List Int} (hp:a.Perm b) (hs:a.Pairwise (·<=·)):a=gp b:=PySem.W.ksm_same (hp.trans (fF b).symm) hs (iE b)
section
variable {prog:Program} {w:World} {A:Around} {E:Value->Shared->Prop} {s:Shared}
theorem sd {d:Addr} {kvs:List (dj×Value)} {ns:List Int} {Q:Value->Shared->Prop} (hh:A.handled=none) (lo:(d==sysModules)=false) (hd:s.heap.DictOf (dn prog w) d kvs) (hk:kvs.map (·.1)=ns.map Sum.inl) (h64:ns.length < 64)
    (h:∀ (D:Addr) (h':Heap) (tk:Nat) (vs:List Value) (e:Nat),s.heap.get? D=none->(∀ b o,s.heap.get? b=some o->h'.get? b=some o)->h'.get? D=some (seqObj "list" vs.toArray e)->IntsAre vs (gp ns)->Q (.ref D) { s with heap:=h',toks:=tk }) :
    wpAny (model prog w) A (call (.builtin "sorted") [.ref d]) Q E s:=by
  obtain ⟨ep,hat⟩:=hd.dictAt;have hlen:kvs.length=ns.length:=by have:=congrArg List.length hk;simpa using this
  have hn:kvs.length<=sizeLine:=by rw [sizeLine_eq];omega
  refine Calls.call_function_entry kind_sorted plain_sorted entry_sorted (args_sorted1 _) ?_;unfold Builtin.«sorted»;refine wpAny_bind (m:=checkCount "sorted" 1 1 _) (wpAny_pure ?_);refine wpAny_bind (PySem.W.kdu_collect (A:=A.in1) (PySem.W.kdl_dict (knd:=dn prog w) (kvs:=kvs) (ep:=ep) lo) hh hat hn fun h1 tk acc hk1 hacc=>?_);have hl:acc.toList.length=kvs.length:=by rw [Array.length_toList];exact hacc.1
  have hI:IntsAre acc.toList ns:=by
    have key:∀ (l:List Value) (ms:List Int) (k:Nat),l.length=ms.length->(∀ (j:Nat) (v:Value),l[j]?=some v->∃ n:Int,ms[j]?=some n/\∃ t,v=Value.int n t)->IntsAre l ms:=by
      intro l;induction l with
      | nil=>intro ms k e _;have:ms=[]:=List.length_eq_zero_iff.mp e.symm;subst this;exact .nil
      | cons v r ih =>
        intro ms k e hv;cases ms with
        | nil=>cases e
        | cons n ms =>
          obtain ⟨n',e1,t,rfl⟩:=hv 0 v rfl;have:n=n':=Option.some.inj e1;subst this;exact .cons n t (ih ms (k+1) (by simpa using e) fun j u hu=>hv (j+1) u (by simpa using hu))
    refine key acc.toList ns 0 (by rw [hl,hlen]) fun j v hv=>?_
    obtain ⟨κ,x,hx,his⟩:=hacc.2 j v (by rw [<- Array.getElem?_toList];exact hv);have e1:(kvs.map (·.1))[j]?=some κ:=by rw [List.getElem?_map,hx];rfl
    rw [hk,List.getElem?_map] at e1;cases e2:ns[j]? with
    | none=>rw [e2] at e1;cases e1
    | some n =>
      rw [e2] at e1;have e3:Sum.inl n=κ:=Option.some.inj e1;subst e3;rcases cC (show oR (Sum.inl n) v=true from his) with ⟨i,t,e4,e5⟩ | ⟨y,t,e4,_⟩
      · cases e4;exact ⟨n,rfl,t,e5⟩
      · cases e4
  refine wpAny_bind (wpAny_newList ?_ (by rw [hl];exact hn));have hoL:(h1.push (seqObj "list" acc.toList.toArray 0)).get? h1.objs.size=some (seqObj "list" acc.toList.toArray 0):=Heap.get?_push_size _ rfl;show wpAny _ _ _ _ _ { s with heap:=h1.push (seqObj "list" acc.toList.toArray 0),toks:=tk };refine wpAny_bind (wpAny_holding (wpAny_call_entry slot_list_sort ⟨_,hoL,rfl⟩ entry_list_sort (list_sort_tree hoL hI (by rw [hl,hlen];exact h64) fun out ns' a1 a2 a3=>⟨_,rfl,?_⟩) (args_list_sort _)));refine wpAny_pure ⟨_,rfl,?_⟩;obtain ⟨e,he⟩:=sortedHeap_at (out:=out) hoL;have hsz:s.heap.get? h1.objs.size=none:=by
    cases q:s.heap.get? h1.objs.size with
    | none=>rfl
    | some o=>exact absurd (Heap.lt_size (hk1 _ _ q)) (Nat.lt_irrefl _)
  refine h h1.objs.size _ tk out.toList e hsz (fun b o q=>?_) he (by rw [rn a2 a3] at a1;exact a1);have q1:=hk1 b o q;have hlt:b < h1.objs.size:=Heap.lt_size q1;show (sortedHeap (h1.push (seqObj "list" acc.toList.toArray 0)) h1.objs.size acc.toList out).get? b=some o;rw [sortedHeap_old (Nat.ne_of_lt hlt) (by rw [size_push'];exact Nat.lt_succ_of_lt hlt)];exact Heap.get?_push_of_some _ q1
end
theorem Ac {fs ex:List Addr} {H:Hp} {h h':Heap} {a:Addr} {o:HO} (k:∀ b u,h.get? b=some u->h'.get? b=some u) (hg:h.get? a=none) (hn:H a=none):Un fs ex H (cw H a o) h h':=by
  have ne:∀ {b:Addr} {u:Obj},h.get? b=some u->b≠a:=fun e z=>by subst z;rw [hg] at e;cases e
  exact ⟨fun b u q _ _ _=>k b u q,fun b u q _ _ _=>⟨u.slots,k b u q⟩,fun b u q n _=>by rw [av (ne q)];exact n,fun b u q _=>⟨u,k b u q⟩,fun b xs q=>by rw [av (aU q hn)];exact q,fun b u xs q=>by rw [av (aU q hn)];exact q,
    fun b ps q=>⟨#[],by rw [av (aU q hn),q];simp⟩⟩
theorem rA {X:Cx} {pins:List (Addr×Obj)} {σ:St} {H:Hp} {s:Shared} {h':Heap} {a:Addr} {o:HO} {t':Nat} (I:aP X pins σ H s) (k:∀ b u,s.heap.get? b=some u->h'.get? b=some u) (hg:s.heap.get? a=none) (hn:H a=none)
    (new:bS X.prog X.w (cw H a o) h' a o):aP X pins σ (cw H a o) { s with heap:=h',toks:=t' }:=by
  refine I.un (Ac k hg hn) fun b u e=>?_
  by_cases hb:b=a
  · subst hb;rw [bi] at e;cases e;exact new
  · rw [av hb] at e;exact (I.hok b u e).stay (fun c v _ q=>k c v q) (fun c q=>by rw [av (aU q hn)];exact q) fun c xs q=>by rw [av (aU q hn)];exact q
theorem sR {X:Cx} {pins:List (Addr×Obj)} {σ:St} {H:Hp} {s:Shared} {a:Addr} (I:aP X pins σ H s) (hg:s.heap.get? a=none):H a=none:=by
  cases q:H a with
  | none=>rfl
  | some o=>obtain ⟨u,e⟩:=rb (I.hok a o q);rw [hg] at e;cases e
section
variable {X:Cx} {a b c:Expr} {fa fb fc:Fe} {pos p2:Pos} {nl:Nat} {G:List Str} {x:Str} {p:Pos}
noncomputable def cr:List PyData->Option (List Int)
  | []=>some []
  | .int i::ds=>(cr ds).map fun r=>i::r
  | _=>none
theorem eV:∀ {ds:List PyData} {ns:List Int},cr ds=some ns->ds=ns.map PyData.int
  | [],ns,h=>by cases h;rfl
  | d::ds,ns,h=>by
    cases d with
    | int i =>
      simp only [cr] at h;cases e:cr ds with
      | none=>rw [e] at h;cases h
      | some r =>
        rw [e] at h;cases h;rw [List.map_cons,eV e]
    | _=>cases h
theorem gY:∀ ns:List Int,cr (ns.map PyData.int)=some ns
  | []=>rfl
  | n::ns=>by simp only [List.map_cons,cr,gY ns,Option.map_some]
noncomputable def ls:PyData->R PyData
  | .list ds=>match cr ds with
    | some ns=>if ns.length < 64 then .ok (.list ((gp ns).map PyData.int)) else .no
    | none=>.no
  | .dict kvs=>match cr (kvs.map (·.1)) with
    | some ns=>if ns.length < 64 then .ok (.list ((gp ns).map PyData.int)) else .no
    | none=>.no
  | _=>.no
noncomputable def B3 (K:PySem.W.Frag):List V->Hp->VK->Prop:=fun xs H Q=>∃ p ns,xs=[.ref p]/\nk K H p (ns.map V.int)/\ns.length < 64/\∀ l,H l=none->Q (.ref l) (cw H l (.lst ((gp ns).map V.int)))
noncomputable def CC:List V->Hp->VK->Prop:=fun xs H Q=>∃ p ks ns,xs=[.ref p]/\Rd H p (.dK ks)/\ks.map (·.1)=ns.map Sum.inl/\ns.length < 64/\∀ l,H l=none->Q (.ref l) (cw H l (.lst ((gp ns).map V.int)))
theorem pK (ns:List Int):(gp ns).length=ns.length:=(fF ns).length_eq
theorem uz:dW X (.builtin "sorted") (B3 X.K):=by
  intro pins s σ H xs us Q I r h;obtain ⟨p,ns,rfl,hq,h64,q⟩:=h;obtain ⟨u,rfl,rx⟩:=gH r;cases rx;obtain ⟨its,rv,pl,hz⟩:=I.list hq;have hI:IntsAre its ns:=iW rv;have hl:=IntsAre.length hI;refine sorted_ints pl.isList hI (by omega) fun out ns' a1 a2 a3=>?_
  rw [rn a2 a3] at a1;obtain ⟨e,he⟩:=sortedAll_at s.heap its out;refine ⟨.ref (s.heap.objs.size+1),_,I.laid (t':=s.toks) (o:=.lst ((gp ns).map V.int)) (fun b o e=>sortedAll_old e) (Nat.le_succ _) ⟨?_,out.toList,e,jO a1,by simpa [seqObj] using he⟩,rfl,q _ (I.hok.fresh (Nat.le_succ _))⟩;rw [List.length_map,pK,sizeLine_eq];omega
theorem ud (hc:X.calm=true):dW X (.builtin "sorted") CC:=by
  intro pins s σ H xs us Q I r h;obtain ⟨p,ks,ns,rfl,hq,hk,h64,q⟩:=h;obtain ⟨u,rfl,rx⟩:=gH r;cases rx;obtain ⟨hz,hlo,vs,kv,hd⟩:=ox I.hok hq;refine sd (I.ok.hd hc) hlo hd (by rw [<- kv.keys];exact hk) h64 fun D h' tk vs' e hg kp hD hI=>?_
  have hn:=sR I hg;refine ⟨.ref D,_,rA (t':=tk) (o:=.lst ((gp ns).map V.int)) I kp hg hn ⟨?_,vs',e,jO hI,by simpa [seqObj] using hD⟩,rfl,q _ hn⟩;rw [List.length_map,pK,sizeLine_eq];omega
theorem k9:∀ {H:Hp} {ns:List Int} {vs:List V},bx H (ns.map PyData.int) vs->vs=ns.map V.int
  | H,[],vs,r=>by rw [List.map_nil] at r;rw [r.nil_inv];rfl
  | H,n::ns,vs,r=>by
    rw [List.map_cons] at r;obtain ⟨v,r',rfl,p,t⟩:=r.cons_inv;have:v=.int n:=by simpa only [Rp] using p
    rw [this,k9 t];rfl
theorem sh:∀ {H:Hp} {kvs:List (PyData×PyData)} {ks:List (dj×V)},eG H kvs ks->kvs.map (·.1)=ks.map fun k=>gf k.1
  | H,[],ks,r=>by simp only [eG] at r;rw [r];rfl
  | H,(k,d)::kvs,ks,r=>by
    simp only [eG,zI] at r;obtain ⟨x,v,r',rfl,⟨e,_⟩,t⟩:=r;rw [List.map_cons,List.map_cons,sh t,e]
theorem qb:∀ {ks:List (dj×V)} {ns:List Int},(ks.map fun k=>gf k.1)=ns.map PyData.int->ks.map (·.1)=ns.map Sum.inl
  | [],[],_=>rfl
  | [],_::_,h=>by cases h
  | _::_,[],h=>by cases h
  | (k,v)::ks,n::ns,h=>by
    rw [List.map_cons,List.map_cons] at h;injection h with h1 h2
    rw [List.map_cons,List.map_cons,qb h2];cases k with
    | inl i=>simp only [gf] at h1;cases h1;rfl
    | inr y=>simp only [gf] at h1;cases h1
theorem qm (T:Tb X nl G) (j:Nat) (hG:G[j]?=some ("sorted" : Str)) (hm:X.mg "sorted" = none) (ha:Z.dH X a fa) (he:aT a=true:=by rfl):Z.o5 X (.Call (.Name "sorted" p) [a] [] pos) (e1 ls fa):=⟨have ha:=ha.un;by
  refine AF T j hG hm zP PyProof.Rows.boot_sorted (uz.or (ud T.calm)) (fun H x d Q hx q=>?_) ha he;cases d with
  | list ds =>
    simp only [ls] at q;cases ei:cr ds with
    | none=>rw [ei] at q;exact q.elim
    | some ns =>
      rw [ei] at q;dsimp only at q;by_cases h64:ns.length < 64
      · rw [if_pos h64] at q;obtain ⟨a',vs,rfl,h,r⟩:=dN (K:=X.K) hx;rw [eV ei] at r;rw [k9 r] at h;exact .inl ⟨a',ns,rfl,h,h64,fun l hl=>q _ _ (cf hl _) (dP hl (bx.ints _))⟩
      · rw [if_neg h64] at q;exact q.elim
  | dict kvs =>
    simp only [ls] at q;cases ei:cr (kvs.map (·.1)) with
    | none=>rw [ei] at q;exact q.elim
    | some ns =>
      rw [ei] at q;dsimp only at q;by_cases h64:ns.length < 64
      · rw [if_pos h64] at q;have hi:pE kvs=false:=by
          cases kvs with
          | nil=>rfl
          | cons kd kvs =>
            obtain ⟨k,d⟩:=kd;cases k <;> first | rfl | (simp [cr] at ei)
        obtain ⟨a',ks,rfl,h,r⟩:=lx hi hx;have hk:=qb ((sh r).symm.trans (eV ei));exact .inr ⟨a',ks,ns,rfl,h,hk,h64,fun l hl=>q _ _ (cf hl _) (dP hl (bx.ints _))⟩
      · rw [if_neg h64] at q;exact q.elim
  | _=>exact q.elim⟩
theorem wI (hc:X.calm=true):dW X (.builtin "all") (fun xs H Q=>∃ (p:Addr) (bs:List Bool),xs=[.ref p]/\nk X.K H p (bs.map V.bl)/\Q (.bl (bs.all id)) H):=by
  intro pins s σ H xs us Q I r h;obtain ⟨p,bs,rfl,hq,q⟩:=h;obtain ⟨u,rfl,rx⟩:=gH r;cases rx;obtain ⟨its,rv,pl,hz⟩:=I.list hq;have hh:X.A.in1.handled=none:=I.ok.hd hc;have hlt:p≠s.heap.objs.size:=by obtain ⟨o,e,_⟩:=pl.isList;exact Nat.ne_of_lt (Heap.lt_size e)
  have hits:its=bs.map Value.bool:=by
    have key:∀ (bs:List Bool) (us:List Value),bA (bs.map V.bl) us->us=bs.map Value.bool:=by
      intro bs;induction bs with
      | nil=>intro us r;cases r;rfl
      | cons k bs ih=>intro us r;rw [List.map_cons] at r;cases r with | cons r1 r2=>rw [ih _ r2];cases r1;rfl
    exact key bs its rv
  refine call_all_walk (wpAny_pyIter_list pl.isList ?_);refine ⟨s.heap.objs.size,_,_,its.toArray.size,_,_,fun i=>(bs[i]?).getD true,rfl,Walks.list hh s.heap.objs.size p hlt its.toArray,⟨⟨_,Heap.get?_push_size _ rfl,rfl,rfl⟩,?_⟩,fun i v s' Q' E' hv hQ'=>?_,fun h' tk kp=>?_⟩
  · obtain ⟨o,e,r'⟩:=pl.isList;exact ⟨o,Heap.get?_push_of_some _ e,r'⟩
  · have hv':its[i]?=some v:=by simpa using hv
    rw [hits,List.getElem?_map] at hv';cases e:bs[i]? with
    | none=>rw [e] at hv';cases hv'
    | some k =>
      rw [e] at hv';cases hv';dsimp only at hQ';rw [e] at hQ';exact wpAny_truthy_bool hQ'
  · have e:((List.range its.toArray.size).all fun i=>(bs[i]?).getD true)=bs.all id:=by
      rw [List.size_toArray,hits,List.length_map];have key:∀ (l:List Bool),((List.range l.length).all fun i=>(l[i]?).getD true)=l.all id:=by
        intro l;induction l with
        | nil=>rfl
        | cons k l ih =>
          rw [List.length_cons,List.range_succ_eq_map,List.all_cons,List.all_map,List.all_cons,<- ih];rfl
      exact key bs
    rw [e];refine ⟨.bl (bs.all id),H,I.kept (t':=tk) fun b o g=>kp b o (fun z=>?_) (Heap.get?_push_of_some _ g),rfl,q⟩;rw [List.mem_singleton.mp z] at g;exact absurd (Heap.lt_size g) (Nat.lt_irrefl _)
theorem sD:∀ {ds:List PyData} {k:Bool},lg ds=some k->∃ bs:List Bool,ds=bs.map PyData.bool/\k=bs.all id
  | [],k,h=>by cases h;exact ⟨[],rfl,rfl⟩
  | d::ds,k,h=>by
    cases d with
    | bool j =>
      simp only [lg] at h;cases e:lg ds with
      | none=>rw [e] at h;cases h
      | some r =>
        rw [e] at h;cases h;obtain ⟨bs,e1,e2⟩:=sD e;exact ⟨j::bs,by rw [e1];rfl,by rw [e2];rfl⟩
    | _=>cases h
theorem pU:∀ {H:Hp} {ns:List Bool} {vs:List V},bx H (ns.map PyData.bool) vs->vs=ns.map V.bl
  | H,[],vs,r=>by rw [List.map_nil] at r;rw [r.nil_inv];rfl
  | H,n::ns,vs,r=>by
    rw [List.map_cons] at r;obtain ⟨v,r',rfl,p,t⟩:=r.cons_inv;have:v=.bl n:=by simpa only [Rp] using p
    rw [this,pU t];rfl
theorem lc (T:Tb X nl G) (j:Nat) (hG:G[j]?=some ("all" : Str)) (hm:X.mg "all" = none) (ha:Z.dH X a fa) (he:aT a=true:=by rfl):Z.cx X (.Call (.Name "all" p) [a] [] pos) (e1 mT fa):=⟨have ha:=ha.un;by
  refine AF T j hG hm fU PyProof.Rows.boot_all (wI T.calm) (fun H x d Q hx q=>?_) ha he;cases d with
  | list ds =>
    simp only [mT] at q;cases ei:lg ds with
    | none=>rw [ei] at q;exact q.elim
    | some k =>
      rw [ei] at q;obtain ⟨bs,e1,e2⟩:=sD ei;obtain ⟨a',vs,rfl,h,r⟩:=dN (K:=X.K) hx;rw [e1] at r;rw [pU r] at h;refine ⟨a',bs,rfl,h,?_⟩;rw [<- e2];exact q _ H (aF.refl _) fB
  | _=>exact q.elim⟩
end
section
variable {X:Cx} {a b c:Expr} {fa fb fc:Fe} {pos p2:Pos} {nl:Nat} {G:List Str} {x:Str} {p:Pos}
theorem iY.change {Fm H:Hp} {σ:St} {ρ:aQ} {i:Nat} {d d':PyData} {a:Addr} {u u':HO} (h:iY Fm H σ ρ) (h1:ρ[i]?=some (.own d)) (h2:σ[i]?=some (some (.ref a))) (hu:H a=some u) (hm:(∃ xs,u=.lst xs)\/∃ ks,u=.dK ks)
    (hr:i9 (cw H a u') d' (.ref a)):iY Fm (cw H a u') σ (ρ.set i (.own d')):=by
  have hFa:=h.own i d a h1 h2;have kp:Kp H (cw H a u'):=gA hu hm;have at_i:∀ (j:Nat) (e:PyData),(ρ.set i (.own d'))[j]?=some (.own e)->∃ e0,ρ[j]?=some (.own e0):=fun j e q=>by
    rw [List.getElem?_set] at q;by_cases hij:i=j
    · subst hij;exact ⟨d,h1⟩
    · rw [if_neg hij] at q;exact ⟨e,q⟩
  refine ⟨fun b x e=>?_,⟨by rw [List.length_set];exact h.sl.1,fun j c w' e1 e2=>?_⟩,fun j e b e1 e2=>?_,fun j k e f b e1 e2 e3 e4=>?_⟩
  · rw [av (aU e hFa)];exact h.fm b x e
  · rw [List.getElem?_set] at e1;by_cases hij:i=j
    · subst hij;rw [if_pos rfl] at e1;split at e1
      · cases e1;rw [h2] at e2;cases e2;exact ⟨_,rfl,hr⟩
      · cases e1
    · rw [if_neg hij] at e1;have q:=h.sl.2 j c w' e1 e2;cases c with
      | exc p=>exact q
      | non=>exact True.intro
      | val d1=>obtain ⟨v,z1,z2⟩:=q;exact ⟨v,z1,Rp.kp kp _ _ z2⟩
      | own d1 =>
        obtain ⟨v,z1,z2⟩:=q;subst z1;obtain ⟨b,ob,rfl,hb⟩:=qS z2;have nb:b≠a:=fun z=>hij (by subst z;exact h.apart i j d d1 b h1 e1 h2 e2)
        refine ⟨_,rfl,?_⟩;cases d1 <;> simp only [i9] at z2 ⊢
        · obtain ⟨b',vs,e,hb',r⟩:=z2;cases e;exact ⟨b,vs,rfl,by rw [av nb];exact hb',bx.kp kp _ _ r⟩
        · obtain ⟨b',vs,e,hb',r⟩:=z2;cases e;exact ⟨b,vs,rfl,by rw [av nb];exact hb',eG.kp kp _ _ r⟩
  · obtain ⟨e0,q⟩:=at_i j e e1;exact h.own j e0 b q e2
  · obtain ⟨e0,q⟩:=at_i j e e1;obtain ⟨f0,q'⟩:=at_i k f e2;exact h.apart j k e0 f0 b q q' e3 e4
noncomputable def zQ (i:Nat) (fk fv:Fe):Fs:=fun ρ=>fv ρ>>=fun v=>mw (fk ρ)>>=fun k=>match ρ[i]? with
  | some (.own (.dict kvs))=>match iq k with
    | some _=>if kvs.length < sizeLine then .ok (.nx (ρ.set i (.own (.dict (um kvs k v))))) else .no
    | none=>.no
  | _=>.no
theorem vW {k:PyData} {κ:dj} (h:iq k=some κ):k=gf κ:=by
  cases k <;> simp only [iq] at h <;> cases h <;> rfl
theorem Cu {H:Hp} {κ:dj} {y:V} (h:Rp H (gf κ) y):y=kV κ:=by
  cases κ <;> simp only [gf,Rp] at h <;> exact h
theorem yj {k v:Expr} {fk fv:Fe} {q1 q2 q3:Pos} (T:Tb X nl G) (n:Nat) (hN:X.N[n]?=some x) (hk:Z.cx X k fk) (hv:Z.cx X v fv) (hs:swapsWith v (some (.Subscript (.Name x q1) k q2)) q3.line X.env=pure false:=by rfl):Z.kN X (.Assign [.Subscript (.Name x q1) k q2] v q3) (zQ n fk fv):=⟨have hk:=hk.un;have hv:=hv.un;fun Fm=>by
  have hm:=T.vis x (List.mem_of_getElem? hN);refine PS.imp (zT (by have:=T.hu;omega) (lY hN hm.1 hm.2.1 hm.2.2) hk hv hs) fun D σ H h=>?_
  refine (ml (P:=ie) (f:=fv) (k:=fun ρ v=>mw (fk ρ)>>=fun k=>match ρ[n]? with
    | some (.own (.dict kvs))=>match iq k with
      | some _=>if kvs.length < sizeLine then .ok (.nx (ρ.set n (.own (.dict (um kvs k v))))) else .no
      | none=>.no
    | _=>.no) h).post fun vv H1 ⟨ρ1,dv,sl1,_,p1,q1⟩=>?_
  have sl0:By X Fm (fun ρ=>mw (fk ρ)>>=fun k=>match ρ[n]? with
    | some (.own (.dict kvs))=>match iq k with
      | some _=>if kvs.length < sizeLine then .ok (.nx (ρ.set n (.own (.dict (um kvs k dv))))) else .no
      | none=>.no
    | _=>.no) D σ H1:=⟨ρ1,sl1,q1⟩
  cases e:ρ1[n]? with
  | none =>
    exfalso;rw [e] at q1;cases e2:fk ρ1 with
    | ok _=>rw [e2] at q1;exact q1
    | ex _=>rw [e2] at q1;exact q1
    | no=>rw [e2] at q1;exact q1
  | some c =>
    rw [e] at q1;cases c with
    | own d =>
      cases d with
      | dict kvs =>
        obtain ⟨o,h2,w',rfl,p2⟩:=sl1.sl.at e;simp only [i9] at p2;obtain ⟨a',ks,rfl,ha,r⟩:=p2;refine ⟨.ref a',h2,?_⟩;refine ⟨ρ1,sl1.sl,?_⟩;cases e2:fk ρ1 with
        | ex _=>rw [e2] at q1;exact q1.elim
        | no=>rw [e2] at q1;exact q1
        | ok kd =>
          rw [e2] at q1;simp only [mw,R.ok_bind] at q1;intro yv H3 s3 p3;cases e3:iq kd with
          | none=>rw [e3] at q1;exact q1.elim
          | some κ =>
            rw [e3] at q1;dsimp only at q1;by_cases hz:kvs.length < sizeLine
            · rw [if_pos hz] at q1;have ek:=vW e3;subst ek;have ey:=Cu p3;subst ey;have ha3:=s3 _ _ ha;have r3:eG H3 kvs ks:=eG.kp (Kp.of s3) _ _ r;refine ⟨a',_,rfl,tN.k ha3 (by rw [r3.length];exact hz),q1 _ _ ((sl1.mono s3).change e h2 ha3 (.inr ⟨_,rfl⟩) ?_)⟩;simp only [i9];exact ⟨a',_,rfl,bi,eG.kp (gA ha3 (.inr ⟨_,rfl⟩)) _ _ (eG.put κ (p1.mono s3) r3)⟩
            · rw [if_neg hz] at q1;exact q1.elim
      | _ =>
        exfalso;cases e2:fk ρ1 with
        | ok _=>rw [e2] at q1;exact q1
        | ex _=>rw [e2] at q1;exact q1
        | no=>rw [e2] at q1;exact q1
    | _ =>
      exfalso;cases e2:fk ρ1 with
      | ok _=>rw [e2] at q1;exact q1
      | ex _=>rw [e2] at q1;exact q1
      | no=>rw [e2] at q1;exact q1⟩
noncomputable def cO (i:Nat) (f:Fe):Fs:=fun ρ=>mw (f ρ)>>=fun d=>match ρ[i]? with
  | some (.own (.list ds))=>if ds.length < sizeLine then .ok (.nx (ρ.set i (.own (.list (ds++[d]))))) else .no
  | _=>.no
end
section
variable {prog:Program} {w:World} {A:Around} {E:Value->Shared->Prop} {s:Shared}
theorem tO {it t:Addr} {i:Nat} {items:Array Value} {x:Value} {Q:Value->Shared->Prop} (hit:s.heap.IsTupleIter it t i) (ht:s.heap.IsTuple t items) (hx:items[i]?=some x)
    (hQ:∀ h',h'.IsTupleIter it t (i+1)->Heap.SameBut it s.heap h'->Q x { s with heap:=h' }):wpAny (model prog w) A (Builtin.SmallTypes.nextOf (.ref it)) Q E s:=by
  obtain ⟨ob,hob,hcl,hdt⟩:=id hit;obtain ⟨ot,hot,_,nt,hdtt⟩:=ht;unfold Builtin.SmallTypes.nextOf;refine wpAny_bind (wpAny_callSpecial?_slot (name:=Str.ofString "__next__") hit.typeIs F.slot_tuple_iterator_next (wpAny_call_entry F.slot_tuple_iterator_next hit.typeIs F.entry_tuple_iterator_next ?_ (F.args_tuple_iterator_next_1 _)));show wpAny _ _ (field (Value.ref it) 0>>=_) _ _ s;refine wpAny_bind (wpAny_field hob hdt (x:=Value.ref t) rfl ?_);show wpAny _ _ (if (Value.ref t==Value.none)=true then _ else _) _ _ s;rw [if_neg (by intro z;cases z)];show wpAny _ _ (field (Value.ref it) 1>>=_) _ _ s;refine wpAny_bind (wpAny_field hob hdt (x:=Value.int i 0) rfl ?_);show wpAny _ _ (seqItems? (Value.ref t)>>=_) _ _ s;refine wpAny_bind (wpAny_seqItems hot hdtt ?_);simp only [hx,Int.toNat_natCast];refine wpAny_bind (wpAny_setField hob hdt (by simp) (wpAny_pure ⟨x,rfl,wpAny_pure (hQ _ ⟨_,Heap.get?_update_self _ hob (Obj.isFreed_of_fields (Obj.data_mapFields hdt _)),(Obj.cls_mapFields ..).trans hcl,?_⟩ (Heap.SameBut.update ..))⟩));rw [Obj.data_mapFields hdt];simp [rawInt]
theorem nR {it t:Addr} {i:Nat} {items:Array Value} {Q:Value->Shared->Prop} (hh:A.handled=none) (hit:s.heap.IsTupleIter it t i) (ht:s.heap.IsTuple t items) (hx:items[i]?=none)
    (hE:∀ h' e,Heap.ExtBut it s.heap h'->(∃ o,h'.get? e=some o/\o.cls=.type "StopIteration")->E (.ref e) { s with heap:=h' }):wpAny (model prog w) A (Builtin.SmallTypes.nextOf (.ref it)) Q E s:=by
  obtain ⟨ob,hob,hcl,hdt⟩:=id hit;obtain ⟨ot,hot,_,nt,hdtt⟩:=ht;unfold Builtin.SmallTypes.nextOf;refine wpAny_bind (wpAny_callSpecial?_slot (name:=Str.ofString "__next__") hit.typeIs F.slot_tuple_iterator_next (wpAny_call_entry F.slot_tuple_iterator_next hit.typeIs F.entry_tuple_iterator_next ?_ (F.args_tuple_iterator_next_1 _)));show wpAny _ _ (field (Value.ref it) 0>>=_) _ _ s;refine wpAny_bind (wpAny_field hob hdt (x:=Value.ref t) rfl ?_);show wpAny _ _ (if (Value.ref t==Value.none)=true then _ else _) _ _ s;rw [if_neg (by intro z;cases z)];show wpAny _ _ (field (Value.ref it) 1>>=_) _ _ s;refine wpAny_bind (wpAny_field hob hdt (x:=Value.int i 0) rfl ?_);show wpAny _ _ (seqItems? (Value.ref t)>>=_) _ _ s;refine wpAny_bind (wpAny_seqItems hot hdtt ?_);simp only [hx,Int.toNat_natCast];refine wpAny_bind (wpAny_rule (wpAny_bind (wpAny_setField hob hdt (by simp) ?_)));show wpAny _ _ (newExc (Value.type "StopIteration") []>>=_) _ _ _;refine wpAny_bind ?_;simp only [newTuple,newExc];refine wpAny_bind (wpAny_newObj_type ?_ (by size_fits));refine wpAny_bind (m:=firstArgMember _ _) (wpAny_of_eq (a:=Value.none) (by first | rfl | (simp only [firstArgMember];rfl)) ?_);refine wpAny_newObj_type ?_ (by size_fits);simp only [raiseNew];refine wpAny_bind (wpAny_handled ?_)
  first | rw [show A.in1.handled=none from hh] | rw [hh]
  exact wpAny_bind (wpAny_pure (wpAny_throw (hE _ _ (((Heap.SameBut.update ..).extBut.push _).push _) ⟨_,Heap.get?_push_size _ rfl,rfl⟩)))
end
noncomputable def gU (h:Heap) (i l:Addr) (k:Nat) (xs:Array Value):Prop:=(h.IsListIter i l k/\h.IsList l xs)\/(h.IsTupleIter i l k/\h.IsTuple l xs)
section
variable {h h':Heap} {i l:Addr} {k:Nat} {xs:Array Value}
theorem gU.keep (x:gU h i l k xs) (hi:∀ o,h.get? i=some o->h'.get? i=some o) (hl:∀ o,h.get? l=some o->h'.get? l=some o):gU h' i l k xs:=by
  rcases x with ⟨⟨o,e,r⟩,⟨o',e',r'⟩⟩ | ⟨⟨o,e,r⟩,⟨o',e',r'⟩⟩
  · exact .inl ⟨⟨o,hi _ e,r⟩,⟨o',hl _ e',r'⟩⟩
  · exact .inr ⟨⟨o,hi _ e,r⟩,⟨o',hl _ e',r'⟩⟩
end
section
variable {prog:Program} {w:World} {A:Around} {E:Value->Shared->Prop} {s:Shared} {i l:Addr} {k:Nat} {xs:Array Value}
theorem ly {x:Value} {Q:Value->Shared->Prop} (it:gU s.heap i l k xs) (hne:l≠i) (hx:xs[k]?=some x) (hQ:∀ h',gU h' i l (k+1) xs->Heap.SameBut i s.heap h'->Q x { s with heap:=h' }) :
    wpAny (model prog w) A (Builtin.SmallTypes.nextOf (.ref i)) Q E s:=by
  rcases it with ⟨h1,h2⟩ | ⟨h1,h2⟩
  · exact wpAny_nextOf_list_item h1 h2 hx fun h' a b=>hQ h' (.inl ⟨a,h2.extBut b.extBut hne⟩) b
  · exact tO h1 h2 hx fun h' a b=>hQ h' (.inr ⟨a,h2.extBut b.extBut hne⟩) b
theorem gy {Q:Value->Shared->Prop} (hh:A.handled=none) (it:gU s.heap i l k xs) (hx:xs[k]?=none)
    (hE:∀ h' e,Heap.ExtBut i s.heap h'->(∃ o,h'.get? e=some o/\o.cls=.type "StopIteration")->E (.ref e) { s with heap:=h' }):wpAny (model prog w) A (Builtin.SmallTypes.nextOf (.ref i)) Q E s:=by
  rcases it with ⟨h1,h2⟩ | ⟨h1,h2⟩
  · exact wpAny_nextOf_list_end hh h1 h2 hx hE
  · exact nR hh h1 h2 hx hE
noncomputable def uq (h:Heap) (l:Addr) (xs:Array Value):Prop:=h.IsList l xs\/h.IsTuple l xs
end
structure ZA (z p q i j l m:Addr):Prop where
  pz:p≠z
  qz:q≠z
  iz:i≠z
  jz:j≠z
  pq:p≠q
  pi:p≠i
  pj:p≠j
  qi:q≠i
  qj:q≠j
  ij:i≠j
  lz:l≠z
  lq:l≠q
  li:l≠i
  lj:l≠j
  mz:m≠z
  mq:m≠q
  mi:m≠i
  mj:m≠j
structure zL (h:Heap) (z p q i j l m:Addr) (f0:Value) (k:Nat) (xs ys:Array Value):Prop where
  zz:IsZip h z p q f0
  pp:IsPair h p (.ref i) (.ref j)
  qq:∃ a b,IsPair h q a b
  ii:gU h i l k xs
  jj:gU h j m k ys
section
variable {prog:Program} {w:World} {A:Around} {E:Value->Shared->Prop} {s:Shared} {z p q i j l m:Addr} {k:Nat} {xs ys:Array Value}
theorem zw {x y:Value} {Q:Value->Shared->Prop} (D:ZA z p q i j l m) (S:zL s.heap z p q i j l m .none k xs ys) (hx:xs[k]?=some x) (hy:ys[k]?=some y)
    (hQ:∀ h',zL h' z p q i j l m (rawInt s.heap.objs.size) (k+1) xs ys->IsPair h' s.heap.objs.size x y->(∀ c o,c≠z->c≠q->c≠i->c≠j->s.heap.get? c=some o->h'.get? c=some o)->Q (.ref s.heap.objs.size) { s with heap:=h' }) :
    wpAny (model prog w) A (Builtin.«zip.__next__» ⟨[.ref z],[]⟩) (fun fin s'=>∃ v,fin=.done (.ret v)/\Q v s') E s:=by
  obtain ⟨hz,hp,⟨a,b,hq⟩,hi,hj⟩:=S;show wpAny _ _ (field (Value.ref z) 2>>=_) _ _ _;refine wpAny_bind (wpAny_field hz rfl (x:=Value.bool false) rfl ?_);show wpAny _ _ (field (Value.ref z) 3>>=_) _ _ _;refine wpAny_bind (wpAny_field hz rfl (x:=Value.ref p) rfl ?_);refine wpAny_bind (wpAny_seqItems hp rfl ?_);show wpAny _ _ (Builtin.SmallTypes.ownedTupleIsFree (Value.ref z)>>=_) _ _ _;refine wpAny_bind ?_;unfold Builtin.SmallTypes.ownedTupleIsFree;refine wpAny_bind (wpAny_field hz rfl (x:=Value.none) rfl (wpAny_pure ?_));simp only [if_true];refine wpAny_bind (wpAny_rule ?_);refine wpAny_bind (wpAny_field hz rfl (x:=Value.ref q) rfl ?_);refine wpAny_bind (wpAny_setField_rec hz (by simp) fun g1 z1 s1=>?_);replace z1:IsZip g1 z p q .ellipsis:=z1;refine wpAny_bind ?_;simp only [List.zipIdx_cons,List.zipIdx_nil,List.forIn_cons,List.forIn_nil];refine wpAny_bind (wpAny_bind (wpAny_onRaise ?_));show wpAny _ _ (Builtin.SmallTypes.nextOf (Value.ref i)>>=_) _ _ _;have hi1:gU g1 i l k xs:=hi.keep (fun o e=>s1.extBut _ _ D.iz e) fun o e=>s1.extBut _ _ D.lz e
  refine wpAny_bind (ly hi1 D.li hx fun g2 i2 s2=>wpAny_pure ?_);have q2:IsPair g2 q a b:=s2.extBut _ _ D.qi (s1.extBut _ _ D.qz hq);refine wpAny_bind (wpAny_seqItems q2 rfl ?_);refine wpAny_bind (wpAny_updateSeq_pair q2 fun g3 q3 s3=>?_);replace q3:IsPair g3 q x b:=q3;refine wpAny_bind (wpAny_letGo (wpAny_pure ?_));refine wpAny_bind (wpAny_bind (wpAny_onRaise ?_));show wpAny _ _ (Builtin.SmallTypes.nextOf (Value.ref j)>>=_) _ _ _;have hj3:gU g3 j m k ys:=hj.keep (fun o e=>s3.extBut _ _ D.qj.symm (s2.extBut _ _ D.ij.symm (s1.extBut _ _ D.jz e))) fun o e=>s3.extBut _ _ D.mq (s2.extBut _ _ D.mi (s1.extBut _ _ D.mz e))
  refine wpAny_bind (ly hj3 D.mj hy fun g4 j4 s4=>wpAny_pure ?_);have q4:IsPair g4 q x b:=s4.extBut _ _ D.qj q3;refine wpAny_bind (wpAny_seqItems q4 rfl ?_);refine wpAny_bind (wpAny_updateSeq_pair q4 fun g5 q5 s5=>?_);replace q5:IsPair g5 q x y:=q5;refine wpAny_bind (wpAny_letGo (wpAny_pure (wpAny_pure ?_)));refine wpAny_bind (wpAny_seqItems q5 rfl ?_);refine wpAny_bind (wpAny_newTuple ?_);have hsz:g5.objs.size=s.heap.objs.size:=by rw [s5.1,s4.1,s3.1,s2.1,s1.1]
  have z5:IsZip g5 z p q .ellipsis:=s5.extBut _ _ D.qz.symm (s4.extBut _ _ D.jz.symm (s3.extBut _ _ D.qz.symm (s2.extBut _ _ D.iz.symm z1)));have k5:∀ c o,c≠z->c≠q->c≠i->c≠j->s.heap.get? c=some o->g5.get? c=some o:=fun c o c1 c2 c3 c4 e=>s5.extBut _ _ c2 (s4.extBut _ _ c4 (s3.extBut _ _ c2 (s2.extBut _ _ c3 (s1.extBut _ _ c1 e))))
  have i5:gU g5 i l (k+1) xs:=i2.keep (fun o e=>s5.extBut _ _ D.qi.symm (s4.extBut _ _ D.ij (s3.extBut _ _ D.qi.symm e))) fun o e=>s5.extBut _ _ D.lq (s4.extBut _ _ D.lj (s3.extBut _ _ D.lq e))
  have j5:gU g5 j m (k+1) ys:=j4.keep (fun o e=>s5.extBut _ _ D.qj.symm e) fun o e=>s5.extBut _ _ D.mq e
  have zlt:z < g5.objs.size:=Heap.lt_size z5;show wpAny _ _ (Builtin.SmallTypes.ownedTupleHandOut (Value.ref z) (Value.ref g5.objs.size)>>=_) _ _ _;refine wpAny_bind ?_;unfold Builtin.SmallTypes.ownedTupleHandOut;have z6:IsZip (g5.push { cls:=.type "tuple",data:=.seq #[x,y] }) z p q .ellipsis:=Heap.get?_push_of_some _ z5;refine wpAny_bind (wpAny_setField_rec z6 (by simp) fun g7 z7 s7=>?_);replace z7:IsZip g7 z p q (rawInt g5.objs.size):=z7;refine wpAny_setField_rec z7 (by simp) fun g8 z8 s8=>?_
  replace z8:IsZip g8 z p q (rawInt g5.objs.size):=z8;have up:∀ c o,c≠z->g5.get? c=some o->g8.get? c=some o:=fun c o c1 e=>s8.extBut _ _ c1 (s7.extBut _ _ c1 (Heap.get?_push_of_some _ e))
  have t8:IsPair g8 g5.objs.size x y:=s8.extBut _ _ (Nat.ne_of_gt zlt) (s7.extBut _ _ (Nat.ne_of_gt zlt) (Heap.get?_push_size _ rfl));rw [hsz] at z8 t8;refine wpAny_pure ⟨_,rfl,?_⟩;show Q (.ref g5.objs.size) _;rw [hsz];exact hQ g8 ⟨z8,up _ _ D.pz (k5 _ _ D.pz D.pq D.pi D.pj hp),⟨x,y,up _ _ D.qz q5⟩,i5.keep (fun o e=>up _ _ D.iz e) fun o e=>up _ _ D.lz e,j5.keep (fun o e=>up _ _ D.jz e) fun o e=>up _ _ D.mz e⟩ t8 fun c o c1 c2 c3 c4 e=>up c o c1 (k5 c o c1 c2 c3 c4 e)
theorem A3 {Q:PySem.Fin->Shared->Prop} (hh:A.handled=none) (D:ZA z p q i j l m) (S:zL s.heap z p q i j l m .none k xs ys) (hend:xs[k]?=none\/ys[k]?=none)
    (hE:∀ h' e,(∀ c o,c≠z->c≠q->c≠i->c≠j->s.heap.get? c=some o->h'.get? c=some o)->(∃ o,h'.get? e=some o/\o.cls=.type "StopIteration")->E (.ref e) { s with heap:=h' }) :
    wpAny (model prog w) A (Builtin.«zip.__next__» ⟨[.ref z],[]⟩) Q E s:=by
  obtain ⟨hz,hp,⟨a,b,hq⟩,hi,hj⟩:=S;show wpAny _ _ (field (Value.ref z) 2>>=_) _ _ _;refine wpAny_bind (wpAny_field hz rfl (x:=Value.bool false) rfl ?_);show wpAny _ _ (field (Value.ref z) 3>>=_) _ _ _;refine wpAny_bind (wpAny_field hz rfl (x:=Value.ref p) rfl ?_);refine wpAny_bind (wpAny_seqItems hp rfl ?_);show wpAny _ _ (Builtin.SmallTypes.ownedTupleIsFree (Value.ref z)>>=_) _ _ _;refine wpAny_bind ?_;unfold Builtin.SmallTypes.ownedTupleIsFree;refine wpAny_bind (wpAny_field hz rfl (x:=Value.none) rfl (wpAny_pure ?_));simp only [if_true];refine wpAny_bind (wpAny_rule ?_);refine wpAny_bind (wpAny_field hz rfl (x:=Value.ref q) rfl ?_);refine wpAny_bind (wpAny_setField_rec hz (by simp) fun g1 z1 s1=>?_);replace z1:IsZip g1 z p q .ellipsis:=z1;refine wpAny_bind ?_;simp only [List.zipIdx_cons,List.zipIdx_nil,List.forIn_cons,List.forIn_nil];refine wpAny_bind (wpAny_bind (wpAny_onRaise ?_));show wpAny _ _ (Builtin.SmallTypes.nextOf (Value.ref i)>>=_) _ _ _;have hi1:gU g1 i l k xs:=hi.keep (fun o e=>s1.extBut _ _ D.iz e) fun o e=>s1.extBut _ _ D.lz e
  cases hx:xs[k]? with
  | none =>
    refine wpAny_bind (gy hh hi1 hx fun g2 e s2 he=>?_);obtain ⟨oe,hoe,hce⟩:=he;have z2:IsZip g2 z p q .ellipsis:=s2 _ _ D.iz.symm z1;have hez:e≠z:=fun t=>by subst t;rw [z2] at hoe;cases hoe;simp at hce
    exact wpAny_setField_rec z2 (by simp) fun g3 _ s3=>hE g3 e (fun c o c1 _ c3 _ t=>s3.extBut _ _ c1 (s2 _ _ c3 (s1.extBut _ _ c1 t))) ⟨oe,s3.extBut _ _ hez hoe,hce⟩
  | some x =>
    have hy:ys[k]?=none:=by rcases hend with t | t;rw [hx] at t;cases t;exact t
    refine wpAny_bind (ly hi1 D.li hx fun g2 i2 s2=>wpAny_pure ?_);have q2:IsPair g2 q a b:=s2.extBut _ _ D.qi (s1.extBut _ _ D.qz hq);refine wpAny_bind (wpAny_seqItems q2 rfl ?_);refine wpAny_bind (wpAny_updateSeq_pair q2 fun g3 q3 s3=>?_);refine wpAny_bind (wpAny_letGo (wpAny_pure ?_));refine wpAny_bind (wpAny_bind (wpAny_onRaise ?_));show wpAny _ _ (Builtin.SmallTypes.nextOf (Value.ref j)>>=_) _ _ _;have hj3:gU g3 j m k ys:=hj.keep (fun o e=>s3.extBut _ _ D.qj.symm (s2.extBut _ _ D.ij.symm (s1.extBut _ _ D.jz e))) fun o e=>s3.extBut _ _ D.mq (s2.extBut _ _ D.mi (s1.extBut _ _ D.mz e))
    refine wpAny_bind (gy hh hj3 hy fun g4 e s4 he=>?_);obtain ⟨oe,hoe,hce⟩:=he;have z4:IsZip g4 z p q .ellipsis:=s4 _ _ D.jz.symm (s3.extBut _ _ D.qz.symm (s2.extBut _ _ D.iz.symm z1));have hez:e≠z:=fun t=>by subst t;rw [z4] at hoe;cases hoe;simp at hce
    exact wpAny_setField_rec z4 (by simp) fun g5 _ s5=>hE g5 e (fun c o c1 c2 c3 c4 t=>s5.extBut _ _ c1 (s4 _ _ c4 (s3.extBut _ _ c2 (s2.extBut _ _ c3 (s1.extBut _ _ c1 t))))) ⟨oe,s5.extBut _ _ hez hoe,hce⟩
theorem ue {x y:Value} {Q:Option Value->Shared->Prop} (D:ZA z p q i j l m) (S:zL s.heap z p q i j l m .none k xs ys) (hx:xs[k]?=some x) (hy:ys[k]?=some y)
    (hQ:∀ h',zL h' z p q i j l m (rawInt s.heap.objs.size) (k+1) xs ys->IsPair h' s.heap.objs.size x y->(∀ c o,c≠z->c≠q->c≠i->c≠j->s.heap.get? c=some o->h'.get? c=some o)->Q (some (.ref s.heap.objs.size)) { s with heap:=h' }) :
    wpAny (model prog w) A (pyNext (.ref z)) Q E s:=by
  have hT:s.TypeIs (.ref z) "zip" := ⟨_,S.zz,rfl⟩
  unfold pyNext;exact wpAny_bind (wpAny_attempt (wpAny_callSpecial?_slot (name:=Str.ofString "__next__") hT F.slot_zip_next (wpAny_call_entry F.slot_zip_next hT F.entry_zip_next (zw D S hx hy fun h' a b c=>wpAny_pure (hQ h' a b c)) (F.args_zip_next_1 _))))
theorem wz {Q:Option Value->Shared->Prop} (hh:A.handled=none) (D:ZA z p q i j l m) (S:zL s.heap z p q i j l m .none k xs ys) (hend:xs[k]?=none\/ys[k]?=none)
    (hQ:∀ h',(∀ c o,c≠z->c≠q->c≠i->c≠j->s.heap.get? c=some o->h'.get? c=some o)->Q none { s with heap:=h' }):wpAny (model prog w) A (pyNext (.ref z)) Q E s:=by
  have hT:s.TypeIs (.ref z) "zip" := ⟨_,S.zz,rfl⟩
  unfold pyNext;refine wpAny_bind (wpAny_attempt (wpAny_callSpecial?_slot (name:=Str.ofString "__next__") hT F.slot_zip_next (wpAny_call_entry F.slot_zip_next hT F.entry_zip_next (A3 hh D S hend fun h' e hk he=>?_) (F.args_zip_next_1 _))));obtain ⟨o,ho,hc⟩:=he;exact wpAny_bind (wpAny_isInstance (T := "StopIteration") (b:=true) ⟨o,ho,hc⟩ isSubtype_stop (wpAny_pure (hQ _ hk)))
theorem Bb (l m:Addr) (xs ys:Array Value):Meets (Builtin.«zip.__new__» ⟨[.type "zip",.ref l,.ref m],[]⟩) (fun _ R s=>uq s.heap l xs/\uq s.heap m ys /\
    ∀ h',h'.objs.size=s.heap.objs.size+5->zL h' (s.heap.objs.size+4) (s.heap.objs.size+2) (s.heap.objs.size+3) s.heap.objs.size (s.heap.objs.size+1) l m .none 0 xs ys->(∀ c o,s.heap.get? c=some o->h'.get? c=some o) ->
      R (.ok (.ret (.ref (s.heap.objs.size+4)))) { s with heap:=h' }) :=
  .of_wp fun prog w A R s h=>by
    obtain ⟨hp,g,d,tk,os⟩:=s;obtain ⟨h1,h2,h⟩:=h;have hsub:=sub_zip;have fin:∀ (oi oj:Obj),gU (hp.push oi) hp.objs.size l 0 xs->gU ((hp.push oi).push oj) (hp.push oi).objs.size m 0 ys ->
        R (.ok (.ret (.ref ((((hp.push oi).push oj).push { cls:=.type "tuple",data:=.seq #[.ref hp.objs.size,.ref (hp.push oi).objs.size] }).push { cls:=.type "tuple",data:=.seq #[.none,.none] }).objs.size)))
          ⟨((((hp.push oi).push oj).push { cls:=.type "tuple",data:=.seq #[.ref hp.objs.size,.ref (hp.push oi).objs.size] }).push { cls:=.type "tuple",data:=.seq #[.none,.none] }).push { cls:=.type "zip",data:=.fields #[.none,.bool false,.bool false,.ref ((hp.push oi).push oj).objs.size,.ref (((hp.push oi).push oj).push { cls:=.type "tuple",data:=.seq #[.ref hp.objs.size,.ref (hp.push oi).objs.size] }).objs.size] },g,d,tk,os⟩:=fun oi oj hi hj=>by
      have e1:(hp.push oi).objs.size=hp.objs.size+1:=Heap.size_push ..;have e2:((hp.push oi).push oj).objs.size=hp.objs.size+2:=by rw [Heap.size_push,e1]
      have e3:(((hp.push oi).push oj).push { cls:=.type "tuple",data:=.seq #[.ref hp.objs.size,.ref (hp.push oi).objs.size] }).objs.size=hp.objs.size+3:=by rw [Heap.size_push,e2]
      have e4:((((hp.push oi).push oj).push { cls:=.type "tuple",data:=.seq #[.ref hp.objs.size,.ref (hp.push oi).objs.size] }).push { cls:=.type "tuple",data:=.seq #[.none,.none] }).objs.size=hp.objs.size+4:=by rw [Heap.size_push,e3]
      rw [e4,e3,e2];rw [e1] at hj ⊢;have kk:∀ (c:Addr) (o a b c':Obj),((hp.push oi).push oj).get? c=some o->(((((hp.push oi).push oj).push a).push b).push c').get? c=some o:=fun c o a b c' e=>Heap.get?_push_of_some _ (Heap.get?_push_of_some _ (Heap.get?_push_of_some _ e))
      refine h _ (by rw [Heap.size_push,Heap.size_push,Heap.size_push,e2]) ⟨?_,?_,⟨.none,.none,?_⟩,?_,?_⟩ fun c o e=>kk _ _ _ _ _ (Heap.get?_push_of_some _ (Heap.get?_push_of_some _ e))
      · have:hp.objs.size+4=((((hp.push oi).push oj).push { cls:=.type "tuple",data:=.seq #[.ref hp.objs.size,.ref (hp.objs.size+1)] }).push { cls:=.type "tuple",data:=.seq #[.none,.none] }).objs.size:=by rw [Heap.size_push,Heap.size_push,e2]
        show Heap.get? _ (hp.objs.size+4)=_;rw [this];exact Heap.get?_push_size _ rfl
      · refine Heap.get?_push_of_some _ (Heap.get?_push_of_some _ ?_);show Heap.get? _ (hp.objs.size+2)=_;rw [<- e2];exact Heap.get?_push_size _ rfl
      · refine Heap.get?_push_of_some _ ?_;have:hp.objs.size+3=(((hp.push oi).push oj).push { cls:=.type "tuple",data:=.seq #[.ref hp.objs.size,.ref (hp.objs.size+1)] }).objs.size:=by rw [Heap.size_push,e2]
        show Heap.get? _ (hp.objs.size+3)=_;rw [this];exact Heap.get?_push_size _ rfl
      · exact hi.keep (fun o e=>kk _ _ _ _ _ (Heap.get?_push_of_some _ e)) fun o e=>kk _ _ _ _ _ (Heap.get?_push_of_some _ e)
      · exact hj.keep (fun o e=>kk _ _ _ _ _ e) fun o e=>kk _ _ _ _ _ e
    rcases h1 with h1 | h1 <;> rcases h2 with h2 | h2
    · have l1:Heap.IsList (Shared.heap ⟨hp,g,d,tk,os⟩) l xs:=h1;have l2:Heap.IsList (Shared.heap ⟨hp.push { cls:=.type "list_iterator",data:=.fields #[.ref l,.int 0 0] },g,d,tk,os⟩) m ys:=Heap.IsList.push h2 _
      wp_walk using wpAny_pyIter_list l1,wpAny_pyIter_list l2
      exact ⟨_,rfl,fin _ _ (.inl ⟨⟨_,Heap.get?_push_size _ rfl,rfl,rfl⟩,Heap.IsList.push h1 _⟩) (.inl ⟨⟨_,Heap.get?_push_size _ rfl,rfl,rfl⟩,Heap.IsList.push l2 _⟩)⟩
    · have l1:Heap.IsList (Shared.heap ⟨hp,g,d,tk,os⟩) l xs:=h1;have l2:Heap.IsTuple (Shared.heap ⟨hp.push { cls:=.type "list_iterator",data:=.fields #[.ref l,.int 0 0] },g,d,tk,os⟩) m ys:=Heap.IsTuple.push h2 _
      wp_walk using wpAny_pyIter_list l1,wpAny_pyIter_tuple l2
      exact ⟨_,rfl,fin _ _ (.inl ⟨⟨_,Heap.get?_push_size _ rfl,rfl,rfl⟩,Heap.IsList.push h1 _⟩) (.inr ⟨⟨_,Heap.get?_push_size _ rfl,rfl,rfl⟩,Heap.IsTuple.push l2 _⟩)⟩
    · have l1:Heap.IsTuple (Shared.heap ⟨hp,g,d,tk,os⟩) l xs:=h1;have l2:Heap.IsList (Shared.heap ⟨hp.push { cls:=.type "tuple_iterator",data:=.fields #[.ref l,.int 0 0] },g,d,tk,os⟩) m ys:=Heap.IsList.push h2 _
      wp_walk using wpAny_pyIter_tuple l1,wpAny_pyIter_list l2
      exact ⟨_,rfl,fin _ _ (.inr ⟨⟨_,Heap.get?_push_size _ rfl,rfl,rfl⟩,Heap.IsTuple.push h1 _⟩) (.inl ⟨⟨_,Heap.get?_push_size _ rfl,rfl,rfl⟩,Heap.IsList.push l2 _⟩)⟩
    · have l1:Heap.IsTuple (Shared.heap ⟨hp,g,d,tk,os⟩) l xs:=h1;have l2:Heap.IsTuple (Shared.heap ⟨hp.push { cls:=.type "tuple_iterator",data:=.fields #[.ref l,.int 0 0] },g,d,tk,os⟩) m ys:=Heap.IsTuple.push h2 _
      wp_walk using wpAny_pyIter_tuple l1,wpAny_pyIter_tuple l2
      exact ⟨_,rfl,fin _ _ (.inr ⟨⟨_,Heap.get?_push_size _ rfl,rfl,rfl⟩,Heap.IsTuple.push h1 _⟩) (.inr ⟨⟨_,Heap.get?_push_size _ rfl,rfl,rfl⟩,Heap.IsTuple.push l2 _⟩)⟩
theorem yI {Q:Value->Shared->Prop} {l m:Addr} (h1:uq s.heap l xs) (h2:uq s.heap m ys)
    (h:∀ h',h'.objs.size=s.heap.objs.size+5->zL h' (s.heap.objs.size+4) (s.heap.objs.size+2) (s.heap.objs.size+3) s.heap.objs.size (s.heap.objs.size+1) l m .none 0 xs ys->(∀ c o,s.heap.get? c=some o->h'.get? c=some o) ->
      Q (.ref (s.heap.objs.size+4)) { s with heap:=h' }):wpAny (model prog w) A (call (.type "zip") [.ref l,.ref m]) Q E s:=by
  refine callType_new F.called_zip (by decide) (F.typeCall_zip_2 _ _) (F.newCall_zip_2 _ _) (fun obj=>F.args_object_init_3 obj _ _) F.entry_zip_new (Bb l m xs ys) ⟨h1,h2,fun h' e S k=>?_⟩;exact ⟨⟨_,S.zz,rfl⟩,h h' e S k⟩
end
section
variable {X:Cx} {pins:List (Addr×Obj)} {σ:St} {H:Hp} {s:Shared} {h':Heap}
theorem gc {t':Nat} {fp:List Addr} (I:aP X pins σ H s) (k:∀ b o,b∉fp->s.heap.get? b=some o->h'.get? b=some o) (hf:∀ b∈fp,lN X pins H b):aP X pins σ H { s with heap:=h',toks:=t' }:=by
  have away:∀ b u,H b=some u->b∉fp:=fun b u e z=>by rw [(hf b z).1] at e;cases e
  have frame:X.env.locals∉fp:=fun z=>(hf _ z).2.1 rfl
  refine I.step (g':=s.gens) (d':=s.drawn) (ch:=fp) (fun b hb=>⟨(hf b hb).2.2.2.1,(hf b hb).2.1,(hf b hb).2.2.2.2.1,(hf b hb).2.2.2.2.2⟩) (fun b o _ _ hc e _=>k b o hc e) (fun b o _ _ hc e _=>⟨o.slots,k b o hc e⟩) (fun _ _ _ _ n=>n)
    (fun b o hc e=>⟨o,k b o hc e⟩) (fun _ _ e=>e) (fun _ _ _ e=>e) (fun b ps e=>⟨#[],by rw [e];simp⟩) (fun m ⟨o,es,ep,ho,r⟩=>⟨o,es,ep,k _ o frame ho,r⟩) (fun b u e=>?_) I.bare
  refine (I.hok b u e).stay (fun c v hc q=>k c v ?_ q) (fun _ q=>q) fun _ _ q=>q
  rcases hc with z | z
  · rw [z];exact away b u e
  · exact away c _ z
theorem rU {h:Heap} {o o':Obj} {b:Addr} (hb:b≠h.objs.size) (e:(h.push o).get? b=some o'):h.get? b=some o':=by
  unfold Heap.get? Heap.push at e;unfold Heap.get?;simp only [Array.getElem?_push] at e;rw [if_neg hb] at e;exact e
theorem uT {t':Nat} {fp:List Addr} {u1 u2:Value} {v1 v2:V} (I:aP X pins σ H s) (hf:∀ b∈fp,lN X pins H b) (hob:∀ b∈fp,b < s.heap.objs.size) (ht:IsPair h' s.heap.objs.size u1 u2) (k:∀ b o,b∉fp->s.heap.get? b=some o->h'.get? b=some o)
    (r1:bD v1 u1) (r2:bD v2 u2):aP X pins σ (cw H s.heap.objs.size (.tup [v1,v2])) { s with heap:=h',toks:=t' }:=by
  have I1:aP X pins σ (cw H s.heap.objs.size (.tup [v1,v2])) { s with heap:=s.heap.push { cls:=.type "tuple",data:=.seq #[u1,u2] },toks:=s.toks } :=
    I.laid (fun b u e=>Heap.get?_push_of_some _ e) (Nat.le_refl _) ⟨by show 2<=sizeLine;decide,[u1,u2],.cons r1 (.cons r2 .nil),_,Heap.get?_push_size _ rfl,rfl,_,rfl⟩
  refine gc (fp:=fp) (s:={ s with heap:=s.heap.push { cls:=.type "tuple",data:=.seq #[u1,u2] },toks:=s.toks }) I1 (fun b o hb e=>?_) fun b hb=>?_
  · by_cases hz:b=s.heap.objs.size
    · subst hz;have e':(s.heap.push { cls:=.type "tuple",data:=.seq #[u1,u2] }).get? s.heap.objs.size=some o:=e;rw [Heap.get?_push_size _ rfl] at e';cases e';exact ht
    · exact k b o hb (rU hz e)
  · obtain ⟨f0,f1,f2,f3,f4,f5⟩:=hf b hb;exact ⟨by rw [av (Nat.ne_of_lt (hob b hb))];exact f0,f1,f2,f3,f4,f5⟩
end
noncomputable def sM (K:PySem.W.Frag) (H:Hp) (a:Addr) (xs:List V):Bool->Prop
  | true=>eP K H a xs
  | false=>nk K H a xs
noncomputable def gn (h:Heap) (i l:Addr) (k:Nat):Bool->Prop
  | true=>h.IsTupleIter i l k
  | false=>h.IsListIter i l k
theorem gn.keep {h h':Heap} {i l:Addr} {k:Nat} {b:Bool} (x:gn h i l k b) (hi:∀ o,h.get? i=some o->h'.get? i=some o):gn h' i l k b:=by
  cases b
  · obtain ⟨o,e,r⟩:=x;exact ⟨o,hi _ e,r⟩
  · obtain ⟨o,e,r⟩:=x;exact ⟨o,hi _ e,r⟩
theorem gn.there {h:Heap} {i l:Addr} {k:Nat} {b:Bool} (x:gn h i l k b):∃ o,h.get? i=some o/\∀ v,o.data≠.cell v:=by
  cases b
  · obtain ⟨o,e,c,d⟩:=x;exact ⟨o,e,fun v z=>by rw [d] at z;cases z⟩
  · obtain ⟨o,e,c,d⟩:=x;exact ⟨o,e,fun v z=>by rw [d] at z;cases z⟩
section
variable {X:Cx} {pins:List (Addr×Obj)} {σ:St} {H:Hp} {s:Shared}
theorem iZ {a:Addr} {xs:List V} {b:Bool} (I:aP X pins σ H s) (h:sM X.K H a xs b):∃ its:List Value,bA xs its/\uq s.heap a its.toArray/\∀ (i:Addr) (k:Nat),gn s.heap i a k b->gU s.heap i a k its.toArray:=by
  cases b
  · obtain ⟨its,rv,p,_⟩:=I.list h;exact ⟨its,rv,.inl p.isList,fun i k z=>.inl ⟨z,p.isList⟩⟩
  · obtain ⟨its,rv,p,_⟩:=I.tuple h;exact ⟨its,rv,.inr p,fun i k z=>.inr ⟨z,p⟩⟩
theorem ky {a:Addr} {xs ys:List V} {b:Bool} (I:aP X pins σ H s) (h:sM X.K H a xs b) (h':sM X.K H a ys b):ys=xs:=by
  cases b
  · exact I.list_inj h' h
  · exact I.tuple_inj h' h
theorem gU.toB {h:Heap} {i l:Addr} {k:Nat} {xs:Array Value} {b:Bool} (hl:∀ ys,(b=true->¬ h.IsList l ys)/\(b=false->¬ h.IsTuple l ys)) (x:gU h i l k xs):gn h i l k b:=by
  cases b
  · rcases x with ⟨z,w⟩ | ⟨z,w⟩
    · exact z
    · exact absurd w ((hl xs).2 rfl)
  · rcases x with ⟨z,w⟩ | ⟨z,w⟩
    · exact absurd w ((hl xs).1 rfl)
    · exact z
theorem dq {h:Heap} {l:Addr} {xs ys:Array Value} (a:h.IsList l xs) (b:h.IsTuple l ys):False:=by
  obtain ⟨o,e,c,_⟩:=a;obtain ⟨o',e',c',_⟩:=b;rw [e] at e';cases e';rw [c] at c';injection c' with z
  exact absurd z (by decide)
theorem nP {a:Addr} {xs:List V} {b:Bool} (I:aP X pins σ H s) (h:sM X.K H a xs b) {h':Heap} (kp:∀ c o,s.heap.get? c=some o->h'.get? c=some o):∀ ys,(b=true->¬ h'.IsList a ys)/\(b=false->¬ h'.IsTuple a ys):=fun ys=>by
  cases b
  · obtain ⟨its,rv,p,_⟩:=I.list h;refine ⟨fun z=>(by cases z),fun _ w=>?_⟩;obtain ⟨o,e,r⟩:=p.isList;exact dq (h:=h') (xs:=its.toArray) ⟨o,kp _ _ e,r⟩ w
  · obtain ⟨its,rv,p,_⟩:=I.tuple h;refine ⟨fun _ w=>?_,fun z=>by cases z⟩;obtain ⟨o,e,r⟩:=p;exact dq (h:=h') w ⟨o,kp _ _ e,r⟩
end
noncomputable def Fc (K:PySem.W.Frag) (l m:Addr) (b c:Bool):It :=
  ⟨fun i H=>∃ xs ys x y,sM K H l xs b/\sM K H m ys c/\xs[i]?=some x/\ys[i]?=some y,
   fun i H v H'=>∃ a x y,H a=none/\v=.ref a/\H'=cw H a (.tup [x,y])/\(∀ xs,sM K H l xs b->xs[i]?=some x)/\∀ ys,sM K H m ys c->ys[i]?=some y,
   fun i H=>∃ xs ys,sM K H l xs b/\sM K H m ys c/\(xs.length<=i\/ys.length<=i)⟩
structure FY (z p q i j l m:Addr) (b c:Bool) (k:Nat) (h:Heap):Prop where
  zz:IsZip h z p q .none
  pp:IsPair h p (.ref i) (.ref j)
  qq:∃ a b,IsPair h q a b
  ii:gn h i l k b
  jj:gn h j m k c
theorem ym {P:Program} {w:World} {K:PySem.W.Frag} {elts:List Expr} {x1} {pos:Pos} {z p q i j l m:Addr} {b c:Bool} (D:ZA z p q i j l m):rd P w K (.Tuple elts x1 pos) (Fc K l m b c) [z,p,q,i,j] z (FY z p q i j l m b c) where
  mem:=by simp
  obj:=fun k h st a ha=>by
    simp only [List.mem_cons,List.not_mem_nil,or_false] at ha;rcases ha with rfl | rfl | rfl | rfl | rfl
    · exact ⟨_,st.zz,fun v e=>by cases e⟩
    · exact ⟨_,st.pp,fun v e=>by cases e⟩
    · obtain ⟨_,_,e⟩:=st.qq;exact ⟨_,e,fun v e=>by cases e⟩
    · exact st.ii.there
    · exact st.jj.there
  keep:=fun k h h' st kp=>⟨kp z (by simp) _ st.zz,kp p (by simp) _ st.pp,let ⟨a,b,e⟩:=st.qq;⟨a,b,kp q (by simp) _ e⟩,st.ii.keep fun o e=>kp i (by simp) o e,st.jj.keep fun o e=>kp j (by simp) o e⟩
  item:=by
    intro X hP hw hK hc k pins s σ H E I hf st hg;subst hP hw hK;obtain ⟨xs,ys,x,y,h1,h2,hx,hy⟩:=hg;obtain ⟨its,rv,_,p1⟩:=iZ I h1;obtain ⟨jts,rw',_,p2⟩:=iZ I h2;obtain ⟨u,hu,ru⟩:=rv.get hx;obtain ⟨v,hv,ry⟩:=rw'.get hy;have S:zL s.heap z p q i j l m .none k its.toArray jts.toArray:=⟨st.zz,st.pp,st.qq,p1 _ _ st.ii,p2 _ _ st.jj⟩
    refine ue D S (x:=u) (y:=v) (by simpa using hu) (by simpa using hv) fun h' S' hp kp=>⟨_,rfl,?_⟩
    have zlt:z < s.heap.objs.size:=Heap.lt_size st.zz;refine wpAny_letOwnedTupleGo_zip (s:={ s with heap:=h' }) S'.zz fun h2' hz2 sb=>?_
    have up:∀ a o,a≠z->h'.get? a=some o->h2'.get? a=some o:=fun a o ha e=>sb.extBut a o ha e
    have hob:∀ a∈[z,p,q,i,j],a < s.heap.objs.size:=fun a ha=>by
      simp only [List.mem_cons,List.not_mem_nil,or_false] at ha;rcases ha with rfl | rfl | rfl | rfl | rfl
      · exact Heap.lt_size st.zz
      · exact Heap.lt_size st.pp
      · obtain ⟨_,_,e⟩:=st.qq;exact Heap.lt_size e
      · obtain ⟨o,e,_⟩:=st.ii.there;exact Heap.lt_size e
      · obtain ⟨o,e,_⟩:=st.jj.there;exact Heap.lt_size e
    have hn:H s.heap.objs.size=none:=I.hok.fresh (Nat.le_refl _);refine ⟨.ref s.heap.objs.size,_,uT (s:=s) (t':=s.toks) (fp:=[z,p,q,i,j]) (h':=h2') (u1:=u) (u2:=v) (v1:=x) (v2:=y) I hf hob (up _ _ (Nat.ne_of_gt zlt) hp) (fun a o ha e=>?_) ru ry,rfl,⟨_,x,y,hn,rfl,rfl,fun zs hz=>by rw [ky I h1 hz];exact hx,fun zs hz=>by rw [ky I h2 hz];exact hy⟩,?_,fun a ha=>?_⟩
    · simp only [List.mem_cons,List.not_mem_nil,or_false,not_or] at ha;exact up a o ha.1 (kp a o ha.1 ha.2.2.1 ha.2.2.2.1 ha.2.2.2.2 e)
    · have i2:gn h' i l (k+1) b:=by
        refine S'.ii.toB fun ys=>?_
        cases hb:b
        · subst hb;refine ⟨fun z=>(by cases z),fun _ w=>?_⟩;obtain ⟨_,_,pl,_⟩:=I.list h1;obtain ⟨o,e,r⟩:=pl.isList;exact dq (h:=h') (xs:=_) ⟨o,kp _ _ D.lz D.lq D.li D.lj e,r⟩ w
        · subst hb;refine ⟨fun _ w=>?_,fun z=>by cases z⟩;obtain ⟨_,_,pl,_⟩:=I.tuple h1;obtain ⟨o,e,r⟩:=pl;exact dq (h:=h') w ⟨o,kp _ _ D.lz D.lq D.li D.lj e,r⟩
      have j2:gn h' j m (k+1) c:=by
        refine S'.jj.toB fun ys=>?_
        cases hb:c
        · subst hb;refine ⟨fun z=>(by cases z),fun _ w=>?_⟩;obtain ⟨_,_,pl,_⟩:=I.list h2;obtain ⟨o,e,r⟩:=pl.isList;exact dq (h:=h') (xs:=_) ⟨o,kp _ _ D.mz D.mq D.mi D.mj e,r⟩ w
        · subst hb;refine ⟨fun _ w=>?_,fun z=>by cases z⟩;obtain ⟨_,_,pl,_⟩:=I.tuple h2;obtain ⟨o,e,r⟩:=pl;exact dq (h:=h') w ⟨o,kp _ _ D.mz D.mq D.mi D.mj e,r⟩
      exact ⟨hz2,up _ _ D.pz S'.pp,let ⟨a,b,e⟩:=S'.qq;⟨a,b,up _ _ D.qz e⟩,i2.keep fun o e=>up _ _ D.iz e,j2.keep fun o e=>up _ _ D.jz e⟩
    · rw [av (Nat.ne_of_lt (hob a ha))];exact (hf a ha).1
  done:=by
    intro X hP hw hK hc k pins s σ H E I hf st hg;subst hP hw hK;obtain ⟨xs,ys,h1,h2,hl⟩:=hg;obtain ⟨its,rv,_,p1⟩:=iZ I h1;obtain ⟨jts,rw',_,p2⟩:=iZ I h2;have S:zL s.heap z p q i j l m .none k its.toArray jts.toArray:=⟨st.zz,st.pp,st.qq,p1 _ _ st.ii,p2 _ _ st.jj⟩
    have e1:=rv.length;have e2:=rw'.length;refine wz (I.ok.hd hc) D S ?_ fun h' kp=>⟨rfl,gc (t':=s.toks) (fp:=[z,p,q,i,j]) I (fun a o ha e=>?_) hf⟩
    · rcases hl with hl | hl
      · left;simp;omega
      · right;simp;omega
    · simp only [List.mem_cons,List.not_mem_nil,or_false,not_or] at ha;exact kp a o ha.1 ha.2.2.1 ha.2.2.2.1 ha.2.2.2.2 e
  self:=fun _ _ _ _ _ st h=>wpAny_pyIter_zip st.zz h
noncomputable def Ba (H:Hp) (a:Addr) (ds:List PyData):Bool->Prop
  | true=>∃ vs,H a=some (.tup vs)/\bx H ds vs
  | false=>∃ o vs,H a=some (.frz o (.lst vs))/\bx H ds vs
theorem Ba.sq {K:PySem.W.Frag} {H:Hp} {a:Addr} {ds:List PyData} {b:Bool} (h:Ba H a ds b):∃ vs,sM K H a vs b/\bx H ds vs:=by
  cases b
  · obtain ⟨o,vs,e,r⟩:=h;exact ⟨vs,.inl (.inr ⟨o,e⟩),r⟩
  · obtain ⟨vs,e,r⟩:=h;exact ⟨vs,eP.of e,r⟩
theorem Ba.kp {H H':Hp} {a:Addr} {ds:List PyData} {b:Bool} (h:Ba H a ds b) (k:Kp H H'):Ba H' a ds b:=by
  cases b
  · obtain ⟨o,vs,e,r⟩:=h;exact ⟨o,vs,k.2 _ _ _ e,bx.kp k _ _ r⟩
  · obtain ⟨vs,e,r⟩:=h;exact ⟨vs,k.1 _ _ e,bx.kp k _ _ r⟩
noncomputable def Dz (p:PyData×PyData):PyData:=.tuple [p.1,p.2]
noncomputable def gE (xs ys:List PyData):List PyData:=(xs.zip ys).map Dz
theorem yx {xs ys:List PyData} {i:Nat} {d:PyData} (h:(gE xs ys)[i]?=some d):∃ x y,xs[i]?=some x/\ys[i]?=some y/\d=.tuple [x,y]:=by
  unfold gE at h;rw [List.getElem?_map] at h;cases e:(xs.zip ys)[i]? with
  | none=>rw [e] at h;cases h
  | some p =>
    rw [e] at h;obtain ⟨h1,h2⟩:=List.getElem?_zip_eq_some.mp e;exact ⟨p.1,p.2,h1,h2,(Option.some.inj h).symm⟩
theorem jp (xs ys:List PyData):(gE xs ys).length=min xs.length ys.length:=by unfold gE;simp
theorem AQ {K:PySem.W.Frag} {l m:Addr} {b c:Bool} {xs ys:List PyData}:zK (Fc K l m b c) (fun H=>Ba H l xs b/\Ba H m ys c) (gE xs ys) where
  go:=fun i H ⟨h1,h2⟩ hi=>by
    rw [jp] at hi;obtain ⟨vs,s1,r1⟩:=h1.sq (K:=K);obtain ⟨us,s2,r2⟩:=h2.sq (K:=K);obtain ⟨x,hx,_⟩:=r1.get (List.getElem?_eq_getElem (show i < xs.length by omega));obtain ⟨y,hy,_⟩:=r2.get (List.getElem?_eq_getElem (show i < ys.length by omega));exact ⟨vs,us,x,y,s1,s2,hx,hy⟩
  yld:=fun i H v H' d ⟨h1,h2⟩ hd h=>by
    obtain ⟨a,x,y,ha,rfl,rfl,k1,k2⟩:=h;obtain ⟨vs,s1,r1⟩:=h1.sq (K:=K);obtain ⟨us,s2,r2⟩:=h2.sq (K:=K);obtain ⟨dx,dy,e1,e2,rfl⟩:=yx hd;obtain ⟨x',hx,px⟩:=r1.get e1;obtain ⟨y',hy,py⟩:=r2.get e2;have q1:=k1 vs s1;have q2:=k2 us s2;rw [hx] at q1;rw [hy] at q2;cases q1;cases q2;exact ⟨cf ha _,dl ha (bx.cons px (bx.cons py bx.nil))⟩
  stop:=fun i H ⟨h1,h2⟩ hi=>by
    rw [jp] at hi;obtain ⟨vs,s1,r1⟩:=h1.sq (K:=K);obtain ⟨us,s2,r2⟩:=h2.sq (K:=K);have l1:=r1.length;have l2:=r2.length;exact ⟨vs,us,s1,s2,by omega⟩
theorem B1 {n l m:Nat} (hl:l < n) (hm:m < n):ZA (n+4) (n+2) (n+3) n (n+1) l m:=by
  refine ⟨?_,?_,?_,?_,?_,?_,?_,?_,?_,?_,?_,?_,?_,?_,?_,?_,?_,?_⟩ <;> (intro z;have z':(_:Nat)=_:=z;omega)
section
variable {X:Cx} {elts:List Expr} {x1:Nat} {tp:Pos} {a b:Expr} {fa fb:Fe} {pos p:Pos} {nl:Nat} {G:List Str} {fs:aQ->R (List PyData)}
noncomputable def F6 (K:PySem.W.Frag) (ta:TA):TI:=fun σ H R=>ta σ H fun vs H1=>∃ l m xs ys b c,vs=[.ref l,.ref m]/\sM K H1 l xs b/\sM K H1 m ys c/\R (Fc K l m b c) H1
theorem CF {ta:TA} (hg:Gl X "zip") (hm:X.mg "zip" = none) (ha:PA X [a,b] ta) (hs:starEach [a,b] X.env=[(false,eval a X.env),(false,eval b X.env)]) (hs2:starEach [b] X.env=[(false,eval b X.env)]) :
    PI X (.Tuple elts x1 tp) (.Call (.Name "zip" p) [a,b] [] pos) (F6 X.K ta):=by
  intro pins s σ H R I h;refine Call_ (iX I hg hm boot_zip (PyProof.Rows.callWith_type1 (dg (ha pos pins s σ H _ I h) fun us s1 ⟨vs,H1,I1,r1,q1⟩=>?_) (by rw [hs,hs2]) (by rw [hs2];rfl)));obtain ⟨l,m,xs,ys,b,c,e,h1,h2,q⟩:=q1;subst e;obtain ⟨u,v,rfl,ru,rv⟩:=vQ r1;cases ru;cases rv;obtain ⟨its,w1,p1,g1⟩:=iZ I1 h1;obtain ⟨jts,w2,p2,g2⟩:=iZ I1 h2;have ll:l < s1.heap.objs.size:=by rcases p1 with ⟨o,e,_⟩ | ⟨o,e,_⟩ <;> exact Heap.lt_size e
  have lm:m < s1.heap.objs.size:=by rcases p2 with ⟨o,e,_⟩ | ⟨o,e,_⟩ <;> exact Heap.lt_size e
  refine yI p1 p2 fun h' hz S kp=>wpAny_pyIter_zip S.zz ?_
  have D:=B1 ll lm;have I2:aP X pins σ H1 { s1 with heap:=h' }:=I1.kept (t':=s1.toks) kp;have i2:gn h' s1.heap.objs.size l 0 b:=S.ii.toB (nP I1 h1 kp);have j2:gn h' (s1.heap.objs.size+1) m 0 c:=S.jj.toB (nP I1 h2 kp);refine ⟨_,[s1.heap.objs.size+4,s1.heap.objs.size+2,s1.heap.objs.size+3,s1.heap.objs.size,s1.heap.objs.size+1],_,_,H1,rfl,I2,ym (b:=b) (c:=c) D,⟨S.zz,S.pp,S.qq,i2,j2⟩,fun a ha=>?_,q⟩;have hle:s1.heap.objs.size<=a:=by
    simp only [List.mem_cons,List.not_mem_nil,or_false] at ha;rcases ha with rfl | rfl | rfl | rfl | rfl
    · exact Nat.le_add_right _ 4
    · exact Nat.le_add_right _ 2
    · exact Nat.le_add_right _ 3
    · exact Nat.le_refl _
    · exact Nat.le_add_right _ 1
  exact I1.fpOk hle (I1.hok.fresh hle)
noncomputable def wC (fa fb:Fe):aQ->R (List PyData):=fun ρ=>fa ρ>>=fun x=>fb ρ>>=fun y=>iK x>>=fun xs=>iK y>>=fun ys=>.ok (gE xs ys)
theorem uc {H:Hp} {d:PyData} {v:V} {ds:List PyData} (h:Rp H d v) (e:iK d=.ok ds):∃ a b,v=.ref a/\Ba H a ds b:=by
  cases d with
  | list xs =>
    cases e;simp only [Rp] at h;obtain ⟨a,o,vs,rfl,h,r⟩:=h;exact ⟨a,false,rfl,o,vs,h,r⟩
  | tuple xs =>
    cases e;simp only [Rp] at h;obtain ⟨a,vs,rfl,h,r⟩:=h;exact ⟨a,true,rfl,vs,h,r⟩
  | _=>cases e
theorem oh (T:Tb X nl G) (j:Nat) (hG:G[j]?=some ("zip" : Str)) (hm:X.mg "zip" = none) (ha:Z.cx X a fa) (hb:Z.cx X b fb) (h1:aT a=true:=by rfl) (h2:aT b=true:=by rfl):Z.sY X (.Tuple elts x1 tp) (.Call (.Name "zip" p) [a,b] [] pos) (wC fa fb):=⟨have ha:=ha.un;have hb:=hb.un;by
  have g:=T.gl _ (List.mem_of_getElem? hG);refine PI.imp (CF g.1 hm (fN ha (fN hb kG h2) h1) (by rw [bo h1,bo h2];rfl) (by rw [bo h2];rfl)) fun σ H Rk h=>?_
  obtain ⟨ρ,sl,q⟩:=h;unfold wC at q;refine ⟨ρ,sl,?_⟩;unfold ah aI;cases e1:fa ρ with
  | ex c=>rw [e1] at q;exact q
  | no=>rw [e1] at q;exact q
  | ok x =>
    rw [e1] at q;simp only [R.ok_bind] at q ⊢;cases e2:fb ρ with
    | ex c=>rw [e2] at q;exact q
    | no=>rw [e2] at q;exact q
    | ok y =>
      rw [e2] at q;simp only [R.ok_bind] at q ⊢;cases e3:iK x with
      | ex c=>exact absurd e3 (by cases x <;> simp [iK])
      | no=>rw [e3] at q;exact q.elim
      | ok xs =>
        rw [e3] at q;simp only [R.ok_bind] at q;cases e4:iK y with
        | ex c=>exact absurd e4 (by cases y <;> simp [iK])
        | no=>rw [e4] at q;exact q.elim
        | ok ys =>
          rw [e4] at q;simp only [R.ok_bind] at q;intro vs H1 s1 ra;simp only [RA] at ra;obtain ⟨v,r',rfl,p1,v',r'',rfl,p2,rfl⟩:=ra;obtain ⟨l,b1,rfl,d1⟩:=uc p1 e3;obtain ⟨m,b2,rfl,d2⟩:=uc p2 e4;obtain ⟨us,u1,_⟩:=d1.sq (K:=X.K);obtain ⟨ws,u2,_⟩:=d2.sq (K:=X.K);exact ⟨l,m,us,ws,b1,b2,rfl,u1,u2,q _ H1 s1 ⟨_,AQ,fun H2 k _=>⟨d1.kp k,d2.kp k⟩⟩⟩⟩
end
noncomputable def df (i j:Nat):PyData->aQ->Option aQ
  | .tuple [x,y],ρ=>some ((ρ.set i (.val x)).set j (.val y))
  | _,_=>none
section
variable {X:Cx} {nl:Nat} {G:List Str} {x y:Str} {k:Nat} {p1 p2 pos:Pos}
theorem dF (T:Tb X nl G) (i j:Nat) (hi:(X.N.take nl)[i]?=some x) (hj:(X.N.take nl)[j]?=some y):Z.sW X (.Tuple [.Name x p1,.Name y p2] k pos) (df i j):=⟨by
  obtain ⟨i1,i2,i3⟩:=T.nm hi;obtain ⟨j1,j2,j3⟩:=T.nm hj;refine PG.imp (xE T.calm (jD (jU T.nd i1 i2 i3) (jD (jU T.nd j1 j2 j3) vf))) fun v σ H Q ⟨ρ,d,sl,p,q⟩=>?_
  unfold df at q;split at q
  · rename_i e;split at e
    · rename_i ρ0 dx dy;cases e;simp only [Rp] at p;obtain ⟨a,vs,rfl,ha,r⟩:=p;obtain ⟨u,r1,rfl,pu,r⟩:=r.cons_inv;obtain ⟨w,r2,rfl,pw,r⟩:=r.cons_inv;rw [r.nil_inv] at ha;refine ⟨a,[u,w],rfl,eP.of ha,rfl,u,[w],rfl,w,[],rfl,rfl,?_⟩;refine q _ (Sl.set (c:=.val dy) (o:=some w) (Sl.set (c:=.val dx) (o:=some u) sl i ⟨u,rfl,pu⟩) j ⟨w,rfl,pw⟩) fun n e h=>?_
      obtain ⟨n1,h⟩:=bX (fun e z=>by cases z) h;obtain ⟨n2,h⟩:=bX (fun e z=>by cases z) h;exact ⟨h,by rw [List.getElem?_set,if_neg n1,List.getElem?_set,if_neg n2]⟩
    · cases e
  · exact q.elim⟩
end
theorem fJ {own:Nat} {fr:List Nat} {i j:Nat} (hi:i < own) (hj:j < own):∀ ρ d ρ1,df i j d (aC own fr ρ)=some ρ1->nc (aC own fr ρ) ρ1:=fun ρ d ρ1 e=>by
  unfold df at e;split at e
  · rename_i x y _;cases e;refine ⟨by rw [List.length_set,List.length_set],fun n c hn=>?_⟩;have at_own:n < own->c=.non:=fun h=>by
      unfold aC at hn;rw [List.getElem?_append_left (by simpa using h),List.getElem?_replicate,if_pos h] at hn;exact (Option.some.inj hn).symm
    by_cases h1:j=n
    · exact .inl (at_own (by omega))
    · by_cases h2:i=n
      · exact .inl (at_own (by omega))
      · exact .inr (by rw [List.getElem?_set,if_neg h1,List.getElem?_set,if_neg h2];exact hn)
  · cases e
open AutoSeq1 (wpAny_loadPart')
noncomputable abbrev kf (h:Heap) (e i:Addr) (k:Int) (f0 old:Value):Prop:=h.get? e=some { cls:=.type "enumerate",dict:=none,data:=.fields #[f0,.bool false,.ref i,rawInt k,.none,old],slots:=#[] }
section
variable {prog:Program} {w:World} {A:Around} {E:Value->Shared->Prop} {s:Shared} {e i l:Addr} {k:Nat} {xs:Array Value}
theorem wU {x old:Value} {Q:Value->Shared->Prop} (he:kf s.heap e i k .none old) (it:gU s.heap i l k xs) (hli:l≠i) (hle:l≠e) (hei:e≠i) (hx:xs[k]?=some x)
    (hQ:∀ h' old',kf h' e i ((k:Int)+1) (rawInt s.heap.objs.size) old'->gU h' i l (k+1) xs->IsPair h' s.heap.objs.size (.int k s.toks) x->(∀ c o,c≠e->c≠i->s.heap.get? c=some o->h'.get? c=some o)->Q (.ref s.heap.objs.size) { s with heap:=h',toks:=s.toks+1 }) :
    wpAny (model prog w) A (Builtin.«enumerate.__next__» ⟨[.ref e],[]⟩) (fun fin s'=>∃ v,fin=.done (.ret v)/\Q v s') E s:=by
  obtain ⟨hp,g,d,tk,os⟩:=s;show wpAny _ _ (field (Value.ref e) 2>>=_) _ _ _;refine wpAny_bind (wpAny_field he rfl (x:=Value.ref i) rfl ?_);refine wpAny_bind (ly it hli hx fun g1 i1 s1=>?_);replace s1:Heap.SameBut i hp g1:=s1;have e1:kf g1 e i k .none old:=(s1.2 e hei).trans he;show wpAny _ _ (field (Value.ref e) 3>>=_) _ _ (Shared.mk g1 g d tk os);refine wpAny_bind (wpAny_field e1 rfl (x:=rawInt (k:Int)) rfl ?_);show wpAny _ _ (field (Value.ref e) 4>>=_) _ _ (Shared.mk g1 g d tk os);refine wpAny_bind (wpAny_field e1 rfl (x:=Value.none) rfl ?_);show wpAny _ _ (mkInt (k:Int)>>=_) _ _ (Shared.mk g1 g d tk os);refine wpAny_bind (wpAny_mkInt ?_);show wpAny _ _ (setField (Value.ref e) 3 (rawInt ((k:Int)+1))>>=_) _ _ (Shared.mk g1 g d (tk+1) os);refine wpAny_bind (wpAny_setField_rec e1 (by simp) fun g2 e2 s2=>?_);replace s2:Heap.SameBut e g1 g2:=s2;replace e2:kf g2 e i ((k:Int)+1) .none old:=e2;show wpAny _ _ (setField (Value.ref e) 4 Value.none>>=_) _ _ (Shared.mk g2 g d (tk+1) os);refine wpAny_bind (wpAny_setField_rec e2 (by simp) fun g3 e3 s3=>?_);replace s3:Heap.SameBut e g2 g3:=s3;replace e3:kf g3 e i ((k:Int)+1) .none old:=e3;show wpAny _ _ (newTuple [Value.int k tk,x]>>=_) _ _ (Shared.mk g3 g d (tk+1) os);refine wpAny_bind (wpAny_newTuple ?_);have hsz:g3.objs.size=hp.objs.size:=by rw [s3.1,s2.1,s1.1]
  have elt:e < g3.objs.size:=Heap.lt_size e3;have e4:kf (g3.push { cls:=.type "tuple",data:=.seq #[.int k tk,x] }) e i ((k:Int)+1) .none old:=Heap.get?_push_of_some _ e3;have t4:IsPair (g3.push { cls:=.type "tuple",data:=.seq #[.int k tk,x] }) g3.objs.size (.int k tk) x:=Heap.get?_push_size _ rfl;have i3:gU g3 i l (k+1) xs:=i1.keep (fun o q=>s3.extBut _ _ hei.symm (s2.extBut _ _ hei.symm q)) fun o q=>s3.extBut _ _ hle (s2.extBut _ _ hle q)
  have k3:∀ c o,c≠e->c≠i->hp.get? c=some o->g3.get? c=some o:=fun c o c1 c2 q=>s3.extBut _ _ c1 (s2.extBut _ _ c1 (s1.extBut _ _ c2 q))
  show wpAny _ _ (Builtin.SmallTypes.ownedTupleIsFree (Value.ref e)>>=_) _ _ (Shared.mk (g3.push { cls:=.type "tuple",data:=.seq #[.int k tk,x] }) g d (tk+1) os);refine wpAny_bind ?_;unfold Builtin.SmallTypes.ownedTupleIsFree;refine wpAny_bind (wpAny_field e4 rfl (x:=Value.none) rfl (wpAny_pure ?_));simp only [if_true];refine wpAny_bind (wpAny_rule ?_);refine wpAny_bind (wpAny_field e4 rfl (x:=old) rfl ?_);refine wpAny_bind (wpAny_setField_rec e4 (by simp) fun g5 e5 s5=>?_);replace s5:Heap.SameBut e (g3.push { cls:=.type "tuple",data:=.seq #[.int k tk,x] }) g5:=s5;replace e5:kf g5 e i ((k:Int)+1) .none x:=e5;show wpAny _ _ (Builtin.SmallTypes.ownedTupleHandOut (Value.ref e) (Value.ref g3.objs.size)>>=_) _ _ (Shared.mk g5 g d (tk+1) os);refine wpAny_bind ?_;unfold Builtin.SmallTypes.ownedTupleHandOut;refine wpAny_bind (wpAny_setField_rec e5 (by simp) fun g6 e6 s6=>?_);replace s6:Heap.SameBut e g5 g6:=s6;replace e6:kf g6 e i ((k:Int)+1) (rawInt g3.objs.size) x:=e6;refine wpAny_setField_rec e6 (by simp) fun g7 e7 s7=>?_
  replace s7:Heap.SameBut e g6 g7:=s7;replace e7:kf g7 e i ((k:Int)+1) (rawInt g3.objs.size) x:=e7;have up:∀ c o,c≠e->g3.get? c=some o->g7.get? c=some o:=fun c o c1 q=>s7.extBut _ _ c1 (s6.extBut _ _ c1 (s5.extBut _ _ c1 (Heap.get?_push_of_some _ q)))
  have t7:IsPair g7 g3.objs.size (.int k tk) x:=s7.extBut _ _ (Nat.ne_of_gt elt) (s6.extBut _ _ (Nat.ne_of_gt elt) (s5.extBut _ _ (Nat.ne_of_gt elt) t4));rw [hsz] at e7 t7;refine wpAny_bind (wpAny_letGo (wpAny_pure ⟨_,rfl,?_⟩));show Q (.ref g3.objs.size) _;rw [hsz];exact hQ g7 x e7 (i3.keep (fun o q=>up _ _ hei.symm q) fun o q=>up _ _ hle q) t7 fun c o c1 c2 q=>up c o c1 (k3 c o c1 c2 q)
theorem wn {x old:Value} {Q:Option Value->Shared->Prop} (he:kf s.heap e i k .none old) (it:gU s.heap i l k xs) (hli:l≠i) (hle:l≠e) (hei:e≠i) (hx:xs[k]?=some x)
    (hQ:∀ h' old',kf h' e i ((k:Int)+1) (rawInt s.heap.objs.size) old'->gU h' i l (k+1) xs->IsPair h' s.heap.objs.size (.int k s.toks) x->(∀ c o,c≠e->c≠i->s.heap.get? c=some o->h'.get? c=some o)->Q (some (.ref s.heap.objs.size)) { s with heap:=h',toks:=s.toks+1 }) :
    wpAny (model prog w) A (pyNext (.ref e)) Q E s:=by
  have hT:s.TypeIs (.ref e) "enumerate" := ⟨_,he,rfl⟩
  unfold pyNext;exact wpAny_bind (wpAny_attempt (wpAny_callSpecial?_slot (name:=Str.ofString "__next__") hT F.slot_enumerate_next (wpAny_call_entry F.slot_enumerate_next hT F.entry_enumerate_next (wU he it hli hle hei hx fun h' o a b c d=>wpAny_pure (hQ h' o a b c d)) (F.args_enumerate_next_1 _))))
theorem zD {old:Value} {Q:Option Value->Shared->Prop} (hh:A.handled=none) (he:kf s.heap e i k .none old) (it:gU s.heap i l k xs) (hx:xs[k]?=none) (hQ:∀ h',(∀ c o,c≠i->s.heap.get? c=some o->h'.get? c=some o)->Q none { s with heap:=h' }) :
    wpAny (model prog w) A (pyNext (.ref e)) Q E s:=by
  have hT:s.TypeIs (.ref e) "enumerate" := ⟨_,he,rfl⟩
  unfold pyNext;refine wpAny_bind (wpAny_attempt (wpAny_callSpecial?_slot (name:=Str.ofString "__next__") hT F.slot_enumerate_next (wpAny_call_entry F.slot_enumerate_next hT F.entry_enumerate_next ?_ (F.args_enumerate_next_1 _))));show wpAny _ _ (field (Value.ref e) 2>>=_) _ _ _;refine wpAny_bind (wpAny_field he rfl (x:=Value.ref i) rfl ?_);refine wpAny_bind (gy hh it hx fun h' x k1 ⟨o,ho,hc⟩=>?_);exact wpAny_bind (wpAny_isInstance (T := "StopIteration") (b:=true) ⟨o,ho,hc⟩ isSubtype_stop (wpAny_pure (hQ _ fun c o c1 q=>k1 c o c1 q)))
theorem zf (l:Addr) (xs:Array Value):Meets (Builtin.«enumerate.__new__» ⟨[.type "enumerate",.ref l],[]⟩) (fun _ R s=>uq s.heap l xs /\
    ∀ h',kf h' (s.heap.objs.size+1) s.heap.objs.size 0 .none .none->gU h' s.heap.objs.size l 0 xs->(∀ c o,s.heap.get? c=some o->h'.get? c=some o)->R (.ok (.ret (.ref (s.heap.objs.size+1)))) { s with heap:=h' }) :=
  .of_wp fun prog w A R s h=>by
    obtain ⟨hp,g,d,tk,os⟩:=s;obtain ⟨h1,h⟩:=h;have hsub:=sub_enumerate;have fin:∀ oi:Obj,gU (hp.push oi) hp.objs.size l 0 xs->R (.ok (.ret (.ref (hp.push oi).objs.size))) ⟨(hp.push oi).push { cls:=.type "enumerate",data:=.fields #[.none,.bool false,.ref hp.objs.size,rawInt 0,.none,.none] },g,d,tk,os⟩:=fun oi hi=>by
      have e1:(hp.push oi).objs.size=hp.objs.size+1:=Heap.size_push ..;rw [e1];refine h _ ?_ (hi.keep (fun o q=>Heap.get?_push_of_some _ q) fun o q=>Heap.get?_push_of_some _ q) fun c o q=>Heap.get?_push_of_some _ (Heap.get?_push_of_some _ q)
      show Heap.get? _ (hp.objs.size+1)=_;rw [<- e1];exact Heap.get?_push_size _ rfl
    rcases h1 with h1 | h1
    · have l1:Heap.IsList (Shared.heap ⟨hp,g,d,tk,os⟩) l xs:=h1;obtain ⟨o,ho,_,_,_⟩:=id h1;have ho':(Shared.heap ⟨hp,g,d,tk,os⟩).get? l=some o:=ho
      wp_walk using wpAny_loadPart' ho'
      refine wpAny_stack_any fun st=>wpAny_pure ?_
      split
      · rename_i c _ _ _ _ _;cases (c==Value.type "enumerate")
        · wp_walk using wpAny_loadPart' ho',wpAny_pyIter_list l1
          exact ⟨_,rfl,fin _ (.inl ⟨⟨_,Heap.get?_push_size _ rfl,rfl,rfl⟩,Heap.IsList.push h1 _⟩)⟩
        · wp_walk using wpAny_loadPart' ho',wpAny_pyIter_list l1
          exact ⟨_,rfl,fin _ (.inl ⟨⟨_,Heap.get?_push_size _ rfl,rfl,rfl⟩,Heap.IsList.push h1 _⟩)⟩
      · wp_walk using wpAny_loadPart' ho',wpAny_pyIter_list l1
        exact ⟨_,rfl,fin _ (.inl ⟨⟨_,Heap.get?_push_size _ rfl,rfl,rfl⟩,Heap.IsList.push h1 _⟩)⟩
    · have l1:Heap.IsTuple (Shared.heap ⟨hp,g,d,tk,os⟩) l xs:=h1;obtain ⟨o,ho,_,_,_⟩:=id h1;have ho':(Shared.heap ⟨hp,g,d,tk,os⟩).get? l=some o:=ho
      wp_walk using wpAny_loadPart' ho'
      refine wpAny_stack_any fun st=>wpAny_pure ?_
      split
      · rename_i c _ _ _ _ _;cases (c==Value.type "enumerate")
        · wp_walk using wpAny_loadPart' ho',wpAny_pyIter_tuple l1
          exact ⟨_,rfl,fin _ (.inr ⟨⟨_,Heap.get?_push_size _ rfl,rfl,rfl⟩,Heap.IsTuple.push h1 _⟩)⟩
        · wp_walk using wpAny_loadPart' ho',wpAny_pyIter_tuple l1
          exact ⟨_,rfl,fin _ (.inr ⟨⟨_,Heap.get?_push_size _ rfl,rfl,rfl⟩,Heap.IsTuple.push h1 _⟩)⟩
      · wp_walk using wpAny_loadPart' ho',wpAny_pyIter_tuple l1
        exact ⟨_,rfl,fin _ (.inr ⟨⟨_,Heap.get?_push_size _ rfl,rfl,rfl⟩,Heap.IsTuple.push h1 _⟩)⟩
theorem xk {Q:Value->Shared->Prop} {l:Addr} (h1:uq s.heap l xs)
    (h:∀ h',kf h' (s.heap.objs.size+1) s.heap.objs.size 0 .none .none->gU h' s.heap.objs.size l 0 xs->(∀ c o,s.heap.get? c=some o->h'.get? c=some o)->Q (.ref (s.heap.objs.size+1)) { s with heap:=h' }) :
    wpAny (model prog w) A (call (.type "enumerate") [.ref l]) Q E s:=by
  refine callType_new F.called_enumerate (by decide) (F.typeCall_enumerate_1 _) (F.newCall_enumerate_1 _) (fun obj=>F.args_object_init_2 obj _) F.entry_enumerate_new (zf l xs) ⟨h1,fun h' e S k=>?_⟩;exact ⟨⟨_,e,rfl⟩,h h' e S k⟩
end
end D2
namespace D2
open PySem PySem.Spec PyProof.Rows L2
noncomputable def FD (K:PySem.W.Frag) (l:Addr) (b:Bool):It :=
  ⟨fun i H=>∃ xs x,sM K H l xs b/\xs[i]?=some x,fun i H v H'=>∃ a x,H a=none/\v=.ref a/\H'=cw H a (.tup [.int i,x])/\∀ xs,sM K H l xs b->xs[i]?=some x,fun i H=>∃ xs,sM K H l xs b/\xs.length<=i⟩
structure F4 (e i l:Addr) (b:Bool) (k:Nat) (h:Heap):Prop where
  ee:∃ old,kf h e i k .none old
  ii:gn h i l k b
theorem wp {P:Program} {w:World} {K:PySem.W.Frag} {elts:List Expr} {x1} {pos:Pos} {e i l:Addr} {b:Bool} (hei:e≠i) (hle:l≠e) (hli:l≠i):rd P w K (.Tuple elts x1 pos) (FD K l b) [e,i] e (F4 e i l b) where
  mem:=by simp
  obj:=fun k h st a ha=>by
    simp only [List.mem_cons,List.not_mem_nil,or_false] at ha;rcases ha with rfl | rfl
    · obtain ⟨_,q⟩:=st.ee;exact ⟨_,q,fun v e=>by cases e⟩
    · exact st.ii.there
  keep:=fun k h h' st kp=>⟨let ⟨o,q⟩:=st.ee;⟨o,kp e (by simp) _ q⟩,st.ii.keep fun o q=>kp i (by simp) o q⟩
  item:=by
    intro X hP hw hK hc k pins s σ H E I hf st hg;subst hP hw hK;obtain ⟨xs,x,h1,hx⟩:=hg;obtain ⟨its,rv,_,p1⟩:=iZ I h1;obtain ⟨u,hu,ru⟩:=rv.get hx;obtain ⟨old,he⟩:=st.ee;refine wn he (p1 _ _ st.ii) hli hle hei (x:=u) (by simpa using hu) fun h' old' e' i' hp kp=>⟨_,rfl,?_⟩
    have elt:e < s.heap.objs.size:=Heap.lt_size he;have hob:∀ a∈[e,i],a < s.heap.objs.size:=fun a ha=>by
      simp only [List.mem_cons,List.not_mem_nil,or_false] at ha;rcases ha with rfl | rfl
      · exact elt
      · obtain ⟨o,q,_⟩:=st.ii.there;exact Heap.lt_size q
    have hn:H s.heap.objs.size=none:=I.hok.fresh (Nat.le_refl _);refine wpAny_letOwnedTupleGo_enum (s:={ s with heap:=h',toks:=s.toks+1 }) e' fun h2' e2 sb=>?_
    have up:∀ a o,a≠e->h'.get? a=some o->h2'.get? a=some o:=fun a o ha q=>sb.extBut a o ha q
    refine ⟨.ref s.heap.objs.size,_,uT (s:=s) (t':=s.toks+1) (fp:=[e,i]) (h':=h2') (u1:=.int k s.toks) (u2:=u) (v1:=.int k) (v2:=x) I hf hob (up _ _ (Nat.ne_of_gt elt) hp) (fun a o ha q=>?_) ⟨_,rfl⟩ ru,rfl,⟨_,x,hn,rfl,rfl,fun zs hz=>by rw [ky I h1 hz];exact hx⟩,?_,fun a ha=>?_⟩
    · simp only [List.mem_cons,List.not_mem_nil,or_false,not_or] at ha;exact up a o ha.1 (kp a o ha.1 ha.2 q)
    · have i2:gn h' i l (k+1) b:=by
        refine i'.toB fun ys=>?_
        cases hb:b
        · subst hb;refine ⟨fun z=>(by cases z),fun _ w=>?_⟩;obtain ⟨_,_,pl,_⟩:=I.list h1;obtain ⟨o,q,r⟩:=pl.isList;exact dq (h:=h') (xs:=_) ⟨o,kp _ _ hle hli q,r⟩ w
        · subst hb;refine ⟨fun _ w=>?_,fun z=>by cases z⟩;obtain ⟨_,_,pl,_⟩:=I.tuple h1;obtain ⟨o,q,r⟩:=pl;exact dq (h:=h') w ⟨o,kp _ _ hle hli q,r⟩
      exact ⟨⟨_,by have q:kf h2' e i ((k:Int)+1) .none old':=e2;simpa using q⟩,i2.keep fun o q=>up _ _ hei.symm q⟩
    · rw [av (Nat.ne_of_lt (hob a ha))];exact (hf a ha).1
  done:=by
    intro X hP hw hK hc k pins s σ H E I hf st hg;subst hP hw hK;obtain ⟨xs,h1,hl⟩:=hg;obtain ⟨its,rv,_,p1⟩:=iZ I h1;obtain ⟨old,he⟩:=st.ee;have e1:=rv.length;refine zD (I.ok.hd hc) he (p1 _ _ st.ii) (by simp;omega) fun h' kp=>⟨rfl,gc (t':=s.toks) (fp:=[e,i]) I (fun a o ha q=>?_) hf⟩
    simp only [List.mem_cons,List.not_mem_nil,or_false,not_or] at ha;exact kp a o ha.2 q
  self:=fun _ _ _ _ _ st h=>let ⟨_,q⟩:=st.ee;wpAny_pyIter_enum q h
noncomputable def cP:Nat->List PyData->List PyData
  | _,[]=>[]
  | k,d::ds=>.tuple [.int k,d]::cP (k+1) ds
theorem fL:∀ (k:Nat) (ds:List PyData),(cP k ds).length=ds.length
  | _,[]=>rfl
  | k,d::ds=>by unfold cP;rw [List.length_cons,List.length_cons,fL]
theorem qa:∀ {k:Nat} {ds:List PyData} {i:Nat} {d:PyData},(cP k ds)[i]?=some d->∃ x,ds[i]?=some x/\d=.tuple [.int ((k+i:Nat):Int),x]
  | k,[],i,d,h=>by unfold cP at h;simp at h
  | k,x::ds,0,d,h=>by
    unfold cP at h;simp at h;exact ⟨x,rfl,by rw [<- h];simp⟩
  | k,x::ds,i+1,d,h=>by
    unfold cP at h;rw [List.getElem?_cons_succ] at h;obtain ⟨y,h1,h2⟩:=qa h;refine ⟨y,by simpa using h1,?_⟩;rw [h2];have:k+1+i=k+(i+1):=by omega
    rw [this]
theorem yd {K:PySem.W.Frag} {l:Addr} {b:Bool} {xs:List PyData}:zK (FD K l b) (fun H=>Ba H l xs b) (cP 0 xs) where
  go:=fun i H h1 hi=>by
    rw [fL] at hi;obtain ⟨vs,s1,r1⟩:=h1.sq (K:=K);obtain ⟨x,hx,_⟩:=r1.get (List.getElem?_eq_getElem hi);exact ⟨vs,x,s1,hx⟩
  yld:=fun i H v H' d h1 hd h=>by
    obtain ⟨a,x,ha,rfl,rfl,k1⟩:=h;obtain ⟨vs,s1,r1⟩:=h1.sq (K:=K);obtain ⟨dx,e1,rfl⟩:=qa hd;obtain ⟨x',hx,px⟩:=r1.get e1;have q1:=k1 vs s1;rw [hx] at q1;cases q1;refine ⟨cf ha _,dl ha (bx.cons ?_ (bx.cons px bx.nil))⟩;rw [Nat.zero_add];exact dm
  stop:=fun i H h1 hi=>by
    rw [fL] at hi;obtain ⟨vs,s1,r1⟩:=h1.sq (K:=K);have l1:=r1.length;exact ⟨vs,s1,by omega⟩
section
variable {X:Cx} {elts:List Expr} {x1:Nat} {tp:Pos} {a b:Expr} {fa fb:Fe} {pos p:Pos} {nl:Nat} {G:List Str} {fs:aQ->R (List PyData)}
noncomputable def F3 (K:PySem.W.Frag) (ta:TA):TI:=fun σ H R=>ta σ H fun vs H1=>∃ l xs b,vs=[.ref l]/\sM K H1 l xs b/\R (FD K l b) H1
theorem AV {ta:TA} (hg:Gl X "enumerate") (hm:X.mg "enumerate" = none) (ha:PA X [a] ta) (hs:starEach [a] X.env=[(false,eval a X.env)]):PI X (.Tuple elts x1 tp) (.Call (.Name "enumerate" p) [a] [] pos) (F3 X.K ta):=by
  intro pins s σ H R I h;refine Call_ (iX I hg hm boot_enumerate (PyProof.Rows.callWith_type1 (dg (ha pos pins s σ H _ I h) fun us s1 ⟨vs,H1,I1,r1,q1⟩=>?_) hs rfl));obtain ⟨l,xs,b,e,h1,q⟩:=q1;subst e;obtain ⟨u,rfl,ru⟩:=gH r1;cases ru;obtain ⟨its,w1,p1,g1⟩:=iZ I1 h1;have ll:l < s1.heap.objs.size:=by rcases p1 with ⟨o,e,_⟩ | ⟨o,e,_⟩ <;> exact Heap.lt_size e
  refine xk p1 fun h' hz S kp=>wpAny_pyIter_enum hz ?_
  have I2:aP X pins σ H1 { s1 with heap:=h' }:=I1.kept (t':=s1.toks) kp;have i2:gn h' s1.heap.objs.size l 0 b:=S.toB (nP I1 h1 kp);refine ⟨_,[s1.heap.objs.size+1,s1.heap.objs.size],_,_,H1,rfl,I2,wp (b:=b) (Nat.ne_of_gt (Nat.lt_succ_self _)) (Nat.ne_of_lt (Nat.lt_succ_of_lt ll)) (Nat.ne_of_lt ll),⟨⟨_,hz⟩,i2⟩,fun a ha=>?_,q⟩;have hle:s1.heap.objs.size<=a:=by
    simp only [List.mem_cons,List.not_mem_nil,or_false] at ha;rcases ha with rfl | rfl
    · exact Nat.le_add_right _ 1
    · exact Nat.le_refl _
  exact I1.fpOk hle (I1.hok.fresh hle)
noncomputable def mH (fa:Fe):aQ->R (List PyData):=fun ρ=>fa ρ>>=fun x=>iK x>>=fun xs=>.ok (cP 0 xs)
theorem ir (T:Tb X nl G) (j:Nat) (hG:G[j]?=some ("enumerate" : Str)) (hm:X.mg "enumerate" = none) (ha:Z.cx X a fa) (h1:aT a=true:=by rfl):Z.sY X (.Tuple elts x1 tp) (.Call (.Name "enumerate" p) [a] [] pos) (mH fa):=⟨have ha:=ha.un;by
  have g:=T.gl _ (List.mem_of_getElem? hG);refine PI.imp (AV g.1 hm (fN ha kG h1) (by rw [bo h1];rfl)) fun σ H Rk h=>?_
  obtain ⟨ρ,sl,q⟩:=h;unfold mH at q;refine ⟨ρ,sl,?_⟩;unfold ah aI;cases e1:fa ρ with
  | ex c=>rw [e1] at q;exact q
  | no=>rw [e1] at q;exact q
  | ok x =>
    rw [e1] at q;simp only [R.ok_bind] at q ⊢;cases e3:iK x with
    | ex c=>exact absurd e3 (by cases x <;> simp [iK])
    | no=>rw [e3] at q;exact q.elim
    | ok xs =>
      rw [e3] at q;simp only [R.ok_bind] at q;intro vs H1 s1 ra;simp only [RA] at ra;obtain ⟨v,r',rfl,p1,rfl⟩:=ra;obtain ⟨l,b1,rfl,d1⟩:=uc p1 e3;obtain ⟨us,u1,_⟩:=d1.sq (K:=X.K);exact ⟨l,us,b1,rfl,u1,q _ H1 s1 ⟨_,yd,fun H2 k _=>d1.kp k⟩⟩⟩
end
noncomputable abbrev fE (h:Heap) (T:Addr) (a b c:Value):Prop:=h.get? T=some { cls:=.type "tuple",data:=.seq #[a,b,c] }
structure Z3 (h:Heap) (N l m o:Nat) (f0:Value) (k:Nat) (xs ys zs:Array Value):Prop where
  zz:IsZip h (N+5) (N+3) (N+4) f0
  pp:fE h (N+3) (.ref N) (.ref (N+1)) (.ref (N+2))
  qq:∃ a b c,fE h (N+4) a b c
  ii:gU h N l k xs
  jj:gU h (N+1) m k ys
  kk:gU h (N+2) o k zs
theorem nX (a b c:Value):checkTypeCall "zip" ⟨[a,b,c],[]⟩=pure ():=by kernel_rfl
theorem pe (a b c:Value):checkBuiltinCall "zip.__new__" ⟨[.type "zip",a,b,c],[]⟩=pure ():=by kernel_rfl
theorem km (a b c d:Value):argsOk "object.__init__" ⟨[a,b,c,d],[]⟩:=by unfold argsOk;kernel_rfl
section
variable {prog:Program} {w:World} {A:Around} {E:Value->Shared->Prop} {s:Shared} {N l m o:Nat} {k:Nat} {xs ys zs:Array Value}
theorem eJ {T:Addr} {a b c x:Value} {k:Nat} {Q:Unit->Shared->Prop} (hT:fE s.heap T a b c)
    (h:∀ h',h'.get? T=some { cls:=.type "tuple",data:=.seq ((#[a,b,c]:Array Value).setIfInBounds k x) }->Heap.SameBut T s.heap h'->Q () { s with heap:=h' }) :
    wpAny (model prog w) A (updateSeq T (·.setIfInBounds k x)) Q E s:=by
  refine wpAny_updateSeq hT rfl (h _ ?_ (Heap.SameBut.update ..));rw [Heap.get?_update_self _ hT rfl];simp [Obj.mapSeq]
theorem wA {x y v:Value} {Q:Value->Shared->Prop} (hl:l < N) (hm:m < N) (ho:o < N) (S:Z3 s.heap N l m o .none k xs ys zs) (hx:xs[k]?=some x) (hy:ys[k]?=some y) (hv:zs[k]?=some v)
    (hQ:∀ h',Z3 h' N l m o (rawInt s.heap.objs.size) (k+1) xs ys zs->fE h' s.heap.objs.size x y v->(∀ (c:Nat) o,c≠N+5->c≠N+4->c≠N->c≠N+1->c≠N+2->s.heap.get? c=some o->h'.get? c=some o)->Q (.ref s.heap.objs.size) { s with heap:=h' }) :
    wpAny (model prog w) A (Builtin.«zip.__next__» ⟨[.ref (N+5)],[]⟩) (fun fin s'=>∃ v,fin=.done (.ret v)/\Q v s') E s:=by
  obtain ⟨hz,hp,⟨a,b,c,hq⟩,hi,hj,hk⟩:=S;have n1:∀ {a b:Nat},a≠b->(show Addr from a)≠(show Addr from b):=fun h=>h
  show wpAny _ _ (field (Value.ref (N+5)) 2>>=_) _ _ _;refine wpAny_bind (wpAny_field hz rfl (x:=Value.bool false) rfl ?_);show wpAny _ _ (field (Value.ref (N+5)) 3>>=_) _ _ _;refine wpAny_bind (wpAny_field hz rfl (x:=Value.ref (N+3)) rfl ?_);refine wpAny_bind (wpAny_seqItems hp rfl ?_);show wpAny _ _ (Builtin.SmallTypes.ownedTupleIsFree (Value.ref (N+5))>>=_) _ _ _;refine wpAny_bind ?_;unfold Builtin.SmallTypes.ownedTupleIsFree;refine wpAny_bind (wpAny_field hz rfl (x:=Value.none) rfl (wpAny_pure ?_));simp only [if_true];refine wpAny_bind (wpAny_rule ?_);refine wpAny_bind (wpAny_field hz rfl (x:=Value.ref (N+4)) rfl ?_);refine wpAny_bind (wpAny_setField_rec hz (by simp) fun g1 z1 s1=>?_);replace z1:IsZip g1 (N+5) (N+3) (N+4) .ellipsis:=z1;refine wpAny_bind ?_;simp only [List.zipIdx_cons,List.zipIdx_nil,List.forIn_cons,List.forIn_nil];refine wpAny_bind (wpAny_bind (wpAny_onRaise ?_));show wpAny _ _ (Builtin.SmallTypes.nextOf (Value.ref N)>>=_) _ _ _;have hi1:gU g1 N l k xs:=hi.keep (fun o e=>s1.extBut _ _ (n1 (by omega)) e) fun o e=>s1.extBut _ _ (n1 (by omega)) e
  refine wpAny_bind (ly hi1 (n1 (by omega)) hx fun g2 i2 s2=>wpAny_pure ?_);have q2:fE g2 (N+4) a b c:=s2.extBut _ _ (n1 (by omega)) (s1.extBut _ _ (n1 (by omega)) hq);refine wpAny_bind (wpAny_seqItems q2 rfl ?_);refine wpAny_bind (eJ q2 fun g3 q3 s3=>?_);replace q3:fE g3 (N+4) x b c:=q3;refine wpAny_bind (wpAny_letGo (wpAny_pure ?_));refine wpAny_bind (wpAny_bind (wpAny_onRaise ?_));show wpAny _ _ (Builtin.SmallTypes.nextOf (Value.ref (N+1))>>=_) _ _ _;have hj3:gU g3 (N+1) m k ys:=hj.keep (fun o e=>s3.extBut _ _ (n1 (by omega)) (s2.extBut _ _ (n1 (by omega)) (s1.extBut _ _ (n1 (by omega)) e))) fun o e=>s3.extBut _ _ (n1 (by omega)) (s2.extBut _ _ (n1 (by omega)) (s1.extBut _ _ (n1 (by omega)) e))
  refine wpAny_bind (ly hj3 (n1 (by omega)) hy fun g4 j4 s4=>wpAny_pure ?_);have q4:fE g4 (N+4) x b c:=s4.extBut _ _ (n1 (by omega)) q3;refine wpAny_bind (wpAny_seqItems q4 rfl ?_);refine wpAny_bind (eJ q4 fun g5 q5 s5=>?_);replace q5:fE g5 (N+4) x y c:=q5;refine wpAny_bind (wpAny_letGo (wpAny_pure ?_));refine wpAny_bind (wpAny_bind (wpAny_onRaise ?_));show wpAny _ _ (Builtin.SmallTypes.nextOf (Value.ref (N+2))>>=_) _ _ _;have hk5:gU g5 (N+2) o k zs:=hk.keep (fun o e=>s5.extBut _ _ (n1 (by omega)) (s4.extBut _ _ (n1 (by omega)) (s3.extBut _ _ (n1 (by omega)) (s2.extBut _ _ (n1 (by omega)) (s1.extBut _ _ (n1 (by omega)) e))))) fun o e=>s5.extBut _ _ (n1 (by omega)) (s4.extBut _ _ (n1 (by omega)) (s3.extBut _ _ (n1 (by omega)) (s2.extBut _ _ (n1 (by omega)) (s1.extBut _ _ (n1 (by omega)) e))))
  refine wpAny_bind (ly hk5 (n1 (by omega)) hv fun g6 k6 s6=>wpAny_pure ?_);have q6:fE g6 (N+4) x y c:=s6.extBut _ _ (n1 (by omega)) q5;refine wpAny_bind (wpAny_seqItems q6 rfl ?_);refine wpAny_bind (eJ q6 fun g7 q7 s7=>?_);replace q7:fE g7 (N+4) x y v:=q7;refine wpAny_bind (wpAny_letGo (wpAny_pure (wpAny_pure ?_)));refine wpAny_bind (wpAny_seqItems q7 rfl ?_);refine wpAny_bind (wpAny_newTuple ?_);have hsz:g7.objs.size=s.heap.objs.size:=by rw [s7.1,s6.1,s5.1,s4.1,s3.1,s2.1,s1.1]
  have z7:IsZip g7 (N+5) (N+3) (N+4) .ellipsis:=s7.extBut _ _ (n1 (by omega)) (s6.extBut _ _ (n1 (by omega)) (s5.extBut _ _ (n1 (by omega)) (s4.extBut _ _ (n1 (by omega)) (s3.extBut _ _ (n1 (by omega)) (s2.extBut _ _ (n1 (by omega)) z1)))));have k7:∀ (c:Nat) o,c≠N+5->c≠N+4->c≠N->c≠N+1->c≠N+2->s.heap.get? c=some o->g7.get? c=some o:=fun c o c1 c2 c3 c4 c5 e=>s7.extBut _ _ (n1 c2) (s6.extBut _ _ (n1 c5) (s5.extBut _ _ (n1 c2) (s4.extBut _ _ (n1 c4) (s3.extBut _ _ (n1 c2) (s2.extBut _ _ (n1 c3) (s1.extBut _ _ (n1 c1) e))))))
  have i7:gU g7 N l (k+1) xs:=i2.keep (fun o e=>s7.extBut _ _ (n1 (by omega)) (s6.extBut _ _ (n1 (by omega)) (s5.extBut _ _ (n1 (by omega)) (s4.extBut _ _ (n1 (by omega)) (s3.extBut _ _ (n1 (by omega)) e))))) fun o e=>s7.extBut _ _ (n1 (by omega)) (s6.extBut _ _ (n1 (by omega)) (s5.extBut _ _ (n1 (by omega)) (s4.extBut _ _ (n1 (by omega)) (s3.extBut _ _ (n1 (by omega)) e))))
  have j7:gU g7 (N+1) m (k+1) ys:=j4.keep (fun o e=>s7.extBut _ _ (n1 (by omega)) (s6.extBut _ _ (n1 (by omega)) (s5.extBut _ _ (n1 (by omega)) e))) fun o e=>s7.extBut _ _ (n1 (by omega)) (s6.extBut _ _ (n1 (by omega)) (s5.extBut _ _ (n1 (by omega)) e))
  have l7:gU g7 (N+2) o (k+1) zs:=k6.keep (fun o e=>s7.extBut _ _ (n1 (by omega)) e) fun o e=>s7.extBut _ _ (n1 (by omega)) e
  have zlt:N+5 < g7.objs.size:=Heap.lt_size z7;show wpAny _ _ (Builtin.SmallTypes.ownedTupleHandOut (Value.ref (N+5)) (Value.ref g7.objs.size)>>=_) _ _ _;refine wpAny_bind ?_;unfold Builtin.SmallTypes.ownedTupleHandOut;have z8:IsZip (g7.push { cls:=.type "tuple",data:=.seq #[x,y,v] }) (N+5) (N+3) (N+4) .ellipsis:=Heap.get?_push_of_some _ z7;refine wpAny_bind (wpAny_setField_rec z8 (by simp) fun g9 z9 s9=>?_);replace z9:IsZip g9 (N+5) (N+3) (N+4) (rawInt g7.objs.size):=z9;refine wpAny_setField_rec z9 (by simp) fun g10 z10 s10=>?_
  replace z10:IsZip g10 (N+5) (N+3) (N+4) (rawInt g7.objs.size):=z10;have up:∀ (c:Nat) o,c≠N+5->g7.get? c=some o->g10.get? c=some o:=fun c o c1 e=>s10.extBut _ _ (n1 c1) (s9.extBut _ _ (n1 c1) (Heap.get?_push_of_some _ e))
  have t10:fE g10 g7.objs.size x y v:=s10.extBut _ _ (Nat.ne_of_gt zlt) (s9.extBut _ _ (Nat.ne_of_gt zlt) (Heap.get?_push_size _ rfl));rw [hsz] at z10 t10;refine wpAny_pure ⟨_,rfl,?_⟩;show Q (.ref g7.objs.size) _;rw [hsz];exact hQ g10 ⟨z10,up _ _ (by omega) (k7 _ _ (by omega) (by omega) (by omega) (by omega) (by omega) hp),⟨x,y,v,up _ _ (by omega) q7⟩,i7.keep (fun o e=>up _ _ (by omega) e) fun o e=>up _ _ (by omega) e,j7.keep (fun o e=>up _ _ (by omega) e) fun o e=>up _ _ (by omega) e,
    l7.keep (fun o e=>up _ _ (by omega) e) fun o e=>up _ _ (by omega) e⟩ t10 fun c o c1 c2 c3 c4 c5 e=>up c o c1 (k7 c o c1 c2 c3 c4 c5 e)
theorem xu {Q:PySem.Fin->Shared->Prop} (hh:A.handled=none) (hl:l < N) (hm:m < N) (ho:o < N) (S:Z3 s.heap N l m o .none k xs ys zs) (hend:xs[k]?=none\/ys[k]?=none\/zs[k]?=none)
    (hE:∀ h' e,(∀ (c:Nat) o,c≠N+5->c≠N+4->c≠N->c≠N+1->c≠N+2->s.heap.get? c=some o->h'.get? c=some o)->(∃ o,h'.get? e=some o/\o.cls=.type "StopIteration")->E (.ref e) { s with heap:=h' }) :
    wpAny (model prog w) A (Builtin.«zip.__next__» ⟨[.ref (N+5)],[]⟩) Q E s:=by
  obtain ⟨hz,hp,⟨a,b,c,hq⟩,hi,hj,hk⟩:=S;have n1:∀ {a b:Nat},a≠b->(show Addr from a)≠(show Addr from b):=fun h=>h
  show wpAny _ _ (field (Value.ref (N+5)) 2>>=_) _ _ _;refine wpAny_bind (wpAny_field hz rfl (x:=Value.bool false) rfl ?_);show wpAny _ _ (field (Value.ref (N+5)) 3>>=_) _ _ _;refine wpAny_bind (wpAny_field hz rfl (x:=Value.ref (N+3)) rfl ?_);refine wpAny_bind (wpAny_seqItems hp rfl ?_);show wpAny _ _ (Builtin.SmallTypes.ownedTupleIsFree (Value.ref (N+5))>>=_) _ _ _;refine wpAny_bind ?_;unfold Builtin.SmallTypes.ownedTupleIsFree;refine wpAny_bind (wpAny_field hz rfl (x:=Value.none) rfl (wpAny_pure ?_));simp only [if_true];refine wpAny_bind (wpAny_rule ?_);refine wpAny_bind (wpAny_field hz rfl (x:=Value.ref (N+4)) rfl ?_);refine wpAny_bind (wpAny_setField_rec hz (by simp) fun g1 z1 s1=>?_);replace z1:IsZip g1 (N+5) (N+3) (N+4) .ellipsis:=z1;refine wpAny_bind ?_;simp only [List.zipIdx_cons,List.zipIdx_nil,List.forIn_cons,List.forIn_nil];refine wpAny_bind (wpAny_bind (wpAny_onRaise ?_));show wpAny _ _ (Builtin.SmallTypes.nextOf (Value.ref N)>>=_) _ _ _;have hi1:gU g1 N l k xs:=hi.keep (fun o e=>s1.extBut _ _ (n1 (by omega)) e) fun o e=>s1.extBut _ _ (n1 (by omega)) e
  cases hx:xs[k]? with
  | none =>
    refine wpAny_bind (gy hh hi1 hx fun g2 e s2 he=>?_);obtain ⟨oe,hoe,hce⟩:=he;have z2:IsZip g2 (N+5) (N+3) (N+4) .ellipsis:=s2 _ _ (n1 (by omega)) z1;have hez:e≠(N+5:Nat):=fun t=>by subst t;rw [z2] at hoe;cases hoe;simp at hce
    exact wpAny_setField_rec z2 (by simp) fun g3 _ s3=>hE g3 e (fun c o c1 _ c3 _ _ t=>s3.extBut _ _ (n1 c1) (s2 _ _ (n1 c3) (s1.extBut _ _ (n1 c1) t))) ⟨oe,s3.extBut _ _ hez hoe,hce⟩
  | some x =>
    refine wpAny_bind (ly hi1 (n1 (by omega)) hx fun g2 i2 s2=>wpAny_pure ?_);have q2:fE g2 (N+4) a b c:=s2.extBut _ _ (n1 (by omega)) (s1.extBut _ _ (n1 (by omega)) hq);refine wpAny_bind (wpAny_seqItems q2 rfl ?_);refine wpAny_bind (eJ q2 fun g3 q3 s3=>?_);replace q3:fE g3 (N+4) x b c:=q3;refine wpAny_bind (wpAny_letGo (wpAny_pure ?_));refine wpAny_bind (wpAny_bind (wpAny_onRaise ?_));show wpAny _ _ (Builtin.SmallTypes.nextOf (Value.ref (N+1))>>=_) _ _ _;have hj3:gU g3 (N+1) m k ys:=hj.keep (fun o e=>s3.extBut _ _ (n1 (by omega)) (s2.extBut _ _ (n1 (by omega)) (s1.extBut _ _ (n1 (by omega)) e))) fun o e=>s3.extBut _ _ (n1 (by omega)) (s2.extBut _ _ (n1 (by omega)) (s1.extBut _ _ (n1 (by omega)) e))
    have z3:IsZip g3 (N+5) (N+3) (N+4) .ellipsis:=s3.extBut _ _ (n1 (by omega)) (s2.extBut _ _ (n1 (by omega)) z1);have k3:∀ (c:Nat) o,c≠N+5->c≠N+4->c≠N->s.heap.get? c=some o->g3.get? c=some o:=fun c o c1 c2 c3 t=>s3.extBut _ _ (n1 c2) (s2.extBut _ _ (n1 c3) (s1.extBut _ _ (n1 c1) t))
    cases hy:ys[k]? with
    | none =>
      refine wpAny_bind (gy hh hj3 hy fun g4 e s4 he=>?_);obtain ⟨oe,hoe,hce⟩:=he;have z4:IsZip g4 (N+5) (N+3) (N+4) .ellipsis:=s4 _ _ (n1 (by omega)) z3;have hez:e≠(N+5:Nat):=fun t=>by subst t;rw [z4] at hoe;cases hoe;simp at hce
      exact wpAny_setField_rec z4 (by simp) fun g5 _ s5=>hE g5 e (fun c o c1 c2 c3 c4 _ t=>s5.extBut _ _ (n1 c1) (s4 _ _ (n1 c4) (k3 c o c1 c2 c3 t))) ⟨oe,s5.extBut _ _ hez hoe,hce⟩
    | some y =>
      have hv:zs[k]?=none:=by
        rcases hend with t | t | t
        · rw [hx] at t;cases t
        · rw [hy] at t;cases t
        · exact t
      refine wpAny_bind (ly hj3 (n1 (by omega)) hy fun g4 j4 s4=>wpAny_pure ?_);have q4:fE g4 (N+4) x b c:=s4.extBut _ _ (n1 (by omega)) q3;refine wpAny_bind (wpAny_seqItems q4 rfl ?_);refine wpAny_bind (eJ q4 fun g5 q5 s5=>?_);refine wpAny_bind (wpAny_letGo (wpAny_pure ?_));refine wpAny_bind (wpAny_bind (wpAny_onRaise ?_));show wpAny _ _ (Builtin.SmallTypes.nextOf (Value.ref (N+2))>>=_) _ _ _;have hk5:gU g5 (N+2) o k zs:=hk.keep (fun o e=>s5.extBut _ _ (n1 (by omega)) (s4.extBut _ _ (n1 (by omega)) (k3 _ o (by omega) (by omega) (by omega) e))) fun o e=>s5.extBut _ _ (n1 (by omega)) (s4.extBut _ _ (n1 (by omega)) (k3 _ o (by omega) (by omega) (by omega) e))
      refine wpAny_bind (gy hh hk5 hv fun g6 e s6 he=>?_);obtain ⟨oe,hoe,hce⟩:=he;have z6:IsZip g6 (N+5) (N+3) (N+4) .ellipsis:=s6 _ _ (n1 (by omega)) (s5.extBut _ _ (n1 (by omega)) (s4.extBut _ _ (n1 (by omega)) z3));have hez:e≠(N+5:Nat):=fun t=>by subst t;rw [z6] at hoe;cases hoe;simp at hce
      exact wpAny_setField_rec z6 (by simp) fun g7 _ s7=>hE g7 e (fun c o c1 c2 c3 c4 c5 t=>s7.extBut _ _ (n1 c1) (s6 _ _ (n1 c5) (s5.extBut _ _ (n1 c2) (s4.extBut _ _ (n1 c4) (k3 c o c1 c2 c3 t))))) ⟨oe,s7.extBut _ _ hez hoe,hce⟩
theorem rF {x y v:Value} {Q:Option Value->Shared->Prop} (hl:l < N) (hm:m < N) (ho:o < N) (S:Z3 s.heap N l m o .none k xs ys zs) (hx:xs[k]?=some x) (hy:ys[k]?=some y) (hv:zs[k]?=some v)
    (hQ:∀ h',Z3 h' N l m o (rawInt s.heap.objs.size) (k+1) xs ys zs->fE h' s.heap.objs.size x y v->(∀ (c:Nat) o,c≠N+5->c≠N+4->c≠N->c≠N+1->c≠N+2->s.heap.get? c=some o->h'.get? c=some o)->Q (some (.ref s.heap.objs.size)) { s with heap:=h' }) :
    wpAny (model prog w) A (pyNext (.ref (N+5))) Q E s:=by
  have hT:s.TypeIs (.ref (N+5)) "zip" := ⟨_,S.zz,rfl⟩
  unfold pyNext;exact wpAny_bind (wpAny_attempt (wpAny_callSpecial?_slot (name:=Str.ofString "__next__") hT F.slot_zip_next (wpAny_call_entry F.slot_zip_next hT F.entry_zip_next (wA hl hm ho S hx hy hv fun h' a b c=>wpAny_pure (hQ h' a b c)) (F.args_zip_next_1 _))))
theorem tH {Q:Option Value->Shared->Prop} (hh:A.handled=none) (hl:l < N) (hm:m < N) (ho:o < N) (S:Z3 s.heap N l m o .none k xs ys zs) (hend:xs[k]?=none\/ys[k]?=none\/zs[k]?=none)
    (hQ:∀ h',(∀ (c:Nat) o,c≠N+5->c≠N+4->c≠N->c≠N+1->c≠N+2->s.heap.get? c=some o->h'.get? c=some o)->Q none { s with heap:=h' }):wpAny (model prog w) A (pyNext (.ref (N+5))) Q E s:=by
  have hT:s.TypeIs (.ref (N+5)) "zip" := ⟨_,S.zz,rfl⟩
  unfold pyNext;refine wpAny_bind (wpAny_attempt (wpAny_callSpecial?_slot (name:=Str.ofString "__next__") hT F.slot_zip_next (wpAny_call_entry F.slot_zip_next hT F.entry_zip_next (xu hh hl hm ho S hend fun h' e hk he=>?_) (F.args_zip_next_1 _))));obtain ⟨o,ho,hc⟩:=he;exact wpAny_bind (wpAny_isInstance (T := "StopIteration") (b:=true) ⟨o,ho,hc⟩ isSubtype_stop (wpAny_pure (hQ _ hk)))
theorem zo (l m o:Addr) (xs ys zs:Array Value):Meets (Builtin.«zip.__new__» ⟨[.type "zip",.ref l,.ref m,.ref o],[]⟩) (fun _ R s=>s.heap.IsTuple l xs/\s.heap.IsTuple m ys/\s.heap.IsTuple o zs /\
    ∀ h',h'.objs.size=s.heap.objs.size+6->Z3 h' s.heap.objs.size l m o .none 0 xs ys zs->(∀ c o,s.heap.get? c=some o->h'.get? c=some o) ->
      R (.ok (.ret (.ref (s.heap.objs.size+5)))) { s with heap:=h' }) :=
  .of_wp fun prog w A R s h=>by
    obtain ⟨hp,g,d,tk,os⟩:=s;obtain ⟨h1,h2,h3,h⟩:=h;have hsub:=sub_zip;have l1:Heap.IsTuple (Shared.heap ⟨hp,g,d,tk,os⟩) l xs:=h1;have l2:Heap.IsTuple (Shared.heap ⟨hp.push { cls:=.type "tuple_iterator",data:=.fields #[.ref l,.int 0 0] },g,d,tk,os⟩) m ys:=Heap.IsTuple.push h2 _;have l3:Heap.IsTuple (Shared.heap ⟨(hp.push { cls:=.type "tuple_iterator",data:=.fields #[.ref l,.int 0 0] }).push { cls:=.type "tuple_iterator",data:=.fields #[.ref m,.int 0 0] },g,d,tk,os⟩) o zs:=Heap.IsTuple.push (Heap.IsTuple.push h3 _) _;have fin:∀ (oi oj ok:Obj),gU (hp.push oi) hp.objs.size l 0 xs->gU ((hp.push oi).push oj) (hp.push oi).objs.size m 0 ys->gU (((hp.push oi).push oj).push ok) ((hp.push oi).push oj).objs.size o 0 zs ->
        R (.ok (.ret (.ref (((((hp.push oi).push oj).push ok).push { cls:=.type "tuple",data:=.seq #[.ref hp.objs.size,.ref (hp.push oi).objs.size,.ref ((hp.push oi).push oj).objs.size] }).push { cls:=.type "tuple",data:=.seq #[.none,.none,.none] }).objs.size)))
          ⟨(((((hp.push oi).push oj).push ok).push { cls:=.type "tuple",data:=.seq #[.ref hp.objs.size,.ref (hp.push oi).objs.size,.ref ((hp.push oi).push oj).objs.size] }).push { cls:=.type "tuple",data:=.seq #[.none,.none,.none] }).push { cls:=.type "zip",data:=.fields #[.none,.bool false,.bool false,.ref (((hp.push oi).push oj).push ok).objs.size,.ref ((((hp.push oi).push oj).push ok).push { cls:=.type "tuple",data:=.seq #[.ref hp.objs.size,.ref (hp.push oi).objs.size,.ref ((hp.push oi).push oj).objs.size] }).objs.size] },g,d,tk,os⟩:=fun oi oj ok hi hj hk=>by
      have e1:(hp.push oi).objs.size=hp.objs.size+1:=Heap.size_push ..;have e2:((hp.push oi).push oj).objs.size=hp.objs.size+2:=by rw [Heap.size_push,e1]
      rw [e2] at hk ⊢;rw [e1] at hj ⊢;generalize hT:({ cls:=.type "tuple",data:=.seq #[.ref hp.objs.size,.ref (hp.objs.size+1),.ref (hp.objs.size+2)] }:Obj)=T;have e3:(((hp.push oi).push oj).push ok).objs.size=hp.objs.size+3:=by rw [Heap.size_push,e2]
      have e4:((((hp.push oi).push oj).push ok).push T).objs.size=hp.objs.size+4:=by rw [Heap.size_push,e3]
      have e5:(((((hp.push oi).push oj).push ok).push T).push { cls:=.type "tuple",data:=.seq #[.none,.none,.none] }).objs.size=hp.objs.size+5:=by rw [Heap.size_push,e4]
      rw [e5,e4,e3];have kk:∀ (c:Addr) (o' a b c':Obj),(((hp.push oi).push oj).push ok).get? c=some o'->((((((hp.push oi).push oj).push ok).push a).push b).push c').get? c=some o':=fun c o' a b c' e=>Heap.get?_push_of_some _ (Heap.get?_push_of_some _ (Heap.get?_push_of_some _ e))
      refine h _ (by rw [Heap.size_push,e5]) ⟨?_,?_,⟨.none,.none,.none,?_⟩,?_,?_,?_⟩ fun c o' e=>kk _ _ _ _ _ (Heap.get?_push_of_some _ (Heap.get?_push_of_some _ (Heap.get?_push_of_some _ e)))
      · show Heap.get? _ (hp.objs.size+5)=_;rw [<- e5];exact Heap.get?_push_size _ rfl
      · refine Heap.get?_push_of_some _ (Heap.get?_push_of_some _ ?_);show Heap.get? _ (hp.objs.size+3)=_;rw [<- e3,hT];exact Heap.get?_push_size _ (by rw [<- hT];rfl)
      · refine Heap.get?_push_of_some _ ?_;show Heap.get? _ (hp.objs.size+4)=_;rw [<- e4];exact Heap.get?_push_size _ rfl
      · exact hi.keep (fun o' e=>kk _ _ _ _ _ (Heap.get?_push_of_some _ (Heap.get?_push_of_some _ e))) fun o' e=>kk _ _ _ _ _ (Heap.get?_push_of_some _ (Heap.get?_push_of_some _ e))
      · exact hj.keep (fun o' e=>kk _ _ _ _ _ (Heap.get?_push_of_some _ e)) fun o' e=>kk _ _ _ _ _ (Heap.get?_push_of_some _ e)
      · exact hk.keep (fun o' e=>kk _ _ _ _ _ e) fun o' e=>kk _ _ _ _ _ e
    wp_walk using wpAny_pyIter_tuple l1,wpAny_pyIter_tuple l2,wpAny_pyIter_tuple l3
    exact ⟨_,rfl,fin _ _ _ (.inr ⟨⟨_,Heap.get?_push_size _ rfl,rfl,rfl⟩,Heap.IsTuple.push h1 _⟩) (.inr ⟨⟨_,Heap.get?_push_size _ rfl,rfl,rfl⟩,Heap.IsTuple.push l2 _⟩) (.inr ⟨⟨_,Heap.get?_push_size _ rfl,rfl,rfl⟩,Heap.IsTuple.push l3 _⟩)⟩
theorem vR {Q:Value->Shared->Prop} {l m o:Addr} (h1:s.heap.IsTuple l xs) (h2:s.heap.IsTuple m ys) (h3:s.heap.IsTuple o zs)
    (h:∀ h',h'.objs.size=s.heap.objs.size+6->Z3 h' s.heap.objs.size l m o .none 0 xs ys zs->(∀ c o,s.heap.get? c=some o->h'.get? c=some o)->Q (.ref (s.heap.objs.size+5)) { s with heap:=h' }):wpAny (model prog w) A (call (.type "zip") [.ref l,.ref m,.ref o]) Q E s:=by
  refine callType_new F.called_zip (by decide) (nX _ _ _) (pe _ _ _) (fun obj=>km obj _ _ _) F.entry_zip_new (zo l m o xs ys zs) ⟨h1,h2,h3,fun h' e S k=>?_⟩;exact ⟨⟨_,S.zz,rfl⟩,h h' e S k⟩
end
section
variable {X:Cx} {pins:List (Addr×Obj)} {σ:St} {H:Hp} {s:Shared} {h':Heap}
theorem ya {t':Nat} {fp:List Addr} {u1 u2 u3:Value} {v1 v2 v3:V} (I:aP X pins σ H s) (hf:∀ b∈fp,lN X pins H b) (hob:∀ b∈fp,b < s.heap.objs.size) (ht:fE h' s.heap.objs.size u1 u2 u3) (k:∀ b o,b∉fp->s.heap.get? b=some o->h'.get? b=some o)
    (r1:bD v1 u1) (r2:bD v2 u2) (r3:bD v3 u3):aP X pins σ (cw H s.heap.objs.size (.tup [v1,v2,v3])) { s with heap:=h',toks:=t' }:=by
  have I1:aP X pins σ (cw H s.heap.objs.size (.tup [v1,v2,v3])) { s with heap:=s.heap.push { cls:=.type "tuple",data:=.seq #[u1,u2,u3] },toks:=s.toks } :=
    I.laid (fun b u e=>Heap.get?_push_of_some _ e) (Nat.le_refl _) ⟨by show 3<=sizeLine;decide,[u1,u2,u3],.cons r1 (.cons r2 (.cons r3 .nil)),_,Heap.get?_push_size _ rfl,rfl,_,rfl⟩
  refine gc (fp:=fp) (s:={ s with heap:=s.heap.push { cls:=.type "tuple",data:=.seq #[u1,u2,u3] },toks:=s.toks }) I1 (fun b o hb e=>?_) fun b hb=>?_
  · by_cases hz:b=s.heap.objs.size
    · subst hz;have e':(s.heap.push { cls:=.type "tuple",data:=.seq #[u1,u2,u3] }).get? s.heap.objs.size=some o:=e;rw [Heap.get?_push_size _ rfl] at e';cases e';exact ht
    · exact k b o hb (rU hz e)
  · obtain ⟨f0,f1,f2,f3,f4,f5⟩:=hf b hb;exact ⟨by rw [av (Nat.ne_of_lt (hob b hb))];exact f0,f1,f2,f3,f4,f5⟩
end
noncomputable def CV (K:PySem.W.Frag) (l m o:Addr):It :=
  ⟨fun i H=>∃ xs ys zs x y z,eP K H l xs/\eP K H m ys/\eP K H o zs/\xs[i]?=some x/\ys[i]?=some y/\zs[i]?=some z,
   fun i H v H'=>∃ a x y z,H a=none/\v=.ref a/\H'=cw H a (.tup [x,y,z])/\(∀ xs,eP K H l xs->xs[i]?=some x)/\(∀ ys,eP K H m ys->ys[i]?=some y)/\∀ zs,eP K H o zs->zs[i]?=some z,
   fun i H=>∃ xs ys zs,eP K H l xs/\eP K H m ys/\eP K H o zs/\(xs.length<=i\/ys.length<=i\/zs.length<=i)⟩
structure FE (N l m o:Nat) (k:Nat) (h:Heap):Prop where
  zz:IsZip h (N+5) (N+3) (N+4) .none
  pp:fE h (N+3) (.ref N) (.ref (N+1)) (.ref (N+2))
  qq:∃ a b c,fE h (N+4) a b c
  ii:h.IsTupleIter N l k
  jj:h.IsTupleIter (N+1) m k
  kk:h.IsTupleIter (N+2) o k
theorem fG {h:Heap} {i l:Addr} {k:Nat} {xs ys:Array Value} (x:gU h i l k xs) (t:h.IsTuple l ys):h.IsTupleIter i l k:=by
  rcases x with ⟨z,w⟩ | ⟨z,w⟩
  · exact (dq w t).elim
  · exact z
theorem dY {h h':Heap} {i l:Addr} {k:Nat} (x:h.IsTupleIter i l k) (hi:∀ o,h.get? i=some o->h'.get? i=some o):h'.IsTupleIter i l k:=by
  obtain ⟨o,e,r⟩:=x;exact ⟨o,hi _ e,r⟩
theorem h9 {h:Heap} {i l:Addr} {k:Nat} (x:h.IsTupleIter i l k):∃ o,h.get? i=some o/\∀ v,o.data≠.cell v:=by
  obtain ⟨o,e,c,d⟩:=x;exact ⟨o,e,fun v z=>by rw [d] at z;cases z⟩
noncomputable abbrev zJ (N:Nat):List Addr:=[N+5,N+3,N+4,N,N+1,N+2]
theorem v9 {P:Program} {w:World} {K:PySem.W.Frag} {elts:List Expr} {x1} {pos:Pos} {N l m o:Nat} (hl:l < N) (hm:m < N) (ho:o < N):rd P w K (.Tuple elts x1 pos) (CV K l m o) (zJ N) (N+5) (FE N l m o) where
  mem:=by simp
  obj:=fun k h st a ha=>by
    simp only [zJ,List.mem_cons,List.not_mem_nil,or_false] at ha;rcases ha with rfl | rfl | rfl | rfl | rfl | rfl
    · exact ⟨_,st.zz,fun v e=>by cases e⟩
    · exact ⟨_,st.pp,fun v e=>by cases e⟩
    · obtain ⟨_,_,_,e⟩:=st.qq;exact ⟨_,e,fun v e=>by cases e⟩
    · exact h9 st.ii
    · exact h9 st.jj
    · exact h9 st.kk
  keep:=fun k h h' st kp=>⟨kp (N+5) (by simp) _ st.zz,kp (N+3) (by simp) _ st.pp,let ⟨a,b,c,e⟩:=st.qq;⟨a,b,c,kp (N+4) (by simp) _ e⟩,dY st.ii fun o e=>kp N (by simp) o e,dY st.jj fun o e=>kp (N+1) (by simp) o e,dY st.kk fun o e=>kp (N+2) (by simp) o e⟩
  item:=by
    intro X hP hw hK hc k pins s σ H E I hf st hg;subst hP hw hK;obtain ⟨xs,ys,zs,x,y,z,h1,h2,h3,hx,hy,hz⟩:=hg;obtain ⟨its,rv,t1,_⟩:=I.tuple h1;obtain ⟨jts,rw',t2,_⟩:=I.tuple h2;obtain ⟨kts,rz',t3,_⟩:=I.tuple h3;obtain ⟨u,hu,ru⟩:=rv.get hx;obtain ⟨v,hv,ry⟩:=rw'.get hy;obtain ⟨q,hq,rq⟩:=rz'.get hz;have S:Z3 s.heap N l m o .none k its.toArray jts.toArray kts.toArray:=⟨st.zz,st.pp,st.qq,.inr ⟨st.ii,t1⟩,.inr ⟨st.jj,t2⟩,.inr ⟨st.kk,t3⟩⟩
    refine rF hl hm ho S (x:=u) (y:=v) (v:=q) (by simpa using hu) (by simpa using hv) (by simpa using hq) fun h' S' hp kp=>⟨_,rfl,?_⟩
    have zlt:N+5 < s.heap.objs.size:=Heap.lt_size st.zz;refine wpAny_letOwnedTupleGo_zip (s:={ s with heap:=h' }) S'.zz fun h2' hz2 sb=>?_
    have up:∀ (a:Nat) o,a≠N+5->h'.get? a=some o->h2'.get? a=some o:=fun a o ha e=>sb.extBut a o ha e
    have hob:∀ a∈zJ N,a < s.heap.objs.size:=fun a ha=>by
      have:∃ j:Nat,a=N+j/\j<=5:=by
        simp only [zJ,List.mem_cons,List.not_mem_nil,or_false] at ha;rcases ha with rfl | rfl | rfl | rfl | rfl | rfl
        · exact ⟨5,rfl,by omega⟩
        · exact ⟨3,rfl,by omega⟩
        · exact ⟨4,rfl,by omega⟩
        · exact ⟨0,rfl,by omega⟩
        · exact ⟨1,rfl,by omega⟩
        · exact ⟨2,rfl,by omega⟩
      obtain ⟨j,rfl,hj⟩:=this;exact Nat.lt_of_le_of_lt (Nat.add_le_add_left hj N) zlt
    have hn:H s.heap.objs.size=none:=I.hok.fresh (Nat.le_refl _);have kq:∀ (a:Nat) o,a < N->s.heap.get? a=some o->h'.get? a=some o:=fun a o ha e=>kp a o (by omega) (by omega) (by omega) (by omega) (by omega) e
    refine ⟨.ref s.heap.objs.size,_,ya (s:=s) (t':=s.toks) (fp:=zJ N) (h':=h2') (u1:=u) (u2:=v) (u3:=q) (v1:=x) (v2:=y) (v3:=z) I hf hob (up _ _ (Nat.ne_of_gt zlt) hp) (fun a o ha e=>?_) ru ry rq,rfl,⟨_,x,y,z,hn,rfl,rfl,fun zs hz=>by rw [I.tuple_inj hz h1];exact hx,fun zs hz=>by rw [I.tuple_inj hz h2];exact hy,fun zs hz'=>by rw [I.tuple_inj hz' h3];exact hz⟩,?_,fun a ha=>?_⟩
    · simp only [zJ,List.mem_cons,List.not_mem_nil,or_false,not_or] at ha;exact up a o ha.1 (kp a o ha.1 ha.2.2.1 ha.2.2.2.1 ha.2.2.2.2.1 ha.2.2.2.2.2 e)
    · have i2:h'.IsTupleIter N l (k+1):=fG S'.ii (ys:=its.toArray) (by obtain ⟨o,e,r⟩:=t1;exact ⟨o,kq _ _ hl e,r⟩);have j2:h'.IsTupleIter (N+1) m (k+1):=fG S'.jj (ys:=jts.toArray) (by obtain ⟨o,e,r⟩:=t2;exact ⟨o,kq _ _ hm e,r⟩);have k2:h'.IsTupleIter (N+2) o (k+1):=fG S'.kk (ys:=kts.toArray) (by obtain ⟨o,e,r⟩:=t3;exact ⟨o,kq _ _ ho e,r⟩);exact ⟨hz2,up _ _ (by omega) S'.pp,let ⟨a,b,c,e⟩:=S'.qq;⟨a,b,c,up _ _ (by omega) e⟩,dY i2 fun o e=>up _ _ (by omega) e,dY j2 fun o e=>up _ _ (by omega) e,dY k2 fun o e=>up _ _ (by omega) e⟩
    · rw [av (Nat.ne_of_lt (hob a ha))];exact (hf a ha).1
  done:=by
    intro X hP hw hK hc k pins s σ H E I hf st hg;subst hP hw hK;obtain ⟨xs,ys,zs,h1,h2,h3,hle⟩:=hg;obtain ⟨its,rv,t1,_⟩:=I.tuple h1;obtain ⟨jts,rw',t2,_⟩:=I.tuple h2;obtain ⟨kts,rz',t3,_⟩:=I.tuple h3;have S:Z3 s.heap N l m o .none k its.toArray jts.toArray kts.toArray:=⟨st.zz,st.pp,st.qq,.inr ⟨st.ii,t1⟩,.inr ⟨st.jj,t2⟩,.inr ⟨st.kk,t3⟩⟩
    have e1:=rv.length;have e2:=rw'.length;have e3:=rz'.length;refine tH (I.ok.hd hc) hl hm ho S ?_ fun h' kp=>⟨rfl,gc (t':=s.toks) (fp:=zJ N) I (fun a o ha e=>?_) hf⟩
    · rcases hle with z | z | z
      · left;simp;omega
      · right;left;simp;omega
      · right;right;simp;omega
    · simp only [zJ,List.mem_cons,List.not_mem_nil,or_false,not_or] at ha;exact kp a o ha.1 ha.2.2.1 ha.2.2.2.1 ha.2.2.2.2.1 ha.2.2.2.2.2 e
  self:=fun _ _ _ _ _ st h=>wpAny_pyIter_zip st.zz h
noncomputable def ge:List PyData->List PyData->List PyData->List PyData
  | x::xs,y::ys,z::zs=>.tuple [x,y,z]::ge xs ys zs
  | _,_,_=>[]
theorem p0:∀ {xs ys zs:List PyData} {i:Nat} {d:PyData},(ge xs ys zs)[i]?=some d->∃ x y z,xs[i]?=some x/\ys[i]?=some y/\zs[i]?=some z/\d=.tuple [x,y,z]
  | x::xs,y::ys,z::zs,0,d,h=>by
    simp only [ge,List.getElem?_cons_zero] at h;cases h;exact ⟨x,y,z,rfl,rfl,rfl,rfl⟩
  | x::xs,y::ys,z::zs,i+1,d,h=>by
    simp only [ge,List.getElem?_cons_succ] at h;obtain ⟨a,b,c,h1,h2,h3,h4⟩:=p0 h;exact ⟨a,b,c,by simpa using h1,by simpa using h2,by simpa using h3,h4⟩
  | [],_,_,i,d,h=>by simp [ge] at h
  | _::_,[],_,i,d,h=>by simp [ge] at h
  | _::_,_::_,[],i,d,h=>by simp [ge] at h
theorem l6:∀ (xs ys zs:List PyData),(ge xs ys zs).length=min xs.length (min ys.length zs.length)
  | x::xs,y::ys,z::zs=>by simp only [ge,List.length_cons,l6 xs ys zs];omega
  | [],_,_=>by simp [ge]
  | _::_,[],_=>by simp [ge]
  | _::_,_::_,[]=>by simp [ge]
noncomputable def uO (H:Hp) (a:Addr) (ds:List PyData):Prop:=∃ vs,H a=some (.tup vs)/\bx H ds vs
theorem uO.kp {H H':Hp} {a:Addr} {ds:List PyData} (h:uO H a ds) (k:Kp H H'):uO H' a ds:=by
  obtain ⟨vs,e,r⟩:=h;exact ⟨vs,k.1 _ _ e,bx.kp k _ _ r⟩
theorem xP {K:PySem.W.Frag} {l m o:Addr} {xs ys zs:List PyData}:zK (CV K l m o) (fun H=>uO H l xs/\uO H m ys/\uO H o zs) (ge xs ys zs) where
  go:=fun i H ⟨⟨vs,e1,r1⟩,⟨us,e2,r2⟩,⟨ws,e3,r3⟩⟩ hi=>by
    rw [l6] at hi;obtain ⟨x,hx,_⟩:=r1.get (List.getElem?_eq_getElem (show i < xs.length by omega));obtain ⟨y,hy,_⟩:=r2.get (List.getElem?_eq_getElem (show i < ys.length by omega));obtain ⟨z,hz,_⟩:=r3.get (List.getElem?_eq_getElem (show i < zs.length by omega));exact ⟨vs,us,ws,x,y,z,eP.of e1,eP.of e2,eP.of e3,hx,hy,hz⟩
  yld:=fun i H v H' d ⟨⟨vs,e1,r1⟩,⟨us,e2,r2⟩,⟨ws,e3,r3⟩⟩ hd h=>by
    obtain ⟨a,x,y,z,ha,rfl,rfl,k1,k2,k3⟩:=h;obtain ⟨dx,dy,dz,g1,g2,g3,rfl⟩:=p0 hd;obtain ⟨x',hx,px⟩:=r1.get g1;obtain ⟨y',hy,py⟩:=r2.get g2;obtain ⟨z',hz,pz⟩:=r3.get g3;have q1:=k1 vs (eP.of e1);have q2:=k2 us (eP.of e2);have q3:=k3 ws (eP.of e3);rw [hx] at q1;rw [hy] at q2;rw [hz] at q3;cases q1;cases q2;cases q3;exact ⟨cf ha _,dl ha (bx.cons px (bx.cons py (bx.cons pz bx.nil)))⟩
  stop:=fun i H ⟨⟨vs,e1,r1⟩,⟨us,e2,r2⟩,⟨ws,e3,r3⟩⟩ hi=>by
    rw [l6] at hi;have l1:=r1.length;have l2:=r2.length;have l3:=r3.length;exact ⟨vs,us,ws,eP.of e1,eP.of e2,eP.of e3,by omega⟩
theorem CK {a b c:V} {us:List Value} (r:bA [a,b,c] us):∃ u v w,us=[u,v,w]/\bD a u/\bD b v/\bD c w:=by
  cases r with
  | cons r1 r =>
    cases r with
    | cons r2 r =>
      cases r with
      | cons r3 r =>
        cases r;exact ⟨_,_,_,rfl,r1,r2,r3⟩
section
variable {X:Cx} {elts:List Expr} {x1:Nat} {tp:Pos} {a b c:Expr} {fa fb fc:Fe} {pos p:Pos} {nl:Nat} {G:List Str} {fs:aQ->R (List PyData)}
noncomputable def Fq (K:PySem.W.Frag) (ta:TA):TI:=fun σ H R=>ta σ H fun vs H1=>∃ l m o xs ys zs,vs=[.ref l,.ref m,.ref o]/\eP K H1 l xs/\eP K H1 m ys/\eP K H1 o zs/\R (CV K l m o) H1
theorem Be {ta:TA} (hg:Gl X "zip") (hm:X.mg "zip" = none) (ha:PA X [a,b,c] ta) (hs:starEach [a,b,c] X.env=(false,eval a X.env)::starEach [b,c] X.env) (hs2:(backTo pos (starEach [b,c] X.env)).any (·.1)=false) :
    PI X (.Tuple elts x1 tp) (.Call (.Name "zip" p) [a,b,c] [] pos) (Fq X.K ta):=by
  intro pins s σ H R I h;refine Call_ (iX I hg hm boot_zip (PyProof.Rows.callWith_type1 (dg (ha pos pins s σ H _ I h) fun us s1 ⟨vs,H1,I1,r1,q1⟩=>?_) hs hs2));obtain ⟨l,m,o,xs,ys,zs,e,h1,h2,h3,q⟩:=q1;subst e;obtain ⟨u,v,w,rfl,ru,rv,rw'⟩:=CK r1;cases ru;cases rv;cases rw';obtain ⟨its,w1,p1,g1⟩:=I1.tuple h1;obtain ⟨jts,w2,p2,g2⟩:=I1.tuple h2;obtain ⟨kts,w3,p3,g3⟩:=I1.tuple h3;have ll:l < s1.heap.objs.size:=by obtain ⟨o,e,_⟩:=p1;exact Heap.lt_size e
  have lm:m < s1.heap.objs.size:=by obtain ⟨o,e,_⟩:=p2;exact Heap.lt_size e
  have lo:o < s1.heap.objs.size:=by obtain ⟨o,e,_⟩:=p3;exact Heap.lt_size e
  refine vR p1 p2 p3 fun h' hz S kp=>wpAny_pyIter_zip S.zz ?_
  have I2:aP X pins σ H1 { s1 with heap:=h' }:=I1.kept (t':=s1.toks) kp;have kt:∀ {l:Addr} {xs:Array Value},s1.heap.IsTuple l xs->h'.IsTuple l xs:=fun ⟨o,e,r⟩=>⟨o,kp _ _ e,r⟩
  refine ⟨_,zJ s1.heap.objs.size,_,_,H1,rfl,I2,v9 ll lm lo,⟨S.zz,S.pp,S.qq,fG S.ii (kt p1),fG S.jj (kt p2),fG S.kk (kt p3)⟩,fun a ha=>?_,q⟩;have hle:s1.heap.objs.size<=a:=by
    simp only [zJ,List.mem_cons,List.not_mem_nil,or_false] at ha;rcases ha with rfl | rfl | rfl | rfl | rfl | rfl
    · exact Nat.le_add_right _ 5
    · exact Nat.le_add_right _ 3
    · exact Nat.le_add_right _ 4
    · exact Nat.le_refl _
    · exact Nat.le_add_right _ 1
    · exact Nat.le_add_right _ 2
  exact I1.fpOk hle (I1.hok.fresh hle)
noncomputable def mX:PyData->R (List PyData)
  | .tuple ds=>.ok ds
  | _=>.no
noncomputable def sV (fa fb fc:Fe):aQ->R (List PyData):=fun ρ=>fa ρ>>=fun x=>fb ρ>>=fun y=>fc ρ>>=fun z=>mX x>>=fun xs=>mX y>>=fun ys=>mX z>>=fun zs=>.ok (ge xs ys zs)
theorem qF {H:Hp} {d:PyData} {v:V} {ds:List PyData} (h:Rp H d v) (e:mX d=.ok ds):∃ a,v=.ref a/\uO H a ds:=by
  cases d with
  | tuple xs =>
    cases e;simp only [Rp] at h;obtain ⟨a,vs,rfl,h,r⟩:=h;exact ⟨a,rfl,vs,h,r⟩
  | _=>cases e
theorem qg {d:PyData} {c:Str} (e:mX d=.ex c):False:=by cases d <;> cases e
theorem wF (T:Tb X nl G) (j:Nat) (hG:G[j]?=some ("zip" : Str)) (hm:X.mg "zip" = none) (ha:Z.cx X a fa) (hb:Z.cx X b fb) (hc:Z.cx X c fc) (h1:aT a=true:=by rfl) (h2:aT b=true:=by rfl) (h3:aT c=true:=by rfl):Z.sY X (.Tuple elts x1 tp) (.Call (.Name "zip" p) [a,b,c] [] pos) (sV fa fb fc):=⟨have ha:=ha.un;have hb:=hb.un;have hc:=hc.un;by
  have g:=T.gl _ (List.mem_of_getElem? hG);refine PI.imp (Be g.1 hm (fN ha (fN hb (fN hc kG h3) h2) h1) (bo h1) (by rw [bo h2,bo h3];rfl)) fun σ H Rk h=>?_
  obtain ⟨ρ,sl,q⟩:=h;unfold sV at q;refine ⟨ρ,sl,?_⟩;unfold ah aI;cases e1:fa ρ with
  | ex c=>rw [e1] at q;exact q
  | no=>rw [e1] at q;exact q
  | ok x =>
    rw [e1] at q;simp only [R.ok_bind] at q ⊢;cases e2:fb ρ with
    | ex c=>rw [e2] at q;exact q
    | no=>rw [e2] at q;exact q
    | ok y =>
      rw [e2] at q;simp only [R.ok_bind] at q ⊢;cases e3:fc ρ with
      | ex c=>rw [e3] at q;exact q
      | no=>rw [e3] at q;exact q
      | ok z =>
        rw [e3] at q;simp only [R.ok_bind] at q ⊢;cases g1:mX x with
        | ex c=>exact (qg g1).elim
        | no=>rw [g1] at q;exact q.elim
        | ok xs =>
          rw [g1] at q;simp only [R.ok_bind] at q;cases g2:mX y with
          | ex c=>exact (qg g2).elim
          | no=>rw [g2] at q;exact q.elim
          | ok ys =>
            rw [g2] at q;simp only [R.ok_bind] at q;cases g3:mX z with
            | ex c=>exact (qg g3).elim
            | no=>rw [g3] at q;exact q.elim
            | ok zs =>
              rw [g3] at q;simp only [R.ok_bind] at q;intro vs H1 s1 ra;simp only [RA] at ra;obtain ⟨v,r',rfl,p1,v',r'',rfl,p2,v'',r3,rfl,p3,rfl⟩:=ra;obtain ⟨l,rfl,d1⟩:=qF p1 g1;obtain ⟨m,rfl,d2⟩:=qF p2 g2;obtain ⟨o,rfl,d3⟩:=qF p3 g3;obtain ⟨us,u1,_⟩:=id d1;obtain ⟨ws,u2,_⟩:=id d2;obtain ⟨ts,u3,_⟩:=id d3;exact ⟨l,m,o,us,ws,ts,rfl,eP.of u1,eP.of u2,eP.of u3,q _ H1 s1 ⟨_,xP,fun H2 k _=>⟨d1.kp k,d2.kp k,d3.kp k⟩⟩⟩⟩
end
noncomputable def t5 (i j k:Nat):PyData->aQ->Option aQ
  | .tuple [x,y,z],ρ=>some (((ρ.set i (.val x)).set j (.val y)).set k (.val z))
  | _,_=>none
section
variable {X:Cx} {nl:Nat} {G:List Str} {x y z:Str} {kx:Nat} {p1 p2 p3 pos:Pos}
theorem yc (T:Tb X nl G) (i j k:Nat) (hi:(X.N.take nl)[i]?=some x) (hj:(X.N.take nl)[j]?=some y) (hk:(X.N.take nl)[k]?=some z):Z.sW X (.Tuple [.Name x p1,.Name y p2,.Name z p3] kx pos) (t5 i j k):=⟨by
  obtain ⟨i1,i2,i3⟩:=T.nm hi;obtain ⟨j1,j2,j3⟩:=T.nm hj;obtain ⟨k1,k2,k3⟩:=T.nm hk;refine PG.imp (xE T.calm (jD (jU T.nd i1 i2 i3) (jD (jU T.nd j1 j2 j3) (jD (jU T.nd k1 k2 k3) vf)))) fun v σ H Q ⟨ρ,d,sl,p,q⟩=>?_
  unfold t5 at q;split at q
  · rename_i e;split at e
    · rename_i ρ0 dx dy dz;cases e;simp only [Rp] at p;obtain ⟨a,vs,rfl,ha,r⟩:=p;obtain ⟨u,r1,rfl,pu,r⟩:=r.cons_inv;obtain ⟨w,r2,rfl,pw,r⟩:=r.cons_inv;obtain ⟨t,r3,rfl,pt,r⟩:=r.cons_inv;rw [r.nil_inv] at ha;refine ⟨a,[u,w,t],rfl,eP.of ha,rfl,u,[w,t],rfl,w,[t],rfl,t,[],rfl,rfl,?_⟩;refine q _ (Sl.set (c:=.val dz) (o:=some t) (Sl.set (c:=.val dy) (o:=some w) (Sl.set (c:=.val dx) (o:=some u) sl i ⟨u,rfl,pu⟩) j ⟨w,rfl,pw⟩) k ⟨t,rfl,pt⟩) fun n e h=>?_
      obtain ⟨n1,h⟩:=bX (fun e z=>by cases z) h;obtain ⟨n2,h⟩:=bX (fun e z=>by cases z) h;obtain ⟨n3,h⟩:=bX (fun e z=>by cases z) h;exact ⟨h,by rw [List.getElem?_set,if_neg n1,List.getElem?_set,if_neg n2,List.getElem?_set,if_neg n3]⟩
    · cases e
  · exact q.elim⟩
end
section
variable {X:Cx} {nl:Nat} {G:List Str} {x:Str} {e:Expr} {f:Fe} {q1 q2 q3 q4:Pos}
theorem eY (T:Tb X nl G) (n:Nat) (hN:X.N[n]?=some x) (he:Z.cx X e f) (hst:aT e=true:=by rfl) (hline:(q2.endLine==q3.line)=true:=by rfl) (hs:swapsWith (.Call (.Attribute (.Name x q1) "append" q2) [e] [] q3) none q4.line X.env=pure false:=by rfl) (hbase:attributeBase (.Name x q1) "append" X.env (eval (.Name x q1) X.env)=eval (.Name x q1) X.env:=by rfl):Z.kN X (.Expr (.Call (.Attribute (.Name x q1) "append" q2) [e] [] q3) q4) (cO n f):=⟨have he:=he.un;fun Fm=>by
  have hm:=T.vis x (List.mem_of_getElem? hN);have sc:starEach [e] X.env=(false,eval e X.env)::starEach [] X.env:=bo hst;refine PS.imp (Bc (Br PySem.F.plainAttrs_list PySem.F.slot_list_append PySem.F.type_list_append pG (lY hN hm.1 hm.2.1 hm.2.2) (fN he kG hst) hbase (by rw [sc];rfl) hline sc rfl) hs) fun D σ H h=>?_
  obtain ⟨ρ,sl,q⟩:=h;unfold cO at q;cases ef:f ρ with
  | ex c=>rw [ef] at q;exact q.elim
  | no=>rw [ef] at q;exact q.elim
  | ok d =>
    rw [ef] at q;simp only [mw,R.ok_bind] at q;cases er:ρ[n]? with
    | none=>rw [er] at q;exact q.elim
    | some c =>
      rw [er] at q;cases c with
      | non=>exact q.elim
      | exc p=>exact q.elim
      | val d'=>exact q.elim
      | own d' =>
        cases d' with
        | list ds =>
          dsimp only at q;by_cases hz:ds.length < sizeLine
          · rw [if_pos hz] at q;obtain ⟨o,h2,w',rfl,p2⟩:=sl.sl.at er;simp only [i9] at p2;obtain ⟨a',vs,rfl,ha,r⟩:=p2;refine ⟨.ref a',h2,.inl ⟨rfl,_,nk.of ha⟩,ρ,sl.sl,?_⟩;unfold ah aI;rw [ef];intro us H1 s1 ra;simp only [RA] at ra;obtain ⟨v,r',rfl,p1,rfl⟩:=ra;have ha1:=s1 _ _ ha;refine ⟨a',vs,v,rfl,rfl,ha1,by rw [r.length];exact hz,q _ _ ((sl.mono s1).change er h2 ha1 (.inl ⟨_,rfl⟩) ?_)⟩;simp only [i9];exact ⟨a',_,rfl,bi,bx.kp (gA ha1 (.inl ⟨_,rfl⟩)) _ _ (bx.append (r.mono s1) (bx.cons p1 bx.nil))⟩
          · rw [if_neg hz] at q;exact q.elim
        | _=>exact q.elim⟩
end
noncomputable def iA (g:Fs):Fs:=fun ρ=>mw (g ρ)
theorem Tb.nox {X:Cx} {nl:Nat} {G:List Str} (T:Tb X nl G):Tb X.nox nl G:=⟨T.hu,T.calm,T.nd,T.vis,T.loc,T.gl⟩
section
variable {X:Cx} {nl:Nat} {G:List Str} {st:Stmt} {g:Fs} {pos:Pos}
theorem cJ (h:Z.kN X.nox st g):Z.kN X st (iA g):=⟨have h:=h.un;fun Fm=>by
  intro pins s σ H D I ⟨ρ,sl,q⟩;refine wpAny_mono (h Fm pins s σ H D (I.wish _) ⟨ρ,sl,?_⟩) (fun _ _ q=>q.unwish) fun _ _ z=>False.elim z
  unfold iA at q;cases e:g ρ with
  | ok o =>
    rw [e] at q;cases o <;> exact q
  | ex c=>rw [e] at q;exact q.elim
  | no=>rw [e] at q;exact q.elim⟩
noncomputable def de (t:aQ->R Bool) (g:Fs):Nat->Fs
  | 0,_=>.no
  | n+1,ρ=>t ρ>>=fun b=>if b=true then g ρ>>=fun o=>(match o with
      | .nx ρ2=>de t g n ρ2
      | .ct ρ2=>de t g n ρ2
      | .bk ρ2=>.ok (.nx ρ2)
      | .rt r=>.ok (.rt r)) else .ok (.nx ρ)
noncomputable def ql (n:Nat) (t:aQ->R Bool) (g:Fs):Fs:=de t g n
theorem kD {c:Expr} {body:List Stmt} {t:aQ->R Bool} (n:Nat) (hp:PassesOwn (model X.prog X.w) X.A X.env X.xe) (ht:Z.ny X c t) (hb:Z.lV X body g):Z.kN X (.While c body [] pos) (ql n t g):=⟨have ht:=ht.un;have hb:=hb.un;fun Fm=>by
  refine PS.imp (x6 hp ht (hb Fm)) fun D σ H ⟨ρ,sl,q⟩=>⟨fun m σ' H'=>∃ ρ',iY Fm H' σ' ρ'/\Az X Fm (de t g m ρ') D,⟨n,ρ,sl,q⟩,fun m σ1 H1 ⟨ρ1,sl1,q1⟩=>?_⟩
  cases m with
  | zero=>exact q1.elim
  | succ k =>
    have q2:By X Fm (fun ρ=>t ρ>>=fun b=>if b=true then g ρ>>=fun o=>(match o with
      | .nx ρ2=>de t g k ρ2
      | .ct ρ2=>de t g k ρ2
      | .bk ρ2=>.ok (.nx ρ2)
      | .rt r=>.ok (.rt r)) else .ok (.nx ρ)) D σ1 H1:=⟨ρ1,sl1,q1⟩
    refine (vg (f:=t) (k:=fun ρ b=>if b=true then g ρ>>=fun o=>(match o with
      | .nx ρ2=>de t g k ρ2
      | .ct ρ2=>de t g k ρ2
      | .bk ρ2=>.ok (.nx ρ2)
      | .rt r=>.ok (.rt r)) else .ok (.nx ρ)) q2).post fun b H2 ⟨ρ2,sl2,_,q3⟩=>?_
    cases b with
    | false=>exact q3 σ1 H2 sl2
    | true =>
      have q4:Az X Fm (g ρ2>>=fun o=>(match o with
      | .nx ρ2=>de t g k ρ2
      | .ct ρ2=>de t g k ρ2
      | .bk ρ2=>.ok (.nx ρ2)
      | .rt r=>.ok (.rt r))) D:=q3
      show if true=true then _ else _
      rw [if_pos rfl];refine ⟨fun σ' H'=>∃ ρ',iY Fm H' σ' ρ'/\Az X Fm (de t g k ρ') D,fun σ' H' z=>⟨k,Nat.lt_succ_self k,z⟩,ρ2,sl2,?_⟩;cases eg:g ρ2 with
      | ex c=>rw [eg] at q4;exact q4
      | no=>rw [eg] at q4;exact q4
      | ok o =>
        rw [eg] at q4;cases o with
        | nx ρ4=>exact fun σ' H' s'=>⟨ρ4,s',q4⟩
        | ct ρ4=>exact fun σ' H' s'=>⟨ρ4,s',q4⟩
        | bk ρ4=>exact q4
        | rt r=>exact q4⟩
end
abbrev Bl:List Value:=[.type "ValueError",.type "Exception",.type "BaseException",.type "object"]
abbrev Av:String := "ValueError.__new__"
section
variable {K:PySem.W.Frag} {h:Heap} {C:Addr}
noncomputable def DA (h:Heap) (C:Addr) (bm:List Value):Prop:=∃ N nm q bs hdct sn sub ab col dd k0 k1 k2 k3 k5 mN,h.get? C=some (excClassObj nm q C N bs bm hdct sn sub ab col dd k0 k1 k2 k3 k5 Av)/\h.Ns N mN/\mN "__init__" = none/\OwnTail h Bl bm
noncomputable def uf (K:PySem.W.Frag) (C:Addr):List Value:=match K.lookup C with
  | some ⟨_,_,.cls cd,_⟩=>cd.mro.drop 1
  | _=>[]
theorem xK (X:K.In h) (q:PySem.W.excIn K C Bl Av=true):DA h C (uf K C):=by
  unfold PySem.W.excIn at q;unfold uf;cases hk:K.lookup C with
  | none=>rw [hk] at q;cases q
  | some ob =>
    rw [hk] at q;split at q
    · rename_i dd cd sl ho;cases ho;split at q
      · rename_i C' bm k0 k1 k2 k3 n k5 hm hs;simp only [Bool.not_eq_true',beq_iff_eq,Bool.and_eq_true] at q;obtain ⟨⟨⟨⟨⟨e1,e2⟩,hdel⟩,ht⟩,hok⟩,hni⟩:=q;subst e1;subst e2;obtain ⟨nm,bs,mro,ns,qn,hd,sn,sub,ab,col,del⟩:=cd;dsimp only at hm hdel hok hni ⊢;subst hm;subst hdel;have hsl:sl=#[k0,k1,k2,k3,some (.builtin Av),k5]:=by
          obtain ⟨l⟩:=sl;simp only at hs;rw [hs]
        subst hsl;exact ⟨ns,nm,qn,bs,hd,sn,sub,ab,col,dd,k0,k1,k2,k3,k5,_,X _ _ hk,.of_isNs (PySem.W.isNs_of_in X hok),PySem.W.nsMap_none_of_in X hok hni,PySem.W.tail_of_in X ht⟩
      · cases q
    · cases q
end
noncomputable def lT (x:Str) (f:Fe):Fs:=fun ρ=>mw (f ρ)>>=fun _=>.ex x
section
variable {X:Cx} {nl:Nat} {G:List Str} {x:Str} {e:Expr} {f:Fe} {np cp pos:Pos} {C:Addr}
theorem iU (T:Tb X nl G) (j:Nat) (hG:G[j]?=some x) (hm:X.mg x=some (.ref C)) (hq:PySem.W.excIn X.K C Bl Av=true) (he:Z.cx X.nox e f) (hst:aT e=true:=by rfl):Z.kN X (.Raise (some (.Call (.Name x np) [e] [] cp)) none pos) (lT x f):=⟨have he:=he.un;fun Fm=>by
  intro pins s σ H D I ⟨ρ,sl,q⟩;have hg:=T.gl x (List.mem_of_getElem? hG);have sc:starEach [e] X.env=(false,eval e X.env)::starEach [] X.env:=bo hst;obtain ⟨N,nm,qn,bs,hdct,sn,sub,ab,col,dd,k0,k1,k2,k3,k5,mN,hC,hN,hni,TL⟩:=xK (I.ok.mod.kin) hq;unfold lT at q;cases ef:f ρ with
  | ex c=>rw [ef] at q;exact q.elim
  | no=>rw [ef] at q;exact q.elim
  | ok d =>
    rw [ef] at q;simp only [mw,R.ok_bind] at q;refine wpAny_Raise_call_subT (C:=C) (nm:=nm) (q:=qn) (N:=N) (bs:=bs) (bm:=uf X.K C) (hdct:=hdct) (sn:=sn) (sub:=sub) (ab:=ab) (col:=col) (dd:=dd) (k0:=k0) (k1:=k1) (k2:=k2) (k3:=k3) (k5:=k5) PySem.F.excBase_ValueError (mN:=mN) (TL.hasType rfl) (I.ok.hd T.calm) (by rw [sc];rfl) hni (nA I hg.1 hm ⟨rfl,?_⟩ hg.2.1);rw [sc];refine Calls.evalArgs_plain (wpAny_mono ?_ (fun vs s2 z=>⟨rfl,z⟩) fun _ _ y=>y);have ha:PA X.nox [e] (xD X.nox Rp (ah f aI)):=fN he kG hst;have hw:=ha cp pins s σ H (fun vs H'=>vs.length=1/\aF H H') (I.wish _) ⟨ρ,sl.sl,by
      unfold ah aI;rw [ef];intro vs H' s' ra;simp only [RA] at ra;obtain ⟨v,r,rfl,_,rfl⟩:=ra;exact ⟨rfl,s'⟩⟩
    rw [show (X.nox.env)=X.env from rfl,sc] at hw;refine wpAny_mono hw (fun us s2 ⟨vs,H2,I2,r2,hl,s12⟩=>?_) fun _ _ z=>False.elim z
    have I2:=I2.unwish;have hlen:us.length=1:=by rw [<- r2.length];exact hl
    exact ⟨by rw [hlen];decide,I2.bk _ _ hC,hN.keeps I2.bk,TL.keeps I2.bk,fun h' p mk=>q.2 C hm pins σ H2 s2 (sl.fm.trans s12) I2 h' p us mk⟩⟩
end
noncomputable def Xh (X:Cx) (p:Addr) (ob:Obj):Cx:={ X with A:=X.A.mark (some (.ref p)),calm:=false,xe:=fun _ _=>False,pn:=(p,ob)::X.pn }
structure FW (X:Cx) (nl:Nat) (G:List Str):Prop where
  hu:X.A.units+64 < cLine
  nd:X.N.Nodup
  vis:∀ x∈X.N,BM X.env.scope x/\(x==("__debug__" : Str))=false/\(x==("__classdict__" : Str))=false
  loc:∀ x∈X.N.take nl,Bu X.env.scope x/\(X.fn x=true\/X.env.scope.names.lookup x=some .local)
  gl:∀ x∈G,Gl X x/\(x==("__debug__" : Str))=false/\x≠("__name__" : Str)
theorem Tb.h {X:Cx} {nl:Nat} {G:List Str} (T:Tb X nl G) (p:Addr) (ob:Obj):FW (Xh X p ob) nl G:=⟨T.hu,T.nd,T.vis,T.loc,T.gl⟩
noncomputable def FT (X:Cx) (C:Addr) (hs:List ExceptHandler) (F:Addr->aQ->R PyData):Prop :=
  ∀ (pins:List (Addr×Obj)) (σ:St) (Hc H:Hp) (sc s:Shared) (p:Addr) (Fm:Hp) (ρ:aQ) (D:rS),aP X pins σ Hc sc->Cs X.prog X.w X.stack Hc sc C H (.ref p) s->iY Fm H σ ρ ->
    (match F p ρ with
      | .ok d=>∀ v H',aF Fm H'->Rp H' d v->D.rt v H'
      | _=>False)->wpAny (model X.prog X.w) X.A (handleBy (.ref p) X.env hs) (SP X pins D) X.xe s
noncomputable abbrev Hs:=List (Str×(Addr->aQ->R PyData))
inductive wZ (X:Cx) (src:List ExceptHandler):Hs->Prop
  | nil:wZ X src []
  | cons {c:Str} {C:Addr} {h:Addr->aQ->R PyData} {hs:Hs} (hm:X.mg c=some (.ref C)) (he:FT X C src h) (r:wZ X src hs):wZ X src ((c,h)::hs)
theorem wZ.at {X:Cx} {src:List ExceptHandler} {c:Str} {h:Addr->aQ->R PyData}:∀ {hs:Hs},wZ X src hs->hs.lookup c=some h->∃ C,X.mg c=some (.ref C)/\FT X C src h
  | _,.nil,e=>by cases e
  | _,.cons (c:=c') hm he r,e=>by
    rw [List.lookup_cons] at e;split at e
    · rename_i q;have:c=c':=by simpa using q
      subst this;cases e;exact ⟨_,hm,he⟩
    · exact wZ.at r e
section
variable {X:Cx} {a b c:Expr} {fa fb fc:Fe} {pos p2:Pos} {nl:Nat} {G:List Str} {x:Str} {p:Pos}
theorem ve:∀ {xs:List V} {vs:List Value},vs.length=xs.length->(∀ (j:Nat) (v:Value),vs[j]?=some v->∃ x,xs[j]?=some x/\bD x v)->bA xs vs
  | [],[],_,_=>.nil
  | [],_::_,e,_=>by cases e
  | _::_,[],e,_=>by cases e
  | x::xs,v::vs,e,h=>by
    obtain ⟨y,e1,r⟩:=h 0 v rfl;cases e1;exact .cons r (ve (by simpa using e) fun j u hu=>by
      obtain ⟨z,e2,r2⟩:=h (j+1) u (by simpa using hu);exact ⟨z,by simpa using e2,r2⟩)
end
noncomputable def oE (p:Int->Int->Bool) (n:Int) (ns:List Int):Int:=ns.foldl (fun a b=>if p b a=true then b else a) n
theorem kB {p:Int->Int->Bool} {le:Int->Int->Prop} (h1:∀ a b,p b a=true->le b a) (h2:∀ a b,¬ p b a=true->le a b) (tr:∀ a b c,le a b->le b c->le a c) (rf:∀ a,le a a):∀ (ns:List Int) (n:Int),oE p n ns∈n::ns/\∀ a∈n::ns,le (oE p n ns) a
  | [],n=>⟨by simp [oE],fun a ha=>by simp at ha;subst ha;exact rf _⟩
  | m::ns,n=>by
    obtain ⟨g1,g2⟩:=kB h1 h2 tr rf ns (if p m n=true then m else n);have e:oE p n (m::ns)=oE p (if p m n=true then m else n) ns:=rfl;rw [e];refine ⟨?_,fun a ha=>?_⟩
    · rcases List.mem_cons.mp g1 with z | z
      · rw [z];split <;> simp
      · exact List.mem_cons_of_mem _ (List.mem_cons_of_mem _ z)
    · have k:=g2 _ List.mem_cons_self;rcases List.mem_cons.mp ha with rfl | ha
      · refine tr _ _ _ k ?_;split
        · rename_i z;exact h1 _ _ z
        · exact rf _
      · rcases List.mem_cons.mp ha with rfl | ha
        · refine tr _ _ _ k ?_;split
          · exact rf _
          · rename_i z;exact h2 _ _ z
        · exact g2 a (List.mem_cons_of_mem _ ha)
noncomputable def yB (n:Int) (ns:List Int):Int:=oE (fun b a=>decide (b < a)) n ns
noncomputable def uJ (n:Int) (ns:List Int):Int:=oE (fun b a=>decide (a < b)) n ns
theorem wb (n:Int) (ns:List Int):yB n ns∈n::ns/\∀ a∈n::ns,yB n ns<=a :=
  kB (le:=(·<=·)) (fun a b h=>by simp at h;omega) (fun a b h=>by simp at h;omega) (fun a b c=>Int.le_trans) Int.le_refl ns n
theorem pC (n:Int) (ns:List Int):uJ n ns∈n::ns/\∀ a∈n::ns,a<=uJ n ns :=
  kB (le:=fun a b=>b<=a) (fun a b h=>by simp at h;omega) (fun a b h=>by simp at h;omega) (fun a b c h1 h2=>Int.le_trans h2 h1) Int.le_refl ns n
section
variable {X:Cx} {a b c:Expr} {fa fb fc:Fe} {pos p2:Pos} {nl:Nat} {G:List Str} {x:Str} {p:Pos}
theorem kL:∀ {its:List Value} {ns:List Int},IntsAre its ns->∃ ys:List (Int×Tok),its=ys.map (fun p=>Value.int p.1 p.2)/\ys.map (·.1)=ns
  | _,_,.nil=>⟨[],rfl,rfl⟩
  | _,_,.cons n t h=>by
    obtain ⟨ys,e1,e2⟩:=kL h;exact ⟨(n,t)::ys,by rw [List.map_cons,e1],by rw [List.map_cons,e2]⟩
theorem Dj (hc:X.calm=true):dW X (.builtin "min") (fun xs H Q=>∃ p n ns,xs=[.ref p]/\nk X.K H p ((n::ns).map V.int)/\Q (.int (yB n ns)) H):=by
  intro pins s σ H xs us Q I r h;obtain ⟨p,n,ns,rfl,hq,q⟩:=h;obtain ⟨u,rfl,rx⟩:=gH r;cases rx;obtain ⟨its,rv,pl,hz⟩:=I.list hq;obtain ⟨ys,e1,e2⟩:=kL (iW rv);have hl:s.heap.IsList p (intItems ys.toArray):=by
    have:intItems ys.toArray=its.toArray:=by rw [e1];simp [intItems]
    rw [this];exact pl.isList
  have hlen:ys.length=ns.length+1:=by have:=congrArg List.length e2;simpa using this
  refine min_intList (I.ok.hd hc) hl (by simp;omega) fun v h' tk hv hk=>?_
  obtain ⟨t,rfl⟩:=intItems_at hv;obtain ⟨g1,g2⟩:=argBest_lt (numAt ys.toArray) (ys.toArray.size-1);generalize argBest (fun i j=>decide (numAt ys.toArray i < numAt ys.toArray j)) (ys.toArray.size-1)=w at g1 g2 hv ⊢;have el:ys.toArray.toList.map (·.1)=n::ns:=e2;have m1:numAt ys.toArray w∈n::ns:=by
    rw [numAt_eq,el];refine getD_mem ?_;simp at g1 ⊢;omega
  obtain ⟨k1,k2⟩:=wb n ns;have e3:numAt ys.toArray w=yB n ns:=by
    refine Int.le_antisymm ?_ (k2 _ m1);obtain ⟨j,hj,e⟩:=mem_getD k1;have:=g2 j (by simp at hj ⊢;omega);rw [numAt_eq ys.toArray j,el,e] at this;exact this
  rw [e3];exact ⟨.int _,H,I.kept hk,⟨_,rfl⟩,q⟩
theorem w4 (hc:X.calm=true):dW X (.builtin "max") (fun xs H Q=>∃ p n ns,xs=[.ref p]/\nk X.K H p ((n::ns).map V.int)/\Q (.int (uJ n ns)) H):=by
  intro pins s σ H xs us Q I r h;obtain ⟨p,n,ns,rfl,hq,q⟩:=h;obtain ⟨u,rfl,rx⟩:=gH r;cases rx;obtain ⟨its,rv,pl,hz⟩:=I.list hq;obtain ⟨ys,e1,e2⟩:=kL (iW rv);have hl:s.heap.IsList p (intItems ys.toArray):=by
    have:intItems ys.toArray=its.toArray:=by rw [e1];simp [intItems]
    rw [this];exact pl.isList
  have hlen:ys.length=ns.length+1:=by have:=congrArg List.length e2;simpa using this
  refine max_intList (I.ok.hd hc) hl (by simp;omega) fun v h' tk hv hk=>?_
  obtain ⟨t,rfl⟩:=intItems_at hv;obtain ⟨g1,g2⟩:=argBest_gt (numAt ys.toArray) (ys.toArray.size-1);generalize argBest (fun i j=>decide (numAt ys.toArray i > numAt ys.toArray j)) (ys.toArray.size-1)=w at g1 g2 hv ⊢;have el:ys.toArray.toList.map (·.1)=n::ns:=e2;have m1:numAt ys.toArray w∈n::ns:=by
    rw [numAt_eq,el];refine getD_mem ?_;simp at g1 ⊢;omega
  obtain ⟨k1,k2⟩:=pC n ns;have e3:numAt ys.toArray w=uJ n ns:=by
    refine Int.le_antisymm (k2 _ m1) ?_;obtain ⟨j,hj,e⟩:=mem_getD k1;have:=g2 j (by simp at hj ⊢;omega);rw [numAt_eq ys.toArray j,el,e] at this;exact this
  rw [e3];exact ⟨.int _,H,I.kept hk,⟨_,rfl⟩,q⟩
noncomputable def FN:PyData->R PyData
  | .list ds=>match cr ds with
    | some (n::ns)=>.ok (.int (yB n ns))
    | _=>.no
  | _=>.no
noncomputable def pL:PyData->R PyData
  | .list ds=>match cr ds with
    | some (n::ns)=>.ok (.int (uJ n ns))
    | _=>.no
  | _=>.no
theorem pF (T:Tb X nl G) (j:Nat) (hG:G[j]?=some ("max" : Str)) (hm:X.mg "max" = none) (ha:Z.dH X a fa) (he:aT a=true:=by rfl):Z.cx X (.Call (.Name "max" p) [a] [] pos) (e1 pL fa):=⟨have ha:=ha.un;by
  refine AF T j hG hm fU PyProof.Rows.boot_max (w4 T.calm) (fun H x d Q hx q=>?_) ha he;cases d with
  | list ds =>
    simp only [pL] at q;split at q
    · rename_i n ns ei;rw [eV ei] at hx;obtain ⟨a',vs,rfl,h,r⟩:=dN (K:=X.K) hx;rw [k9 r] at h;exact ⟨a',n,ns,rfl,h,q _ H (aF.refl _) dm⟩
    · exact q.elim
  | _=>exact q.elim⟩
end
section
variable {prog:Program} {w:World} {A:Around} {E:Value->Shared->Prop} {s:Shared}
theorem o8 {R:List Value->Shared->Prop} {r:Addr} {a b c:Int} {t u v:Tok} {n:Nat} (hh:A.handled=none) (hr:IsRange s.heap r a b c t u v) (hsmall:Builtin.Range.small a b c=true)
    (hn:Builtin.Range.rangeSize a b c=n) (hlen:n<=2 ^ 24)
    (h:∀ (h':Heap) (tk:Nat) (acc:Array Value),(∀ b o,s.heap.get? b=some o->h'.get? b=some o)->ItemsOf (fun i v=>∃ t,v=.int (a+i*c) t) acc n->R acc.toList { s with heap:=h',toks:=tk }) :
    wpAny (model prog w) A (collect (.ref r)) R E s:=by
  unfold collect;refine wpAny_bind (wpAny_runValue (codeAny_builtin F.entry_proto_collect ?_));rw [Around.under_plainId PySem.F.plain_proto_collect _];show wpAny _ A.in1 (newList []>>=fun l=>again (.builtin "list.__iadd__" ⟨[l,.ref r],[]⟩)) _ _ s;refine wpAny_bind (wpAny_newObj_type ?_);refine wpAny_pure ⟨plainId_quiet PySem.F.plain_list_iadd _,codeAny_builtin F.entry_list_iadd ?_⟩;rw [Around.under_plainId PySem.F.plain_list_iadd _];have hS₁:(s.heap.push { cls:=.type "list",data:=.seq ([]:List Value).toArray }).get? s.heap.objs.size=some { cls:=.type "list",data:=.seq #[] }:=Heap.get?_push_size _ rfl;show wpAny _ A.in1 (Builtin.List.listExtendWith (.ref s.heap.objs.size) (.ref r) (.ref s.heap.objs.size)) _ _ _;have key:=wpAny_extend_range (prog:=prog) (w:=w) (A:=A) (s:={ s with heap:=s.heap.push { cls:=.type "list",data:=.seq ([]:List Value).toArray } })
    (R:=fun (q:Result) (s':Shared)=>∃ (h':Heap) (tk:Nat) (acc':Array Value) (c':Nat),q=.ok (.ret (.ref s.heap.objs.size))/\s'={ s with heap:=h',toks:=tk } /\
      (∀ b o,s.heap.get? b=some o->h'.get? b=some o)/\h'.get? s.heap.objs.size=some { cls:=.type "list",dict:=none,data:=.seq acc' c',slots:=#[] }/\ItemsOf (fun i v=>∃ t,v=.int (a+i*c) t) acc' n)
    hh (Heap.get?_push_of_some _ hr) hsmall hn hlen s.heap.objs.size (.ref s.heap.objs.size) 0 hS₁
    (fun h' tk acc' c' hk hS' hacc=>⟨h',tk,acc',c',rfl,rfl,fun b o e=>hk b o (Nat.ne_of_lt (Heap.lt_size e)) (Heap.get?_push_of_some _ e),hS',hacc⟩)
  refine wpAny_mono key (fun fin s' x=>?_) fun e s' x=>?_
  · cases fin with
    | done f =>
      obtain ⟨h',tk,acc',c',e,rfl,hk,hS',hacc⟩:=x;cases e;show wpAny _ A (load s.heap.objs.size>>=_) _ _ _;refine wpAny_bind (wpAny_load hS' ?_);exact wpAny_pure (h h' tk acc' hk hacc)
    | again c' =>
      obtain ⟨hq,hc⟩:=x;refine ⟨hq,codeAny_mono hc fun q s' ⟨h',tk,acc',c',e,e2,hk,hS',hacc⟩=>?_⟩;subst e e2;show wpAny _ A (load s.heap.objs.size>>=_) _ _ _;refine wpAny_bind (wpAny_load hS' ?_);exact wpAny_pure (h h' tk acc' hk hacc)
  · obtain ⟨h',tk,acc',c',e,_⟩:=x;cases e
theorem mY (r:Addr) (a b c:Int) (t u v:Tok) (n:Nat) (hsmall:Builtin.Range.small a b c=true) (hn:Builtin.Range.rangeSize a b c=n) (hlen:n<=2 ^ 24):Meets (Builtin.«tuple.__new__» ⟨[.type "tuple",.ref r],[]⟩)
      (fun A R s=>A.handled=none/\IsRange s.heap r a b c t u v/\∀ (h':Heap) (tk:Nat) (acc:Array Value),(∀ b o,s.heap.get? b=some o->h'.get? b=some o)->ItemsOf (fun i v=>∃ t,v=.int (a+i*c) t) acc n ->
        R (.ok (.ret (.ref h'.objs.size))) { s with heap:=h'.push { cls:=.type "tuple",data:=.seq acc },toks:=tk }) :=
  .of_wp fun prog w A R s h=>by
    obtain ⟨hh,hr,h⟩:=h;have hsub:=sub_tuple_self;have hinit:=init_tuple_lookup;have hmh:=madeHere_tuple;have hT:s.TypeIs (.ref r) "range" := ⟨_,hr,rfl⟩
    have hh1:A.in1.handled=none:=hh
    wp_walk using wpAny_typeOf hT,o8 hh1 hr hsmall hn hlen
    intro h' tk acc hk hacc;show wpAny _ _ (Builtin.Tuple.tupleExact acc.toList.toArray>>=fun v=>ret v) _ _ _;unfold Builtin.Tuple.tupleExact;refine wpAny_bind (wpAny_newObj_type ?_ (show acc.toList.toArray.size<=sizeLine by simp only [Array.toArray_toList];rw [hacc.1,sizeLine_eq];omega));refine wpAny_pure ⟨_,rfl,?_⟩;have e:acc.toList.toArray=acc:=by simp
    rw [e];exact h h' tk acc hk hacc
theorem lL {Q:Value->Shared->Prop} {r:Addr} {a b c:Int} {t u v:Tok} {n:Nat} (hh:A.handled=none) (hr:IsRange s.heap r a b c t u v) (hsmall:Builtin.Range.small a b c=true) (hn:Builtin.Range.rangeSize a b c=n) (hlen:n<=2 ^ 24)
    (h:∀ (h':Heap) (tk:Nat) (acc:Array Value),(∀ b o,s.heap.get? b=some o->h'.get? b=some o)->ItemsOf (fun i v=>∃ t,v=.int (a+i*c) t) acc n->Q (.ref h'.objs.size) { s with heap:=h'.push { cls:=.type "tuple",data:=.seq acc },toks:=tk }) :
    wpAny (model prog w) A (call (.type "tuple") [.ref r]) Q E s:=by
  refine callType_new F.called_tuple (by decide) (F.typeCall_tuple_1 _) (F.newCall_tuple_1 _) (fun obj=>F.args_object_init_2 obj _) F.entry_tuple_new
    (mY r a b c t u v n hsmall hn hlen) ⟨hh,hr,fun h' tk acc hk hacc=>⟨⟨_,Heap.get?_push_size _ rfl,rfl⟩,h h' tk acc hk hacc⟩⟩
end
section
variable {X:Cx} {a b c:Expr} {fa fb fc:Fe} {pos p2:Pos} {nl:Nat} {G:List Str} {x:Str} {p:Pos} {fs:aQ->R (List PyData)} {pos2:Pos}
noncomputable def jw (lo:Int) (n:Nat):List V:=(List.range n).map fun (k:Nat)=>.int (lo+k)
theorem xg {H:Hp} (lo:Int) (n:Nat):bx H (bJ lo n) (jw lo n):=by
  have key:∀ l:List Nat,bx H (l.map fun (k:Nat)=>PyData.int (lo+k)) (l.map fun (k:Nat)=>V.int (lo+k)):=by
    intro l;induction l with
    | nil=>exact bx.nil
    | cons k l ih=>exact bx.cons dm ih
  exact key _
theorem ux {lo:Int} {n:Nat} {acc:Array Value} (h:ItemsOf (fun i v=>∃ t,v=.int (lo+(i:Int)*1) t) acc n):bA (jw lo n) acc.toList:=by
  refine ve (by rw [Array.length_toList,h.1];simp [jw]) fun j v hj=>?_
  obtain ⟨t,e⟩:=h.2 j v (by rw [<- Array.getElem?_toList];exact hj);have hjn:j < n:=by
    have:=(List.getElem?_eq_some_iff.mp hj).1;rw [Array.length_toList,h.1] at this;exact this
  refine ⟨.int (lo+j),?_,t,by rw [e];simp⟩;unfold jw;rw [List.getElem?_map,List.getElem?_range hjn];rfl
theorem tD (lo:Int) (n:Nat):(jw lo n).length=n:=by simp [jw]
noncomputable def EZ (mk:List V->HO) (ta:TA):TE:=fun σ H Q=>ta σ H fun vs H1=>∃ j:Int,vs=[.int j]/\j<=16777216/\-(2 ^ 62)<=j/\∀ l,H1 l=none->Q (.ref l) (cw H1 l (mk (jw 0 j.toNat)))
theorem xM {ta:TA} (T:Tb X nl G) (i:Nat) (hGi:G[i]?=some ("tuple" : Str)) (hmi:X.mg "tuple" = none) (j:Nat) (hG:G[j]?=some ("range" : Str)) (hm:X.mg "range" = none) (ha:PA X [a] ta) (hs:aT a=true:=by rfl) :
    PE X (.Call (.Name "tuple" p) [.Call (.Name "range" p2) [a] [] pos2] [] pos) (EZ .tup ta):=by
  intro pins s σ H Q I h;have g1:=T.gl _ (List.mem_of_getElem? hGi);have g2:=T.gl _ (List.mem_of_getElem? hG);have sc:starEach [Expr.Call (.Name "range" p2) [a] [] pos2] X.env=(false,eval (Expr.Call (.Name "range" p2) [a] [] pos2) X.env)::starEach [] X.env:=bo (by rfl);refine Call_ (iX I g1.1 hmi PyProof.Rows.boot_tuple (PyProof.Rows.callWith_type1 ?_ sc rfl));rw [sc];refine Calls.spliced_cons ?_;refine Call_ (iX I g2.1 hm boot_range (PyProof.Rows.callWith_type1 (dg (ha pos2 pins s σ H _ I h) fun us s1 ⟨vs,H1,I1,r1,q1⟩=>?_) (bo hs) rfl));obtain ⟨n,e,h1,h2,q⟩:=q1;subst e;obtain ⟨u,rfl,t,rfl⟩:=gH r1;refine call_range_1 (Calls.spliced_nil ?_);have hsz:Builtin.Range.rangeSize 0 n 1=n.toNat:=by rw [rangeSize_one];split <;> omega
  refine lL (n:=n.toNat) (I1.ok.hd T.calm) (IsRange.new ..) (small_one (by omega) (by omega) (by omega) (by omega)) hsz (by omega) fun h' tk acc kp hacc=>?_
  have kp':∀ b o,s1.heap.get? b=some o->h'.get? b=some o:=fun b o e=>kp b o (Heap.get?_push_of_some _ e)
  have hg:s1.heap.get? h'.objs.size=none:=by
    cases e:s1.heap.get? h'.objs.size with
    | none=>rfl
    | some o=>exact absurd (Heap.lt_size (kp' _ _ e)) (Nat.lt_irrefl _)
  have hn:=sR I1 hg;refine ⟨.ref h'.objs.size,_,rA (s:=s1) (t':=tk) (o:=.tup (jw 0 n.toNat)) I1 (fun b o e=>Heap.get?_push_of_some _ (kp' b o e)) hg hn ⟨by rw [tD,sizeLine_eq];omega,acc.toList,ux hacc,_,Heap.get?_push_size _ rfl,rfl,_,by simp;rfl⟩,rfl,q _ hn⟩
noncomputable def Dp (mk:List PyData->PyData):List PyData->R PyData
  | [.int j]=>if j<=16777216/\-(2 ^ 62)<=j then .ok (mk (bJ 0 j.toNat)) else .no
  | _=>.no
noncomputable def yZ (fs:aQ->R (List PyData)):Fe:=fun ρ=>fs ρ>>=Dp .tuple
theorem xc (T:Tb X nl G) (i:Nat) (hGi:G[i]?=some ("tuple" : Str)) (hmi:X.mg "tuple" = none) (j:Nat) (hG:G[j]?=some ("range" : Str)) (hm:X.mg "range" = none) (ha:Z.uG X [a] fs) (hs:aT a=true:=by rfl):Z.cx X (.Call (.Name "tuple" p) [.Call (.Name "range" p2) [a] [] pos2] [] pos) (yZ fs):=⟨have ha:=ha.un;PE.imp (xM T i hGi hmi j hG hm ha hs) fun σ H Q h=>(mf (I:=Rp) (f:=fs) (k:=fun _=>Dp .tuple) (fu (X:=X) fU Q) h).post fun vs H1 ⟨_,ds,_,_,p1,q1⟩=>by
    unfold Dp at q1;split at q1
    · rename_i n;split at q1
      · rename_i hz;simp only [RA] at p1;obtain ⟨v,r',rfl,p,rfl⟩:=p1;have ev:v=.int n:=by simpa only [Rp] using p
        subst ev;exact ⟨n,rfl,hz.1,hz.2,fun l hl=>q1 _ _ (cf hl _) (dl hl (xg 0 n.toNat))⟩
      · exact q1.elim
    · exact q1.elim⟩
end
noncomputable def wL (b:PyData->aQ->Option aQ) (f:Fe):Fs:=fun ρ=>f ρ>>=fun d=>match b d ρ with
  | some ρ'=>.ok (.nx ρ')
  | none=>.no
section
variable {X:Cx} {tg e:Expr} {f:Fe} {b:PyData->aQ->Option aQ} {pos:Pos}
theorem rO (he:Z.cx X e f) (hg:Z.sW X tg b) (hs:swapsWithSole [tg] e pos.line X.env=pure false:=by rfl) (hw:swappedStores [tg] e X.env=pure none:=by rfl) (h1:(assignEach [tg] X.env).map (·.2)=[assign tg X.env]:=by rfl):Z.kN X (.Assign [tg] e pos) (wL b f):=⟨have he:=he.un;have hg:=hg.un;fun Fm=>by
  refine PS.imp (zx he hg hs hw h1) fun D σ H h=>?_
  refine (ml (P:=ie) (f:=f) (k:=fun ρ d=>match b d ρ with | some ρ'=>.ok (.nx ρ') | none=>.no) h).post fun v H1 ⟨ρ,d,sl,_,p,q⟩=>?_
  refine ⟨ρ,d,sl.sl,p,?_⟩;cases eb:b d ρ with
  | none=>rw [eb] at q;exact q
  | some ρ3 =>
    rw [eb] at q;intro σ4 sl4 hown;refine q σ4 H1 ⟨sl.fm,sl4,fun j e a h1 h2=>?_,fun j k e f a h1 h2 h3 h4=>?_⟩
    · obtain ⟨z1,z2⟩:=hown j e h1;exact sl.own j e a z1 (by rw [<- z2];exact h2)
    · obtain ⟨z1,z2⟩:=hown j e h1;obtain ⟨z3,z4⟩:=hown k f h2;exact sl.apart j k e f a z1 z3 (by rw [<- z2];exact h3) (by rw [<- z4];exact h4)⟩
end
section
variable {X:Cx} {a b:Expr} {fa fb:Fe} {pos p2:Pos}
noncomputable def FQ:PyData->PyData->R PyData
  | .list xs,.int k=>if -(2 ^ 63)<=k/\k < 2 ^ 63/\xs.length*k.toNat<=sizeLine then .ok (.list (List.replicate k.toNat xs).flatten) else .no
  | _,_=>.no
end
theorem bx.set {H:Hp} {d:PyData} {v:V} (p:Rp H d v):∀ {ds:List PyData} {vs:List V} (j:Nat),bx H ds vs->bx H (ds.set j d) (vs.set j v)
  | [],vs,j,r=>by rw [r.nil_inv];exact bx.nil
  | d'::ds,vs,j,r=>by
    obtain ⟨v',r',rfl,p',t⟩:=r.cons_inv;cases j with
    | zero=>exact bx.cons p t
    | succ j=>exact bx.cons p' (bx.set p j t)
noncomputable def il (i:Nat) (fk fv:Fe):Fs:=fun ρ=>fv ρ>>=fun v=>mw (fk ρ)>>=fun k=>match ρ[i]?,k with
  | some (.own (.list ds)),.int n=>match vb ds.length n with
    | some j=>.ok (.nx (ρ.set i (.own (.list (ds.set j v)))))
    | none=>.no
  | _,_=>.no
section
variable {X:Cx} {nl:Nat} {G:List Str} {x:Str} {f:Fe} {e:Expr}
theorem jR {k v:Expr} {fk fv:Fe} {q1 q2 q3:Pos} (T:Tb X nl G) (n:Nat) (hN:X.N[n]?=some x) (hk:Z.cx X.nox k fk) (hv:Z.cx X v fv) (hs:swapsWithSole [.Subscript (.Name x q1) k q2] v q3.line X.env=pure false:=by rfl) (hw:swappedStores [.Subscript (.Name x q1) k q2] v X.env=pure none:=by rfl) (h1:(assignEach [.Subscript (.Name x q1) k q2] X.env).map (·.2)=[assign (.Subscript (.Name x q1) k q2) X.env]:=by rfl) (ha:∀ v,assign (.Subscript (.Name x q1) k q2) X.env v=(do
      let ov <- holding [v] (eval (.Name x q1) X.env)
      let iv <- holding [v,ov] (eval k X.env)
      standAt q2
      holding [v,ov,iv] (setItem ov iv v)
      release [v,ov,iv] []):=by intro _;rfl):Z.kN X (.Assign [.Subscript (.Name x q1) k q2] v q3) (il n fk fv):=⟨have hk:=hk.un;have hv:=hv.un;fun Fm=>by
  have hm:=T.vis x (List.mem_of_getElem? hN);have hkX:PE X k (fun σ H Q=>ka X.nox ie fk σ H Q):=fun pins s σ H Q I h=>wpAny_mono (hk pins s σ H Q (I.wish _) h) (fun v s' ⟨y,H',I',r,q⟩=>⟨y,H',I'.unwish,r,q⟩) fun _ _ z=>False.elim z
  refine PS.imp (zx hv (Cy (lY hN hm.1 hm.2.1 hm.2.2) hkX yg ha) hs hw h1) fun D σ H h=>?_
  refine (ml (P:=ie) (f:=fv) (k:=fun ρ v=>mw (fk ρ)>>=fun k=>match ρ[n]?,k with
    | some (.own (.list ds)),.int m=>match vb ds.length m with
      | some j=>.ok (.nx (ρ.set n (.own (.list (ds.set j v)))))
      | none=>.no
    | _,_=>.no) h).post fun vv H1 ⟨ρ1,dv,sl1,_,p1,q1⟩=>?_
  cases ef:fk ρ1 with
  | ex c=>rw [ef] at q1;exact q1.elim
  | no=>rw [ef] at q1;exact q1.elim
  | ok kd =>
    rw [ef] at q1;simp only [mw,R.ok_bind] at q1;cases er:ρ1[n]? with
    | none=>rw [er] at q1;exact q1.elim
    | some c =>
      rw [er] at q1;cases c with
      | non=>exact q1.elim
      | exc p=>exact q1.elim
      | val d'=>exact q1.elim
      | own d' =>
        cases d' with
        | list ds =>
          cases kd with
          | int m =>
            dsimp only at q1;cases ei:vb ds.length m with
            | none=>rw [ei] at q1;exact q1.elim
            | some j =>
              rw [ei] at q1;obtain ⟨o,h2,w',rfl,p2⟩:=sl1.sl.at er;simp only [i9] at p2;obtain ⟨a',vs,rfl,ha',r⟩:=p2;refine ⟨.ref a',h2,ρ1,sl1.sl,?_⟩;rw [ef];intro yv H3 s3 p3;have ev:yv=.int m:=by simpa only [Rp] using p3
              have ha3:=s3 _ _ ha';have r3:=r.mono s3;refine ⟨a',vs,m,j,rfl,ev,ha3,by rw [r.length];exact ei,q1 _ _ ((sl1.mono s3).change er h2 ha3 (.inl ⟨_,rfl⟩) ?_)⟩;simp only [i9];exact ⟨a',_,rfl,bi,bx.kp (gA ha3 (.inl ⟨_,rfl⟩)) _ _ (bx.set (p1.mono s3) j r3)⟩
          | _=>exact q1.elim
        | _=>exact q1.elim⟩
noncomputable def EM (g:Int->Int->Int):PyData->PyData->R PyData
  | .int i,.int j=>.ok (.int (g i j))
  | _,_=>.no
noncomputable def wJ (i:Nat) (g:Int->Int->Int) (f:Fe):Fs:=fun ρ=>ae i ρ>>=fun x=>f ρ>>=fun y=>EM g x y>>=fun z=>.ok (.nx (ρ.set i (.val z)))
theorem AN {op:Operator} {g:Int->Int->Int} {pos pos':Pos} (ho:Fr X op (FK g)) (T:Tb X nl G) (i:Nat) (hN:(X.N.take nl)[i]?=some x) (he:cx X e f):kN X (.AugAssign (.Name x pos') op e pos) (wJ i g f):=fun Fm=>by
  obtain ⟨n1,n2,n3⟩:=T.nm hN;refine PS.imp (BJ T.nd n1 n2 he ho n3) fun D σ H h=>?_
  obtain ⟨ρ,sl,q⟩:=h;unfold wJ at q;cases ev:ae i ρ with
  | ex c=>exact absurd ev (by unfold ae;split <;> simp)
  | no=>rw [ev] at q;exact q.elim
  | ok dx =>
    rw [ev] at q;simp only [R.ok_bind] at q;have hc:ρ[i]?=some (.val dx):=by
      unfold ae at ev;split at ev
      · rename_i d hd;cases ev;exact hd
      · cases ev
    obtain ⟨o,h2,w',rfl,p2⟩:=sl.sl.at hc;refine ⟨w',h2,?_⟩;refine (ml (P:=ie) (f:=f) (k:=fun ρ y=>EM g dx y>>=fun z=>.ok (.nx (ρ.set i (.val z)))) ⟨ρ,sl,q⟩).post fun v H1 ⟨ρ1,d,sl1,s1,p,q1⟩=>?_
    cases dx with
    | int a =>
      cases d with
      | int b =>
        have e1:w'=.int a:=by simpa only [Rp] using p2
        have e2:v=.int b:=by simpa only [Rp] using p
        subst e1;subst e2;exact ⟨a,b,rfl,rfl,q1 _ H1 (sl1.set i (fun e z=>by cases z) ⟨.int (g a b),rfl,dm⟩)⟩
      | _=>exact q1.elim
    | _=>exact q1.elim
theorem wX {pos pos':Pos} (T:Tb X nl G) (i:Nat) (hN:(X.N.take nl)[i]?=some x) (he:Z.cx X e f):Z.kN X (.AugAssign (.Name x pos') .Add e pos) (wJ i (fun a b=>a+b) f):=⟨have he:=he.un;AN BI T i hN he⟩
end
section
variable {X:Cx} {a b:Expr} {fa fb:Fe} {pos p:Pos} {nl:Nat} {G:List Str}
noncomputable def FS:PyData->PyData->R PyData
  | .str z,.int k=>if k=0\/k=1 then .ok (.str (if k=1 then z else Str.empty)) else .no
  | _,_=>.no
end
section
variable {X:Cx} {o e:Expr} {fo fe:Fe} {apos cpos:Pos}
theorem zn:FR X "list.index" (fun x xs H Q=>∃ (l:Addr) (ns:List Int) (k:Int),x=.ref l/\xs=[.int k]/\nk X.K H l (ns.map V.int)/\PyData.layable0 (.list (ns.map .int))=true/\k∈ns/\Q (.int (ns.idxOf k:Nat)) H):=by
  intro pins s σ H x xs v us Q I rx rs h;obtain ⟨l,ns,k,rfl,rfl,hq,hlay,hk,q⟩:=h;cases rx;obtain ⟨u,rfl,t,rfl⟩:=gH rs;obtain ⟨its,rv,pl,hz⟩:=I.list hq;exact index_list_ints pl.isList (iW rv) hlay hk ⟨.int _,H,I.tok _,⟨_,rfl⟩,q⟩
noncomputable def Cn:PyData->R Unit
  | .list _=>.ok ()
  | _=>.no
noncomputable def jm:PyData->PyData->R PyData
  | .list ds,.int k=>match cr ds with
    | some ns=>if PyData.layable0 (.list ds)=true/\k∈ns then .ok (.int (ns.idxOf k:Nat)) else .no
    | none=>.no
  | _,_=>.no
noncomputable def uP (fo fe:Fe):Fe:=fun ρ=>fo ρ>>=fun x=>Cn x>>=fun _=>fe ρ>>=fun y=>jm x y
theorem ut (ho:Z.dH X o fo) (he:Z.cx X e fe) (hb:attributeBase o "index" X.env (eval o X.env)=eval o X.env:=by rfl) (hst:aT e=true:=by rfl) (hline:(apos.endLine==cpos.line)=true:=by rfl):Z.cx X (.Call (.Attribute o "index" apos) [e] [] cpos) (uP fo fe):=⟨have ho:=ho.un;have he:=he.un;by
  have sc:starEach [e] X.env=(false,eval e X.env)::starEach [] X.env:=bo hst;refine PE.imp (Br PySem.F.plainAttrs_list PySem.F.slot_list_index PySem.F.type_list_index zn ho (fN he kG hst) hb (by rw [sc];rfl) hline sc rfl) fun σ H Q h=>?_
  refine (fD (P:=vH) (f:=fo) (k:=fun ρ x=>Cn x>>=fun _=>fe ρ>>=fun y=>jm x y) (fu (X:=X) fU Q) h).post fun v H1 ⟨ρ1,d1,sl1,_,p1,q1⟩=>?_
  cases d1 with
  | list ds =>
    obtain ⟨a,vs,rfl,h1,r1⟩:=dN (K:=X.K) p1;refine ⟨.inl ⟨rfl,_,h1⟩,?_⟩;have q1:uI X ie (ah fe aI ρ1>>=one (jm (.list ds))) H1 Q:=by
      have e0:(ah fe aI ρ1>>=one (jm (.list ds)))=(fe ρ1>>=fun y=>jm (.list ds) y):=by
        unfold ah aI;cases fe ρ1 <;> rfl
      rw [e0];exact q1
    refine (mf (I:=Rp) (f:=ah fe aI) (k:=fun _=>one (jm (.list ds))) (fu (X:=X) fU Q) ⟨ρ1,sl1,q1⟩).post fun us H2 ⟨_,ds2,_,s2,p2,q2⟩=>?_
    unfold one at q2;split at q2
    · rename_i d2;simp only [RA] at p2;obtain ⟨w,r',rfl,p2,rfl⟩:=p2;cases d2 with
      | int k =>
        have ew:w=.int k:=by simpa only [Rp] using p2
        subst ew;simp only [jm] at q2;cases ei:cr ds with
        | none=>rw [ei] at q2;exact q2.elim
        | some ns =>
          rw [ei] at q2;dsimp only at q2;split at q2
          · rename_i hz;have p3:=ig.mono p1 s2;rw [eV ei] at p3;obtain ⟨a',vs',ea,h3,r3⟩:=dN (K:=X.K) p3;cases ea;rw [k9 r3] at h3;exact ⟨a,ns,k,rfl,rfl,h3,by rw [<- eV ei];exact hz.1,hz.2,q2 _ H2 (aF.refl _) dm⟩
          · exact q2.elim
      | _=>exact q2.elim
    · exact q2.elim
  | _=>exact q1.elim⟩
end
noncomputable def Bw:bh->bh
  | .own _=>.non
  | c=>c
noncomputable def iG (i:Nat) (d:PyData) (ρ:aQ):aQ:=(ρ.map Bw).set i (.val d)
noncomputable def kQ:PyData->R PyData
  | .none=>.ok .none
  | .bool b=>.ok (.bool b)
  | .int k=>.ok (.int k)
  | .str x=>.ok (.str x)
  | .tuple ds=>match cr ds with
    | some _=>.ok (.tuple ds)
    | none=>.no
  | _=>.no
theorem xZ {d:PyData} {c:Str}:kQ d≠.ex c:=by
  cases d with
  | tuple ds =>
    show (match cr ds with | some _=>R.ok (PyData.tuple ds) | none=>.no)≠_;cases cr ds <;> exact fun z=>nomatch z
  | _=>exact fun z=>nomatch z
noncomputable def kj (i:Nat) (f:Fe):Fe:=fun ρ=>match ρ[i]? with
  | some (.own d)=>mw (f (iG i d ρ))>>=kQ
  | _=>f ρ
section
variable {X:Cx} {pins:List (Addr×Obj)} {σ:St} {H H1:Hp} {s s':Shared} {a:Addr} {u:HO} {o:Obj}
theorem wB (h:H a=some u) (S:aF (cw H a (.frz o u)) H1):aF H (cw H1 a u):=fun b x e=>by
  by_cases hb:b=a
  · subst hb;rw [bi];rw [h] at e;exact e
  · rw [av hb];exact S b x (by rw [av hb];exact e)
theorem zi (I:aP X pins σ H s) (h:H a=some u) (hm:(∃ xs,u=.lst xs)\/∃ ks,u=.dK ks) (S:aF (cw H a (.frz o u)) H1) (J:aP X pins σ H1 s'):aP X pins σ (cw H1 a u) s':=by
  have ha:H1 a=some (.frz o u):=S a _ bi;have nt:∀ b xs,H1 b=some (.tup xs)->b≠a:=fun b xs q z=>by subst z;rw [ha] at q;cases q
  have nb:∀ b ps,H1 b=some (.tbl ps)->b≠a:=fun b ps q z=>by subst z;rw [ha] at q;cases q
  have nw:∀ b y,H1 b=some (.own y)->b≠a:=fun b y q z=>by subst z;rw [ha] at q;cases q
  have nn:∀ b,H1 b=none->b≠a:=fun b q z=>by subst z;rw [ha] at q;cases q
  have st:∀ b x,bS X.prog X.w H1 s'.heap b x->bS X.prog X.w (cw H1 a u) s'.heap b x:=fun b x q =>
    q.stay (fun c v _ e=>e) (fun c e=>by rw [av (nw _ _ e)];exact e) fun c xs e=>by rw [av (nt _ _ e)];exact e
  refine ⟨J.ok,J.os,J.bare,⟨J.base.keep,J.base.slot,fun b ob' e n hx=>?_,J.base.there,fun b xs e=>?_,fun b ob' v e=>?_,fun b ps e=>?_⟩,J.loc,J.cell,?_,fun x c e=>?_,fun p hp=>?_,fun b x e=>?_,J.len⟩
  · have:=J.base.free b ob' e n hx;rw [av (nn _ this)];exact this
  · have:=J.base.tups b xs e;rw [av (nt _ _ this)];exact this
  · have q:=I.base.frzs b ob' v e;have hb:b≠a:=fun z=>by subst z;rw [h] at q;rcases hm with ⟨_,rfl⟩ | ⟨_,rfl⟩ <;> cases q
    rw [av hb];exact J.base.frzs b ob' v e
  · obtain ⟨m,q⟩:=J.base.tbls b ps e;exact ⟨m,by rw [av (nb _ _ q)];exact q⟩
  · rw [av (nn _ J.free)];exact J.free
  · rw [av (nn _ (J.freeC x c e))];exact J.freeC x c e
  · obtain ⟨p1,p2,p3⟩:=J.pin p hp;exact ⟨p1,by rw [av (nn _ p2)];exact p2,p3⟩
  · by_cases hb:b=a
    · subst hb;rw [bi] at e;cases e;obtain ⟨_,q⟩:=(show bS X.prog X.w H1 s'.heap b (.frz o u) from J.hok b _ ha)
      exact st b u q
    · rw [av hb] at e;exact st b x (J.hok b x e)
theorem vz {ρ:aQ} {i:Nat} {d:PyData} {v:V} (sl:Sl H σ ρ) (k:Kp H H1) (hv:σ[i]?=some (some v)) (hr:Rp H1 d v):Sl H1 σ (iG i d ρ):=by
  unfold iG;refine ⟨by rw [List.length_set,List.length_map];exact sl.1,fun j c w' e1 e2=>?_⟩;rw [List.getElem?_set] at e1;by_cases hij:i=j
  · subst hij;rw [if_pos rfl] at e1;split at e1
    · cases e1;rw [hv] at e2;cases e2;exact ⟨_,rfl,hr⟩
    · cases e1
  · rw [if_neg hij,List.getElem?_map] at e1;cases ec:ρ[j]? with
    | none=>rw [ec] at e1;cases e1
    | some c' =>
      rw [ec] at e1;have e1':Bw c'=c:=Option.some.inj e1;subst e1';have q:=sl.2 j c' w' ec e2;cases c' with
      | exc p=>exact q
      | non=>exact True.intro
      | val d'=>obtain ⟨v,z1,z2⟩:=q;exact ⟨v,z1,Rp.kp k _ _ z2⟩
      | own d'=>exact True.intro
end
theorem pV {H H':Hp}:∀ {ns:List Int} {vs:List V},bx H (ns.map .int) vs->bx H' (ns.map .int) vs
  | [],vs,r=>by rw [r.nil_inv];exact bx.nil
  | n::ns,vs,r=>by
    rw [List.map_cons] at r;obtain ⟨v,r',rfl,p,t⟩:=r.cons_inv;exact bx.cons (by simp only [Rp] at p ⊢;exact p) (pV t)
theorem AK {H H':Hp} {d d':PyData} {v:V} (kt:∀ b xs,H b=some (.tup xs)->H' b=some (.tup xs)) (h:kQ d=.ok d') (r:Rp H d v):Rp H' d' v:=by
  cases d with
  | tuple ds =>
    cases ei:cr ds with
    | none =>
      rw [show kQ (.tuple ds)=(match cr ds with | some _=>R.ok (PyData.tuple ds) | none=>.no) from rfl,ei] at h;cases h
    | some ns =>
      rw [show kQ (.tuple ds)=(match cr ds with | some _=>R.ok (PyData.tuple ds) | none=>.no) from rfl,ei] at h;cases h;simp only [Rp] at r ⊢;obtain ⟨a,vs,e,ha,q⟩:=r;rw [eV ei] at q ⊢;exact ⟨a,vs,e,kt a vs ha,pV q⟩
  | none=>cases h;simp only [Rp] at r ⊢;exact r
  | bool b=>cases h;simp only [Rp] at r ⊢;exact r
  | int i=>cases h;simp only [Rp] at r ⊢;exact r
  | str x=>cases h;simp only [Rp] at r ⊢;exact r
  | list ds=>cases h
  | dict kvs=>cases h
theorem cx.lent {X:Cx} {e:Expr} {f:Fe} (i:Nat) (h:cx X e f):cx X e (kj i f):=by
  intro pins s σ H Q I q;obtain ⟨ρ,sl,q⟩:=q;by_cases ho:∃ d,ρ[i]?=some (.own d)
  · obtain ⟨d,ho⟩:=ho;have el:kj i f ρ=(mw (f (iG i d ρ))>>=kQ):=by unfold kj;rw [ho]
    rw [el] at q;have go:∀ (a:Addr) (u:HO) (hu:H a=some u) (hm:(∃ xs,u=.lst xs)\/∃ ks,u=.dK ks) (o:Obj) (J:aP X pins σ (cw H a (.frz o u)) s) (sl1:Sl (cw H a (.frz o u)) σ (iG i d ρ)),wpAny (model X.prog X.w) X.A (eval e X.env) (EP X pins σ Q) X.xe s:=fun a u hu hm o J sl1=>by
      cases ef:f (iG i d ρ) with
      | no=>rw [ef] at q;exact q.elim
      | ex c=>rw [ef] at q;exact q.elim
      | ok d1 =>
        rw [ef] at q;change uI X ie (kQ d1) H Q at q;cases ea:kQ d1 with
        | no=>rw [ea] at q;exact q.elim
        | ex c=>exact (xZ ea).elim
        | ok d2 =>
          rw [ea] at q;refine dg (h pins s σ (cw H a (.frz o u)) (fun v H'=>aF (cw H a (.frz o u)) H'/\Rp H' d1 v) J ⟨iG i d ρ,sl1,by rw [ef];exact fun v H' hs p=>⟨hs,p⟩⟩) fun w s' ⟨v,H',J',r,hs,p⟩=>?_
          exact ⟨v,cw H' a u,zi I hu hm hs J',r,q v _ (wB hu hs) (AK (fun b xs e=>by
            have hb:b≠a:=fun z=>by subst z;rw [hs b _ bi] at e;cases e
            rw [av hb];exact e) ea p)⟩
    obtain ⟨w',h2,v,rfl,qo⟩:=sl.at ho;cases d <;> simp only [i9] at qo
    · rename_i ds;obtain ⟨a,vs,rfl,ha,r⟩:=qo;obtain ⟨o,J⟩:=gI I ha (.inl ⟨_,rfl⟩);have kp:=gA (o':=.frz o (.lst vs)) ha (.inl ⟨_,rfl⟩);have hr:Rp (cw H a (.frz o (.lst vs))) (.list ds) (.ref a):=by
        simp only [Rp];exact ⟨a,o,vs,rfl,bi,bx.kp kp _ _ r⟩
      exact go a _ ha (.inl ⟨_,rfl⟩) o J (vz sl kp h2 hr)
    · rename_i ds;obtain ⟨a,vs,rfl,ha,r⟩:=qo;obtain ⟨o,J⟩:=gI I ha (.inr ⟨_,rfl⟩);have kp:=gA (o':=.frz o (.dK vs)) ha (.inr ⟨_,rfl⟩);have hr:Rp (cw H a (.frz o (.dK vs))) (.dict ds) (.ref a):=by
        simp only [Rp];exact .inl ⟨a,o,vs,rfl,bi,eG.kp kp _ _ r⟩
      exact go a _ ha (.inr ⟨_,rfl⟩) o J (vz sl kp h2 hr)
  · have el:kj i f ρ=f ρ:=by
      unfold kj;split
      · rename_i d e1;exact (ho ⟨d,e1⟩).elim
      · rfl
    rw [el] at q;exact h pins s σ H Q I ⟨ρ,sl,q⟩
theorem tQ {X:Cx} {e:Expr} {f:Fe} (i:Nat) (h:Z.cx X e f):Z.cx X e (kj i f) :=
  ⟨D2.cx.lent i h.un⟩
noncomputable def zr (C:Addr) (names:List Str) (ds:List PyData):PyData:=.dict ((.none,.int C)::(names.zip ds).map fun p=>(.str p.1,p.2))
noncomputable def ur (f:Str):List (PyData×PyData)->R PyData
  | []=>.no
  | (.str x,d)::r=>if x=f then .ok d else ur f r
  | _::_=>.no
noncomputable def kM (C:Addr) (f:Str):PyData->R PyData
  | .dict ((.none,.int c)::kvs)=>if c=(C:Int) then ur f kvs else .no
  | _=>.no
noncomputable def si (C:Addr) (names:List Str) (fs:aQ->R (List PyData)):Fe:=fun ρ=>fs ρ>>=fun ds=>.ok (zr C names ds)
noncomputable def EH (C:Addr) (names:List Str):Sp:=fun vs H Q _=>∃ x dx ws,vs=.ref x::ws/\H x=some (.ins C dx [])/\ws.length=names.length/\∀ H',H' x=some (.ins C dx (names.zip ws))->(∀ b,b≠x->H' b=H b)->Q .non H'
section
variable {X:Cx} {pins:List (Addr×Obj)} {σ:St} {H:Hp} {s:Shared} {a C dx:Addr} {fs:List (Str×V)}
theorem sT (I:aP X pins σ H s) (h:H a=some (.ins C dx fs)):∃ o,aP X pins σ (cw H a (.frz o (.ins C dx fs))) s:=by
  have ob:=I.hok a _ h;obtain ⟨o,hg⟩:=rb ob;have nt:∀ b xs,H b=some (.tup xs)->b≠a:=fun b xs q z=>by subst z;rw [h] at q;cases q
  have nf:∀ b o' u',H b=some (.frz o' u')->b≠a:=fun b o' u' q z=>by subst z;rw [h] at q;cases q
  have nb:∀ b ps,H b=some (.tbl ps)->b≠a:=fun b ps q z=>by subst z;rw [h] at q;cases q
  have nw:∀ b y,H b=some (.own y)->b≠a:=fun b y q z=>by subst z;rw [h] at q;cases q
  have nn:∀ b,H b=none->b≠a:=fun b q z=>by subst z;rw [h] at q;cases q
  have st:∀ b x,bS X.prog X.w H s.heap b x->bS X.prog X.w (cw H a (.frz o (.ins C dx fs))) s.heap b x:=fun b x q =>
    q.stay (fun c v _ e=>e) (fun c e=>by rw [av (nw _ _ e)];exact e) fun c xs e=>by rw [av (nt _ _ e)];exact e
  refine ⟨o,⟨I.ok,I.os,I.bare,⟨I.base.keep,I.base.slot,fun b ob' e n hx=>?_,I.base.there,fun b xs e=>?_,fun b ob' v e=>?_,fun b ps e=>?_⟩,I.loc,I.cell,?_,fun x c e=>?_,fun p hp=>?_,fun b x e=>?_,I.len⟩⟩
  · have:=I.base.free b ob' e n hx;rw [av (nn _ this)];exact this
  · have:=I.base.tups b xs e;rw [av (nt _ _ this)];exact this
  · have:=I.base.frzs b ob' v e;rw [av (nf _ _ _ this)];exact this
  · obtain ⟨m,q⟩:=I.base.tbls b ps e;exact ⟨m,by rw [av (nb _ _ q)];exact q⟩
  · rw [av (nn _ I.free)];exact I.free
  · rw [av (nn _ (I.freeC x c e))];exact I.freeC x c e
  · obtain ⟨p1,p2,p3⟩:=I.pin p hp;exact ⟨p1,by rw [av (nn _ p2)];exact p2,p3⟩
  · by_cases hb:b=a
    · subst hb;rw [bi] at e;cases e;exact ⟨hg,st b _ ob⟩
    · rw [av hb] at e;exact st b x (I.hok b x e)
theorem Bi {o':HO} (h:H a=some (.ins C dx fs)):Kp H (cw H a o'):=by
  refine ⟨fun b xs e=>?_,fun b o v e=>?_⟩
  · rw [av];exact e;rintro rfl;rw [h] at e;cases e
  · rw [av];exact e;rintro rfl;rw [h] at e;cases e
end
theorem vh {H:Hp}:∀ {names:List Str} {ds:List PyData} {vs:List V},bx H ds vs->sZ H ((names.zip ds).map fun p=>(.str p.1,p.2)) (names.zip vs)
  | [],ds,vs,_=>by simp only [List.zip_nil_left,List.map_nil,sZ]
  | n::names,[],vs,r=>by
    simp only [bx] at r;subst r;simp only [List.zip_nil_right,List.map_nil,sZ]
  | n::names,d::ds,vs,r=>by
    simp only [bx] at r;obtain ⟨v,t,rfl,p,q⟩:=r;simp only [List.zip_cons_cons,List.map_cons,sZ,Bo];exact ⟨n,v,_,rfl,⟨rfl,p⟩,vh q⟩
theorem uW {H:Hp} {f:Str} {d:PyData}:∀ {kvs:List (PyData×PyData)} {fs:List (Str×V)},sZ H kvs fs->ur f kvs=.ok d->∃ v,fs.lookup f=some v/\Rp H d v
  | [],fs,_,e=>by cases e
  | (k,d')::kvs,fs,r,e=>by
    simp only [sZ,Bo] at r;obtain ⟨x,v,t,rfl,⟨rfl,p⟩,q⟩:=r;simp only [ur] at e;by_cases h:x=f
    · rw [if_pos h] at e;cases e;subst h;exact ⟨v,by rw [List.lookup_cons_self],p⟩
    · rw [if_neg h] at e;obtain ⟨w,w1,w2⟩:=uW q e;refine ⟨w,?_,w2⟩;rw [List.lookup_cons];have:(f==x)=false:=by
        cases z:f==x with
        | false=>rfl
        | true=>exact (h (eq_of_beq z).symm).elim
      rw [this];exact w1
theorem vA {f:Str} {c:Str}:∀ {kvs:List (PyData×PyData)},ur f kvs≠.ex c
  | [],e=>by cases e
  | (k,d)::kvs,e=>by
    cases k <;> simp only [ur] at e <;> try cases e
    split at e
    · cases e
    · exact vA e
section
variable {X:Cx} {e:Expr} {es:List Expr} {fe:Fe} {pos p:Pos} {nl:Nat} {G:List Str} {x:Str}
theorem rY {k:Nat} {C f:Addr} {fd:FuncData} {ps names:List Str} {fs:aQ->R (List PyData)} (M:Mk X.K C f) (F:bg X.prog X.w X.K X.mg X.base (cU X.prog X.w X.mg) k f fd ps (EH C names)) (hr:fx (k+1) X.A) (T:Tb X nl G) (j:Nat) (hG:G[j]?=some x) (hm:X.mg x=some (.ref C)) (hb:bF X.K fd ps []) (ha:Z.uG X (e::es) fs) (hfs:∀ ρ ds,fs ρ=.ok ds->ds.length=names.length) (he:(e::es).all aT=true:=by rfl):Z.cx X (.Call (.Name x p) (e::es) [] pos) (si C names fs):=⟨have ha:=ha.un;by
  rw [List.all_cons,Bool.and_eq_true] at he;have g:=T.gl x (List.mem_of_getElem? hG);intro pins s σ H Q I ⟨ρ,sl,q⟩;unfold si at q;have base:=Ab (p:=p) (pos:=pos) M F hr g.1 hm hb .nil u6 ha g.2.1 (bo he.1) (nW he.2);cases e1:fs ρ with
  | ex c=>rw [e1] at q;exact dg (base pins s σ H (fun _ _=>False) I ⟨ρ,sl,by rw [e1];exact q⟩) fun u s' ⟨v,H',I',r,z⟩=>z.elim
  | no=>rw [e1] at q;exact q.elim
  | ok ds =>
    rw [e1] at q;have q':uI X ie (.ok (zr C names ds)) H Q:=q;refine dg (base pins s σ H (fun v H'=>∃ a dx vs,v=.ref a/\H a=none/\H' a=some (.ins C dx (names.zip vs))/\bx H' ds vs/\aF H H') I ⟨ρ,sl,?_⟩) fun u s' ⟨v,H',I',r,a,dx,vs,ev,hn,ha',rp,sm⟩=>?_
    · rw [e1];intro vs H1 s1 r1 y dy hy hdy hne;rw [List.append_nil];have r2:=oV.mp r1;refine ⟨y,dy,vs,rfl,bi,by rw [r2.length];exact hfs ρ ds e1,fun H' h1 h2=>⟨rfl,y,dy,vs,rfl,s1.free hy,h1,?_,?_⟩⟩
      · have sm:aF H1 H':=fun b o eb=>by
          rw [h2 b (aU eb hy),av (aU eb hy),av (aU eb hdy)];exact eb
        exact r2.mono sm
      · intro b o eb;have eb1:=s1 b o eb;rw [h2 b (aU eb1 hy),av (aU eb1 hy),av (aU eb1 hdy)];exact eb1
    · subst ev;obtain ⟨o,J⟩:=sT I' ha';have kp:=Bi (o':=.frz o (.ins C dx (names.zip vs))) ha';refine ⟨.ref a,_,J,r,q' _ _ (fun b x eb=>by rw [av (aU eb hn)];exact sm b x eb) ?_⟩;show Rp _ (zr C names ds) _;unfold zr;simp only [Rp];refine .inr ⟨a,o,C,dx,_,rfl,bi,?_⟩;simp only [xn];exact ⟨True.intro,sZ.kp kp _ _ (vh rp)⟩⟩
noncomputable def Ez (K:PySem.W.Frag) (ta:TE) (f:Str):TE:=fun σ H Q=>ta σ H fun x H1=>∃ a o C dx fs v,x=.ref a/\H1 a=some (.frz o (.ins C dx fs))/\xq K C/\eI K C f/\fs.lookup f=some v/\Q v H1
theorem Bf {f:Str} {ta:TE} (he:PE X e ta) (hb:attributeBase e f X.env (eval e X.env)=eval e X.env):PE X (.Attribute e f pos) (Ez X.K ta f):=by
  intro pins s σ H Q I h;refine AX hb (dg (he pins s σ H _ I h) fun u s1 ⟨x,H1,I1,rx,a,o,C,dx,fs,v,ex,ea,c,n,l,q⟩=>?_);subst ex;obtain rfl:u=Value.ref a:=rx;obtain ⟨_,d,z,ne,ob,mA,nn,r,qq⟩:=(show bS X.prog X.w H1 s1.heap a (.frz o (.ins C dx fs)) from I1.hok a _ ea)
  obtain ⟨u',hu,ru⟩:=l4.some_of (v:=v) (o:=mA f) (by rw [<- l];exact r f);exact AJ I1.kIn ⟨ob,nn,ne⟩ (c.get f) c.hd n hu (wY ru) ⟨v,H1,I1.tok _,ru,q⟩
theorem lv {C:Addr} {f:Str} (cl:xq X.K C) (na:eI X.K C f) (he:Z.cx X e fe) (hb:attributeBase e f X.env (eval e X.env)=eval e X.env:=by rfl):Z.cx X (.Attribute e f pos) (e1 (kM C f) fe):=⟨have he:=he.un;by
  refine PE.imp (Bf he hb) fun σ H Q h=>?_
  refine (fD (P:=ie) (f:=fe) (k:=fun _ x=>kM C f x) (fu (X:=X) fU Q) h).post fun v H1 ⟨_,d1,_,_,p1,q1⟩=>?_
  unfold kM at q1;split at q1
  · rename_i c kvs;split at q1
    · rename_i hc;cases ef:ur f kvs with
      | no=>rw [ef] at q1;exact q1.elim
      | ex c=>exact (vA ef).elim
      | ok d =>
        rw [ef] at q1;have p2:Rp H1 (.dict ((.none,.int c)::kvs)) v:=p1;simp only [Rp] at p2;rcases p2 with ⟨a,o,ks,rfl,ha,r⟩ | ⟨a,o,C',dx,fs,rfl,ha,r⟩
        · simp only [eG,zI] at r;obtain ⟨κ,_,_,_,⟨r1,_⟩,_⟩:=r;cases κ <;> cases r1
        · simp only [xn] at r;obtain ⟨r1,r2⟩:=r;have hC:c=(C':Int):=by injection r1 with _ r3;injection r3
          have hCC:C'=C:=by
            have:(C':Int)=(C:Int):=hC.symm.trans hc;exact Int.ofNat.inj this
          subst hCC;obtain ⟨w,w1,w2⟩:=uW r2 ef;exact ⟨a,o,C',dx,fs,w,rfl,ha,cl,na,w1,q1 w H1 (aF.refl _) w2⟩
    · exact q1.elim
  · exact q1.elim⟩
end
theorem EE {a b c:Str} {x y z:V} (h1:¬ a=b) (h2:¬ a=c) (h3:¬ b=c):im c z (im b y (im a x []))=[(a,x),(b,y),(c,z)]:=by
  simp only [im,if_neg h1,if_neg h2,if_neg h3]
noncomputable abbrev gO:=List PyData->R PyData
structure hV (P:Program) (w:World) (K:PySem.W.Frag) (mg:Str->Option Value) (base:Heap) (k:Nat) (x:Str) (ps:List Str) (F:gO) (f:Addr) (fd:FuncData):Prop where
  ok:bg P w K mg base (cU P w mg) k f fd ps (du F ps.length)
  m:mg x=some (.ref f)
  kp:PySem.W.keepIn K (.ref f)=true
  b:bF K fd ps []
theorem az {X:Cx} {k:Nat} {f:Addr} {fd:FuncData} {ps:List Str} {F:gO} {x:Str} {p pos:Pos} {e:Expr} {es:List Expr} {fs:aQ->R (List PyData)} {nl:Nat} {G:List Str} (C:hV X.prog X.w X.K X.mg X.base k x ps F f fd) (hr:fx k X.A) (T:Tb X nl G) (j:Nat) (hG:G[j]?=some x) (ha:Z.uG X (e::es) fs) (hlen:(e::es).length=ps.length) (hfs:∀ ρ ds,fs ρ=.ok ds->ds.length=ps.length) (he:(e::es).all aT=true:=by rfl):Z.cx X (.Call (.Name x p) (e::es) [] pos) (aJ F fs):=⟨have ha:=ha.un;A9 C.ok hr T j hG C.m C.kp C.b ha hlen hfs he⟩
structure cD (K:PySem.W.Frag) (x:Str) (st:Stmt) (f:Addr) (fd:FuncData):Prop where
  ns:PySem.W.nsIn K mainGlobals x=some (some (.ref f))
  fn:gN K x x st f fd
theorem aZ {K:PySem.W.Frag} {x:Str} {st:Stmt} {f:Addr} {oc:Value} {od an:Option Addr} {osl:Array (Option Value)} {kV doc pm cdv ct:Value} (a:PySem.W.nsIn K mainGlobals x=some (some (.ref f))) (l:K.lookup f=some ⟨oc,od,.func (PySem.W.fnOf x x (dZ st) (cV st) (ai st) .none kV doc pm an cdv ct),osl⟩) (c:PySem.W.codeIn K cdv x=true) (k:PySem.W.keepIn K (.ref f)=true) :
    cD K x st f (PySem.W.fnOf x x (dZ st) (cV st) (ai st) .none kV doc pm an cdv ct):=⟨a,uw l c k⟩
noncomputable def EL (i:Nat) (g:Fs):Fs:=fun ρ=>match ρ[i]? with
  | some (.own d)=>g (ρ.set i (.val d))
  | _=>g ρ
theorem AM {X:Cx} {st:Stmt} {g:Fs} (i:Nat) (h:Z.kN X st g):Z.kN X st (EL i g):=⟨have h:=h.un;fun Fm=>by
  intro pins s σ H D I ⟨ρ,sl,q⟩;unfold EL at q;split at q
  · rename_i d e;obtain ⟨H2,v,I2,sl2,_,_⟩:=BF I sl e;exact h Fm pins s σ H2 D I2 ⟨_,sl2,q⟩
  · exact h Fm pins s σ H D I ⟨ρ,sl,q⟩⟩
end D2
namespace D2
open PySem PySem.Spec PyProof.Rows L2 PySem.Builtin PySem.Builtin.Str
end D2
set_option maxHeartbeats 400000
namespace D2
open PySem PySem.Spec PyProof.Rows L2 PySem.Builtin
end D2
namespace D2
open PySem PySem.Spec PyProof.Rows L2
end D2
namespace HT
open PySem PySem.Spec PyProof.Rows L2
section
open PySem.SeqAt
open PySem.AutoSeq1 (wpAny_loadPart')
open PySem.MeetsSeq PySem.MeetsSeq2 PySem.MeetsSeq3
end
end HT
namespace D2
open PySem PySem.Spec PyProof.Rows L2
noncomputable def nG (H:Hp):List V->List (List Int)->Prop
  | [],rs=>rs=[]
  | v::vs,rs=>∃ a r rs',v=.ref a/\rs=r::rs'/\H a=some (.tup (r.map V.int))/\nG H vs rs'
theorem nG.len {H:Hp}:∀ {vs:List V} {rs:List (List Int)},nG H vs rs->vs.length=rs.length
  | [],rs,h=>by simp only [nG] at h;rw [h];rfl
  | v::vs,rs,h=>by
    simp only [nG] at h;obtain ⟨a,r,rs',_,rfl,_,t⟩:=h;rw [List.length_cons,List.length_cons,t.len]
theorem wd {P:Program} {w:World} {K:PySem.W.Frag} {mg:Str->Option Value} {base:Heap} {x qual:Str} {st:Stmt} {f:Addr} {fd:FuncData} {N ps:List Str} {k:Nat} {g:Fs} (F:gN K x qual st f fd) (S:aV N ps (ai st))
    (body:∀ (cdv:Value) (A:Around) (outer:List Env) (s:Shared) (H:Hp) (E:XK),fx k (A.deeper (envOfC qual (ai st) s.heap.objs.size f cdv)) ->
      Z.lV (fV (cU P w mg) P w K mg base N qual (ai st) f cdv A outer s H E) (cV st) g):bg P w K mg base (cU P w mg) (k+1) f fd ps (du (dM N.length g) ps.length) :=
  D2.AH F S fun cdv A outer s H E hr=>(body cdv A outer s H E hr).un
theorem aH {P:Program} {w:World} {K:PySem.W.Frag} {mg:Str->Option Value} {base:Heap} {x qual:Str} {st:Stmt} {f:Addr} {fd:FuncData} {N ps:List Str} {k:Nat} {g:Fs} {G:List Str} (F:gN K x qual st f fd) (S:aV N ps (ai st)) (ck:vo (ai st) N G)
    (body:∀ (cdv:Value) (A:Around) (outer:List Env) (s:Shared) (H:Hp) (E:XK),fx k (A.deeper (envOfC qual (ai st) s.heap.objs.size f cdv))->Tb (fV (cU P w mg) P w K mg base N qual (ai st) f cdv A outer s H E) N.length G ->
      Z.lV (fV (cU P w mg) P w K mg base N qual (ai st) f cdv A outer s H E) (cV st) g):bg P w K mg base (cU P w mg) (k+1) f fd ps (du (dM N.length g) ps.length) :=
  wd F S fun cdv A outer s H E hr=>body cdv A outer s H E hr (Cl hr ck)
noncomputable def w6 {P:Program} {w:World} {K:PySem.W.Frag} {mg:Str->Option Value} {base:Heap} {f:Addr} {fd:FuncData} {ps:List Str} {n k:Nat}:bg P w K mg base (cU P w mg) k f fd ps (du (fun _=>.no) n) :=
  have no:∀ vs H Q E,¬ du (fun _=>.no) n vs H Q E:=fun vs H Q E ⟨ds,_,_,z⟩=>z
  ⟨fun vs H Q E h=>absurd h (no vs H Q E),fun A outer s H args us vs Q E _ _ _ _ h=>absurd h (no vs H Q E)⟩
noncomputable def nF (K:PySem.W.Frag):Bool:=K.all fun p=>match p.2.cls with
  | .type n=>!(n == "list")
  | _=>true
theorem o1 {α β:Type} [BEq α] {a:α} {o:β}:∀ {K:List (α×β)},K.lookup a=some o->∃ p∈K,p.2=o
  | [],e=>by cases e
  | (b,x)::r,e=>by
    rw [List.lookup_cons] at e;split at e
    · cases e;exact ⟨_,List.mem_cons_self,rfl⟩
    · obtain ⟨p,h1,h2⟩:=o1 e;exact ⟨p,List.mem_cons_of_mem _ h1,h2⟩
theorem tt {K:PySem.W.Frag} (h:nF K=true) {a:Addr} {o:Obj} (e:K.lookup a=some o) (c:o.cls=.type "list"):False:=by
  obtain ⟨p,m,rfl⟩:=o1 e;have q:=List.all_eq_true.mp h _ m;simp only [c] at q;simp at q
noncomputable def xt (F:List PyData->R PyData):Prop:=∀ ns:List Int,ns.length<=63->F [.list (ns.map .int)]=.ok (.bool true)
theorem Fh {l:PySem.W.OpenLaw} {q:Program} {loose:List Str} {XP:(Str->Option Value)->Heap->Prop} {YP:World->Heap->Prop} {d:DefRec} {K:Params->PySem.W.Frag} {k:Nat} {x:Str} {F:List PyData->R PyData} (hn:l.most=some 63) (hdf:d.params.defaults=[])
    (hr:fx k callerA) (hY:∀ (w:World) (h:Heap),YP w h->(K w.params).In h) (hF:xt F)
    (G:∀ (w:World) (mg:Str->Option Value) (fa:Addr) (h:Heap),(K w.params).In h->h.Ns mainGlobals mg->mg d.name=some (.ref fa) ->
      nF (K w.params)=true/\∃ fd:FuncData,(∀ (s:Shared) (u:Value),BindsTo s fd ⟨[u],[]⟩ [(x,u)])/\∀ base:Heap,(K w.params).In base->base.Ns mainGlobals mg->bg l.prog w (K w.params) mg base (cU l.prog w mg) k fa fd [x] (du F 1)) :
    PySem.W.WalkO q loose XP YP l.row.toRowW d [] (fun f vs=>PySem.call f vs):=by
  refine Att.attach_call hn hdf fun w s₀ s₁ mg mb fa o pm cd doc a vs ns G0 Y ho hd hcd hmg hobj hints hlen hg=>?_
  have KX:=hY w _ Y;obtain ⟨nl,fd,hb,hG⟩:=G w mg fa _ KX G0.T.g hmg;refine L2.zG (sp:=du F 1) KX G0.T.g G0.T.b G0.T.builtins G0.T.nolimit hg hobj hints (Nat.le_trans hlen (by decide)) hr hG hb (fun H hO hS=>?_) fun H e s' ⟨_,_,_,_,_,z⟩=>z
  refine ⟨[.list (ns.map .int)],bx.cons ?_ bx.nil,rfl,?_⟩
  · rcases hS with (h | ⟨o,h⟩) | ⟨o,its,n,h,c,_⟩
    · rcases hO a with z | ⟨o,xs,z⟩
      · rw [z] at h;cases h
      · rw [z] at h;cases h
    · simp only [Rp];exact ⟨a,o,_,rfl,h,bx.ints ns⟩
    · exact (tt nl h c).elim
  · rw [hF ns hlen];intro v H' _ r;simpa only [Rp] using r
section
variable {K:PySem.W.Frag} {x qual:Str} {st:Stmt} {f:Addr} {fd:FuncData} {p1 p2 p3 p4 p5 p6 p7:Str}
theorem DR (F:gN K x qual st f fd) (h:∀ (kV doc pm:Value) (an:Option Addr) (cdv ct:Value) (a1:Value),bindArgs (PySem.W.fnOf x qual (dZ st) (cV st) (ai st) .none kV doc pm an cdv ct) ⟨[a1],[]⟩=pure [(p1,a1)]):bF K fd [p1] []:=F.binds fun kV doc pm an cdv ct us hl=>match us,hl with | [a1],_=>h kV doc pm an cdv ct a1
theorem rH (F:gN K x qual st f fd) (h:∀ (kV doc pm:Value) (an:Option Addr) (cdv ct:Value) (a1 a2:Value),bindArgs (PySem.W.fnOf x qual (dZ st) (cV st) (ai st) .none kV doc pm an cdv ct) ⟨[a1,a2],[]⟩=pure [(p1,a1),(p2,a2)]):bF K fd [p1,p2] []:=F.binds fun kV doc pm an cdv ct us hl=>match us,hl with | [a1,a2],_=>h kV doc pm an cdv ct a1 a2
theorem DX (F:gN K x qual st f fd) (h:∀ (kV doc pm:Value) (an:Option Addr) (cdv ct:Value) (a1 a2 a3:Value),bindArgs (PySem.W.fnOf x qual (dZ st) (cV st) (ai st) .none kV doc pm an cdv ct) ⟨[a1,a2,a3],[]⟩=pure [(p1,a1),(p2,a2),(p3,a3)]):bF K fd [p1,p2,p3] []:=F.binds fun kV doc pm an cdv ct us hl=>match us,hl with | [a1,a2,a3],_=>h kV doc pm an cdv ct a1 a2 a3
theorem ET (F:gN K x qual st f fd) (h:∀ (kV doc pm:Value) (an:Option Addr) (cdv ct:Value) (a1 a2 a3 a4:Value),bindArgs (PySem.W.fnOf x qual (dZ st) (cV st) (ai st) .none kV doc pm an cdv ct) ⟨[a1,a2,a3,a4],[]⟩=pure [(p1,a1),(p2,a2),(p3,a3),(p4,a4)]):bF K fd [p1,p2,p3,p4] []:=F.binds fun kV doc pm an cdv ct us hl=>match us,hl with | [a1,a2,a3,a4],_=>h kV doc pm an cdv ct a1 a2 a3 a4
end
@[simp] theorem cj {α:Type} (a:α):mw (R.ok a)=.ok a:=(rfl)
noncomputable def BH:xm->R PyData
  | .rt d=>.ok d
  | .nx _=>.ok .none
  | _=>.no
theorem fK (n:Nat) (g:Fs) (ds:List PyData):dM n g ds=(g (ds.map bh.val++List.replicate (n-ds.length) .non)>>=BH):=by
  unfold dM;congr 1
@[simp] theorem EN (d:PyData):BH (.rt d)=.ok d:=(rfl)
section
variable (f g h:Fe) (ρ:aQ) (i j:Nat) (t u:aQ->R Bool) (a b:Fs) (fs:aQ->R (List PyData)) (F:List PyData->R PyData) (d e:PyData)
@[simp] theorem bE:eC d ρ=.ok d:=(rfl)
@[simp] theorem ao:ae 0 (.val d::ρ)=.ok d:=(rfl)
@[simp] theorem au (c:bh):ae (i+1) (c::ρ)=ae i ρ:=(rfl)
@[simp] theorem gT:dt 0 (.own d::ρ)=.ok d:=(rfl)
@[simp] theorem gW (c:bh):dt (i+1) (c::ρ)=dt i ρ:=(rfl)
@[simp] theorem bY (k:PyData->R PyData):e1 k f ρ=(f ρ>>=fun x=>k x):=(rfl)
@[simp] theorem br (k:PyData->PyData->R PyData):e2 k f g ρ=(f ρ>>=fun x=>g ρ>>=fun y=>k x y):=(rfl)
@[simp] theorem cB:tE f ρ=(f ρ>>=sX):=(rfl)
@[simp] theorem cZ (k:Bool):sX (.bool k)=.ok k:=(rfl)
@[simp] theorem sA:oM t u ρ=(t ρ>>=fun k=>if k=true then u ρ else .ok false):=(rfl)
@[simp] theorem jZ:oa t u ρ=(t ρ>>=fun k=>if k=true then .ok true else u ρ):=(rfl)
@[simp] theorem fS:i6 t ρ=(t ρ>>=fun k=>.ok (!k)):=(rfl)
@[simp] theorem EV:yo f g ρ=(f ρ>>=fun d=>sX d>>=fun k=>if k=true then g ρ else .ok (.bool false)):=(rfl)
@[simp] theorem Fg:EY f g ρ=(f ρ>>=fun d=>sX d>>=fun k=>if k=true then .ok (.bool true) else g ρ):=(rfl)
@[simp] theorem tY:BA t f g ρ=(t ρ>>=fun k=>if k=true then f ρ else g ρ):=(rfl)
@[simp] theorem aS:aI ρ=.ok []:=(rfl)
@[simp] theorem aN:ah f fs ρ=(f ρ>>=fun d=>fs ρ>>=fun ds=>.ok (d::ds)):=(rfl)
@[simp] theorem bd:aJ F fs ρ=(fs ρ>>=F):=(rfl)
@[simp] theorem Di (p q:PyData->PyData->R PyData):qI p q f g h ρ=(f ρ>>=fun x=>g ρ>>=fun y=>p x y>>=fun d=>sX d>>=fun k=>if k=true then h ρ>>=fun z=>q y z else .ok (.bool false)):=(rfl)
@[simp] theorem nC:sj fs ρ=(fs ρ>>=fun ds=>if ds.length<=sizeLine then .ok (.tuple ds) else .no):=(rfl)
@[simp] theorem vF:l8 fs ρ=(fs ρ>>=fun ds=>if ds.length<=sizeLine then .ok (.list ds) else .no):=(rfl)
@[simp] theorem sP:pA ρ=.ok none:=(rfl)
@[simp] theorem rm:pX f ρ=(f ρ>>=fun d=>EU d>>=fun i=>.ok (some i)):=(rfl)
@[simp] theorem BE (k:Int):EU (.int k)=.ok k:=(rfl)
@[simp] theorem yD (lo hi:Fo):Dk f lo hi ρ=(f ρ>>=fun d=>lo ρ>>=fun l=>hi ρ>>=fun u=>BG d l u):=(rfl)
@[simp] theorem sC:dX ρ=.ok (.nx ρ):=(rfl)
@[simp] theorem vJ:aY a b ρ=(a ρ>>=vw b):=(rfl)
@[simp] theorem DM:vw b (.nx ρ)=b ρ:=(rfl)
@[simp] theorem DC:vw b (.rt d)=.ok (.rt d):=(rfl)
@[simp] theorem dG:lK t a b ρ=(t ρ>>=fun k=>if k=true then a ρ else b ρ):=(rfl)
@[simp] theorem cq:cR f ρ=(f ρ>>=fun d=>.ok (.rt d)):=(rfl)
@[simp] theorem bu:bT i f ρ=(f ρ>>=fun d=>.ok (.nx (ρ.set i (.val d)))):=(rfl)
@[simp] theorem nD:gP i f ρ=(f ρ>>=fun d=>.ok (.nx (ρ.set i (.own d)))):=(rfl)
@[simp] theorem bZ:eS f ρ=(f ρ>>=iK):=(rfl)
@[simp] theorem lS:iO fs ρ=(fs ρ>>=pd):=(rfl)
@[simp] theorem cQ (ds:List PyData):iK (.tuple ds)=.ok ds:=(rfl)
@[simp] theorem tW (ds:List PyData):iK (.list ds)=.ok ds:=(rfl)
@[simp] theorem eO:iA a ρ=mw (a ρ):=(rfl)
theorem fP (it:aQ->R (List PyData)) (bb:PyData->aQ->Option aQ):ji it bb a ρ=(it ρ>>=fun ds=>fg bb a ds ρ):=rfl
@[simp] theorem fT (bb:PyData->aQ->Option aQ):fg bb a [] ρ=.ok (.nx ρ):=by unfold fg;rfl
noncomputable def sx (k:aQ->R xm):xm->R xm
  | .nx ρ=>k ρ
  | .ct ρ=>k ρ
  | .bk ρ=>.ok (.nx ρ)
  | .rt r=>.ok (.rt r)
@[simp] theorem dA (k:aQ->R xm):sx k (.nx ρ)=k ρ:=(rfl)
theorem e9 (i:Nat) (ds:List PyData):fg (aX i) a (d::ds) ρ=(a (ρ.set i (.val d))>>=sx (fg (aX i) a ds)):=by
  rw [fg];show (a (ρ.set i (.val d))>>=_)=_;congr 1
theorem wj (i j:Nat) (x y:PyData) (ds:List PyData):fg (df i j) a (.tuple [x,y]::ds) ρ=(a ((ρ.set i (.val x)).set j (.val y))>>=sx (fg (df i j) a ds)):=by
  rw [fg];show (a ((ρ.set i (.val x)).set j (.val y))>>=_)=_;congr 1
theorem aL {a b:Fs} {ρ ρ':aQ} (h:a ρ=.ok (.nx ρ')):aY a b ρ=b ρ':=by rw [vJ,h];rfl
theorem tX {a b:Fs} {ρ:aQ} {d:PyData} (h:a ρ=.ok (.rt d)):aY a b ρ=.ok (.rt d):=by rw [vJ,h];rfl
theorem eE {n:Nat} {g:Fs} {ds:List PyData} {d:PyData} (h:g (ds.map bh.val++List.replicate (n-ds.length) .non)=.ok (.rt d)):dM n g ds=.ok d:=by rw [fK,h];rfl
theorem cG (bb:PyData->aQ->Option aQ):bI bb t f ρ []=.ok []:=by unfold bI;rfl
theorem eR (i:Nat) (ds:List PyData):bI (aX i) t f ρ (d::ds)=(t (ρ.set i (.val d))>>=fun k=>if k=true then f (ρ.set i (.val d))>>=fun x=>bI (aX i) t f ρ ds>>=fun xs=>.ok (x::xs) else bI (aX i) t f ρ ds):=by
  rw [bI];rfl
theorem gF (i j:Nat) (x y:PyData) (ds:List PyData):bI (df i j) t f ρ (.tuple [x,y]::ds)=(t ((ρ.set i (.val x)).set j (.val y))>>=fun k=>if k=true then f ((ρ.set i (.val x)).set j (.val y))>>=fun x=>bI (df i j) t f ρ ds>>=fun xs=>.ok (x::xs) else bI (df i j) t f ρ ds):=by
  rw [bI];rfl
theorem yn (i j k:Nat) (x y z:PyData) (ds:List PyData):fg (t5 i j k) a (.tuple [x,y,z]::ds) ρ=(a (((ρ.set i (.val x)).set j (.val y)).set k (.val z))>>=sx (fg (t5 i j k) a ds)):=by
  rw [fg];show (a (((ρ.set i (.val x)).set j (.val y)).set k (.val z))>>=_)=_;congr 1
@[simp] theorem yF:sV f g h ρ=(f ρ>>=fun x=>g ρ>>=fun y=>h ρ>>=fun z=>mX x>>=fun xs=>mX y>>=fun ys=>mX z>>=fun zs=>.ok (ge xs ys zs)):=(rfl)
@[simp] theorem B6 (ds:List PyData):mX (.tuple ds)=.ok ds:=(rfl)
@[simp] theorem yU:yZ fs ρ=(fs ρ>>=Dp .tuple):=(rfl)
theorem ED {mk:List PyData->PyData} {n:Int} (h0:0<=n) (h1:n<=1000000):Dp mk [.int n]=.ok (mk (bJ 0 n.toNat)):=by
  show (if n<=16777216/\-(2 ^ 62)<=n then R.ok (mk (bJ 0 n.toNat)) else .no)=_;rw [if_pos (by omega)]
@[simp] theorem p8 (x y:PyData) (e:f ρ=.ok (.tuple [x,y])):wL (df i j) f ρ=.ok (.nx ((ρ.set i (.val x)).set j (.val y))):=by unfold wL;rw [e];rfl
@[simp] theorem Bj (op:Int->Int->Int):wJ i op f ρ=(ae i ρ>>=fun x=>f ρ>>=fun y=>EM op x y>>=fun z=>.ok (.nx (ρ.set i (.val z)))):=(rfl)
@[simp] theorem Dx (op:Int->Int->Int) (m n:Int):EM op (.int m) (.int n)=.ok (.int (op m n)):=(rfl)
theorem nu {ρ:aQ} {i:Nat} {ds:List PyData} {fk fv:Fe} {n:Int} {v:PyData} (h:ρ[i]?=some (.own (.list ds))) (hk:fk ρ=.ok (.int n)) (hv:fv ρ=.ok v) (h0:0<=n) (h1:n < ds.length):il i fk fv ρ=.ok (.nx (ρ.set i (.own (.list (ds.set n.toNat v))))):=by
  unfold il;rw [hv,hk,h];simp only [mw,R.ok_bind];have:L2.vb ds.length n=some n.toNat:=by unfold L2.vb;rw [if_pos h0,if_pos h1]
  rw [this]
@[simp] theorem uX:wC f g ρ=(f ρ>>=fun x=>g ρ>>=fun y=>iK x>>=fun xs=>iK y>>=fun ys=>.ok (gE xs ys)):=(rfl)
@[simp] theorem jo:mH f ρ=(f ρ>>=fun x=>iK x>>=fun xs=>.ok (cP 0 xs)):=(rfl)
theorem jQ {ρ:aQ} {i:Nat} {ds:List PyData} (f:Fe) (h:ρ[i]?=some (.own (.list ds))) (hz:ds.length < sizeLine):cO i f ρ=(mw (f ρ)>>=fun d=>.ok (.nx (ρ.set i (.own (.list (ds++[d])))))):=by
  unfold cO;congr 1;funext d;rw [h];exact if_pos hz
noncomputable def DB:R (List PyData)->R PyData
  | .ok xs=>.ok (.list xs)
  | .ex c=>.ex c
  | .no=>.no
@[simp] theorem hR (xs:List PyData):DB (.ok xs)=.ok (.list xs):=(rfl)
theorem bp (it:aQ->R (List PyData)) (own:Nat) (fr:List Nat) (bb:PyData->aQ->Option aQ):bO it own fr bb t f ρ=(mw (it ρ)>>=fun ds=>if ds.length<=sizeLine then DB (bI bb t f (aC own fr ρ) ds) else .no):=by
  unfold bO;congr 1
theorem e8 (i:Nat) (G:PyData->PyData):∀ (ds:List PyData),(∀ d∈ds,f (ρ.set i (.val d))=.ok (G d))->bI (aX i) (fun _=>.ok true) f ρ ds=.ok (ds.map G)
  | [],_=>cG ..
  | d::ds,hh=>by
    rw [eR,hh d List.mem_cons_self,e8 i G ds fun x hx=>hh x (List.mem_cons_of_mem _ hx)];rfl
end
section
variable (i j:Int) (xs ys:List PyData)
@[simp] theorem Fp:gj (.int i) (.int j)=.ok (.int (i+j)):=(rfl)
@[simp] theorem zh:gj (.tuple xs) (.tuple ys)=if xs.length+ys.length<=sizeLine then .ok (.tuple (xs++ys)) else .no:=(rfl)
@[simp] theorem uB:n6 (.int i) (.int j)=.ok (.int (i-j)):=(rfl)
@[simp] theorem qp:fY (.int i) (.int j)=if 0 < j then .ok (.int (i%j)) else .no:=(rfl)
@[simp] theorem CI:md (.int i) (.int j)=if 0 < j/\j < 1073741824 then .ok (.int (i / j)) else .no:=(rfl)
theorem Cc:gu (.int i) (.int j)=if (-(2 ^ 64) < i/\i < 2 ^ 64)\/(-(2 ^ 64) < j/\j < 2 ^ 64) then .ok (.int (i*j)) else .no:=rfl
@[simp] theorem nY (p:Int->Int->Bool):gr p (.int i) (.int j)=.ok (.bool (p i j)):=(rfl)
@[simp] theorem Fw:B7 (.int i) (.int j)=.ok (.int (if j < i then j else i)):=(rfl)
@[simp] theorem Fk:BP (.int i) (.int j)=.ok (.int (if j > i then j else i)):=(rfl)
@[simp] theorem kz:dO (.tuple xs)=.ok (.int xs.length):=(rfl)
@[simp] theorem om:dO (.list xs)=.ok (.int xs.length):=(rfl)
@[simp] theorem jB:cM (.list xs)=.ok (.tuple xs):=(rfl)
@[simp] theorem Ag:rL (.tuple xs)=.ok (.list xs):=(rfl)
@[simp] theorem Fu (k:Bool):BQ (.bool k)=.ok (.int (if k then 1 else 0)):=(rfl)
@[simp] theorem Ex (lo hi:Option Int):BG (.tuple xs) lo hi=.ok (.tuple (mU xs lo hi)):=(rfl)
@[simp] theorem Ek (lo hi:Option Int):BG (.list xs) lo hi=.ok (.list (mU xs lo hi)):=(rfl)
theorem qL {α:Type} {xs:List α} {i:Int} (h0:0<=i) (h1:i < xs.length):L2.atI xs i=some (xs[i.toNat]'(by omega)):=by
  unfold L2.atI vb;rw [if_pos h0,if_pos h1];exact List.getElem?_eq_getElem (by omega)
theorem vy {xs:List PyData} {i:Int} (h0:0<=i) (h1:i < xs.length):bC (.tuple xs) (.int i)=.ok (xs[i.toNat]'(by omega)):=by
  show (match L2.atI xs i with | some d=>R.ok d | none=>.no)=_;rw [qL h0 h1]
theorem vd {xs:List PyData} {i:Int} (h0:0<=i) (h1:i < xs.length):bC (.list xs) (.int i)=.ok (xs[i.toNat]'(by omega)):=by
  show (match L2.atI xs i with | some d=>R.ok d | none=>.no)=_;rw [qL h0 h1]
theorem u5:PyData.eqv (.int i) (.int j)=decide (i=j):=by
  simp only [PyData.eqv];by_cases h:i=j
  · subst h;simp
  · simp [h]
theorem fW:jb (.int i) (.int j)=.ok (.bool (decide (i=j))):=by
  unfold jb;rw [if_pos (by rfl),u5]
theorem sg:xp (.int i) (.int j)=.ok (.bool (!decide (i=j))):=by
  unfold xp;rw [if_pos (by rfl),u5]
end
end D2
namespace G
open PySem PySem.Spec PyProof.Rows L2 D2
noncomputable def Ec:PyData->Bool
  | .int _=>true
  | _=>false
noncomputable def noD:PyData->Prop
  | .dict _=>False
  | _=>True
noncomputable def sy (d:PyData) (lo hi:Int):Bool:=match d with
  | .int i=>decide (lo<=i)&&decide (i<=hi)
  | _=>false
noncomputable abbrev ic (d:PyData):Prop:=d.canLay0=true
theorem ic.noD {d:PyData} (h:ic d):noD d:=by
  cases d <;> first | trivial | (simp [ic,PyData.canLay0] at h)
theorem vm:∀ {ds:List PyData},PyData.canLayAll0 ds=true->∀ x∈ds,ic x
  | [],_,x,hx=>by cases hx
  | d::ds,h,x,hx=>by
    have h':d.canLay0=true/\PyData.canLayAll0 ds=true:=by simpa [PyData.canLayAll0] using h
    rcases List.mem_cons.mp hx with rfl | hx
    · exact h'.1
    · exact vm h'.2 x hx
theorem lw:∀ {ds:List PyData},(∀ x∈ds,ic x)->PyData.canLayAll0 ds=true
  | [],_=>by simp [PyData.canLayAll0]
  | d::ds,h=>by
    have h1:=h d List.mem_cons_self;have h2:=lw fun x hx=>h x (List.mem_cons_of_mem _ hx)
    simp only [PyData.canLayAll0,Bool.and_eq_true];exact ⟨h1,h2⟩
theorem kI {ds:List PyData}:ic (.tuple ds)<->∀ x∈ds,ic x:=by
  constructor
  · intro h;exact vm (by simpa [ic,PyData.canLay0] using h)
  · intro h;simp only [ic,PyData.canLay0];exact lw h
theorem sI (i:Int):ic (.int i):=by simp [ic,PyData.canLay0]
theorem vU:ic .none:=by simp [ic,PyData.canLay0]
theorem nB (p:PyData->Bool):∀ ds:List PyData,D2.lg (ds.map fun d=>.bool (p d))=some (ds.all p)
  | []=>rfl
  | d::ds=>by
    simp only [List.map_cons,D2.lg,nB p ds,List.all_cons,Option.map_some]
theorem bG {n:Nat} (h:n<=1000):n<=sizeLine:=Nat.le_trans h (by decide)
noncomputable abbrev rc (ns:List Int):PyData:=.list (ns.map .int)
theorem iL {i j:Int} (h:(-(2 ^ 64) < i/\i < 2 ^ 64)\/(-(2 ^ 64) < j/\j < 2 ^ 64)):gu (.int i) (.int j)=.ok (.int (i*j)):=by rw [Cc,if_pos h]
structure uK (c:Int) (n:Nat) (kvs:List (PyData×PyData)):Prop where
  ex:∃ ns:List Int,kvs.map (·.1)=ns.map PyData.int/\(∀ x∈ns,0<=x/\x < c)/\ns.length<=n/\(n=0\/ns≠[])/\ns.Nodup
theorem uK.put {c:Int} {n:Nat} {kvs:List (PyData×PyData)} (h:uK c n kvs) {k:Int} (h0:0<=k) (h1:k < c) (v:PyData):uK c (n+1) (um kvs (.int k) v):=by
  obtain ⟨ns,e,hb,hl,hn,nd⟩:=h.ex;have hany:(kvs.any fun kv=>gR kv.1 (.int k))=ns.any fun i=>decide (i=k):=by
    have:(kvs.any fun kv=>gR kv.1 (.int k))=(kvs.map (·.1)).any fun d=>gR d (.int k):=by rw [List.any_map];rfl
    rw [this,e,List.any_map];rfl
  unfold um;rw [hany];by_cases hm:k∈ns
  · have ha:(ns.any fun i=>decide (i=k))=true:=by simp;exact hm
    rw [if_pos ha];refine ⟨ns,?_,hb,by omega,.inr (by intro z;rw [z] at hm;cases hm),nd⟩;rw [<- e,List.map_map];apply List.map_congr_left;intro kv _;show (if gR kv.1 (.int k)=true then (kv.1,v) else kv).1=kv.1;split <;> rfl
  · have ha:¬ (ns.any fun i=>decide (i=k))=true:=by simp;exact hm
    rw [if_neg ha];refine ⟨ns++[k],by rw [List.map_append,List.map_append,e];rfl,fun x hx=>?_,by simp;omega,.inr (by simp),?_⟩
    · rcases List.mem_append.mp hx with z | z
      · exact hb x z
      · simp at z;subst z;exact ⟨h0,h1⟩
    · rw [List.nodup_append];refine ⟨nd,by simp,fun a hma b hb'=>?_⟩;simp at hb';subst hb';rintro rfl;exact hm hma
theorem uK.len {c:Int} {n:Nat} {kvs:List (PyData×PyData)} (h:uK c n kvs):kvs.length<=n:=by
  obtain ⟨ns,e,_,hl,_⟩:=h.ex;have:=congrArg List.length e;simp at this;omega
theorem sk (lo:Int) (n:Nat):∀ d∈bJ lo n,∃ k,d=.int k:=fun d hd=>by
  unfold bJ at hd;obtain ⟨k,_,rfl⟩:=List.mem_map.mp hd;exact ⟨_,rfl⟩
theorem gJ (lo:Int) (n:Nat):(bJ lo n).length=n:=by unfold bJ;simp
theorem Bh {xs:List PyData} {i:Int} (h0:0<=i) (h1:i < xs.length):∃ x∈xs,bC (.list xs) (.int i)=.ok x:=⟨_,List.getElem_mem _,vd h0 h1⟩
structure P4 where
  w:Int
  m:Int
  g:Int
  ns:List Int
noncomputable def P4.d (p:P4):PyData:=.tuple [.int p.w,.int p.m,.int p.g,.tuple (p.ns.map .int)]
structure Pl (c hi:Int) (p:P4):Prop where
  w0:0<=p.w
  w1:p.w<=1
  m0:0<=p.m
  m1:p.m<=hi
  g0:-20<=p.g
  g1:p.g<=20
  ne:p.ns≠[]
  so:p.ns.Pairwise (· < ·)
  inn:∀ x∈p.ns,0<=x/\x < c
theorem kE:∀ (ns:List Int) (l c:Int),ns.Pairwise (· < ·)->(∀ x∈ns,l<=x/\x < c)->ns=[]\/l+(ns.length:Int)<=c
  | [],_,_,_,_=>.inl rfl
  | x::r,l,c,hp,hb=>by
    right;obtain ⟨h1,h2⟩:=List.pairwise_cons.mp hp;have hx:=hb x List.mem_cons_self;rcases kE r (x+1) c h2 (fun y hy=>⟨by have:=h1 y hy;omega,(hb y (List.mem_cons_of_mem _ hy)).2⟩) with rfl | z
    · simp;omega
    · rw [List.length_cons];omega
theorem Pl.len {c hi:Int} {p:P4} (h:Pl c hi p):(p.ns.length:Int)<=c:=by
  rcases kE p.ns 0 c h.so h.inn with z | z
  · exact absurd z h.ne
  · omega
noncomputable abbrev gD (ps:List P4):PyData:=.tuple (ps.map P4.d)
theorem wt {ns:List Int} (h:ns.Pairwise (·<=·)) (nd:ns.Nodup):ns.Pairwise (· < ·):=by
  have:=h.and nd;exact this.imp fun ⟨a,b⟩=>by omega
end G
noncomputable section
namespace G
open PySem PySem.Spec PyProof.Rows L2 D2
noncomputable def jn:Fs :=
  (aY (bT 2 (e2 fY (e2 gu (e2 gj (e2 gj (ae 0) (e2 gu (eC (.int 104729)) (ae 1))) (eC (.int 17))) (eC (.int 69621))) (eC (.int 2147483647)))) (cR (e2 fY (e2 gj (e2 gj (e2 gu (ae 2) (ae 2)) (e2 gu (eC (.int 3)) (ae 2))) (ae 1)) (eC (.int 2147483629)))))
noncomputable def aA:List PyData->R PyData:=dM 3 (jn)
noncomputable def iV (aA:List PyData->R PyData):Fs :=
  (aY (gP 4 (l8 aI)) (aY (iA (ji (mH (ae 0)) (df 5 6) (aY (bT 7 (aJ aA (ah (ae 2) (ah (ae 5) aI)))) (lK (oa (tE (e2 (xp) (e2 bC (ae 6) (eC (.int 0))) (ae 1))) (oM (tE (e2 (gr qf) (ae 3) (eC (.int 0)))) (tE (e2 (jb) (e2 fY (ae 7) (ae 3)) (eC (.int 0)))))) (cO 4 (eC .none)) (cO 4 (e2 bC (e2 bC (ae 6) (eC (.int 3))) (e2 fY (e2 md (ae 7) (eC (.int 7))) (e1 dO (e2 bC (ae 6) (eC (.int 3))))))))))) (cR (e1 cM (dt 4)))))
noncomputable def ci:List PyData->R PyData:=dM 8 (iV aA)
noncomputable def h7:Fs :=
  (aY (lK (tE (e2 (gr FI) (ae 1) (e1 dO (ae 0)))) (cR (e2 bC (ae 0) (ae 1))) dX) (cR (eC (.int 0))))
noncomputable def cg:List PyData->R PyData:=dM 2 (h7)
noncomputable def jt (cg:List PyData->R PyData):Fs :=
  (aY (bT 2 (e2 fY (e2 gu (e2 gj (e2 gj (aJ cg (ah (ae 0) (ah (ae 1) aI))) (e2 gu (eC (.int 7919)) (ae 1))) (eC (.int 1))) (eC (.int 48271))) (eC (.int 2147483647)))) (cR (e2 fY (e2 gj (e2 gj (e2 gu (ae 2) (ae 2)) (e2 gu (eC (.int 7)) (ae 2))) (ae 1)) (eC (.int 2147483629)))))
noncomputable def bn:List PyData->R PyData:=dM 3 (jt cg)
noncomputable def jr (aA:List PyData->R PyData):Fs :=
  (aY (gP 2 (eC (.dict []))) (aY (iA (ji (iO (ah (e2 gj (e2 gj (eC (.int 1)) (e2 fY (ae 0) (eC (.int 3)))) (e2 gu (eC (.int 20)) (e1 BQ (e2 (jb) (e2 fY (e2 md (ae 0) (eC (.int 3))) (eC (.int 29))) (eC (.int 7)))))) aI)) (aX 3) (zQ 2 (e2 fY (aJ aA (ah (ae 0) (ah (ae 3) aI))) (ae 1)) (eC (.bool true))))) (cR (e1 cM (e1 ls (dt 2))))))
noncomputable def cY:List PyData->R PyData:=dM 4 (jr aA)
noncomputable def jl (aA:List PyData->R PyData) (cY:List PyData->R PyData):Fs :=
  (aY (bT 3 (e2 n6 (e2 fY (e2 md (ae 0) (eC (.int 26))) (eC (.int 9))) (eC (.int 4)))) (aY (lK (tE (e2 (jb) (e2 fY (e2 md (ae 0) (eC (.int 234))) (eC (.int 11))) (eC (.int 3)))) (bT 3 (e2 n6 (e2 fY (e2 md (ae 0) (eC (.int 26))) (eC (.int 41))) (eC (.int 20)))) dX) (cR (sj (ah (e2 fY (ae 0) (eC (.int 2))) (ah (e2 fY (e2 md (ae 0) (eC (.int 2))) (e2 gj (ae 2) (eC (.int 1)))) (ah (ae 3) (ah (aJ cY (ah (aJ aA (ah (ae 0) (ah (eC (.int 9)) aI))) (ah (ae 1) aI))) aI))))))))
noncomputable def cF:List PyData->R PyData:=dM 4 (jl aA cY)
noncomputable def iM (bn:List PyData->R PyData) (cF:List PyData->R PyData):Fs :=
  (aY (bT 2 (aJ bn (ah (ae 0) (ah (eC (.int 0)) aI)))) (aY (bT 3 (e2 gj (eC (.int 1)) (e2 fY (ae 2) (e2 B7 (ae 1) (e2 BP (eC (.int 4)) (e1 dO (ae 0))))))) (aY (bT 4 (e2 bC (l8 (ah (eC (.int 1)) (ah (eC (.int 2)) (ah (eC (.int 3)) (ah (eC (.int 5)) (ah (eC (.int 12)) (ah (eC (.int 12)) aI))))))) (e2 fY (e2 md (ae 2) (eC (.int 24))) (eC (.int 6))))) (cR (e1 cM (bO (iO (ah (ae 3) aI)) 1 [0,3,4] (aX 0) (fun _=>.ok true) (aJ cF (ah (aJ bn (ah (ae 1) (ah (e2 gj (eC (.int 3)) (ae 0)) aI))) (ah (ae 2) (ah (ae 3) aI))))))))))
noncomputable def cz:List PyData->R PyData:=dM 5 (iM bn cF)
noncomputable def nS:Fs :=
  (cR (yo (e1 (lf .int) (ae 0)) (Ed (e1 (lf .bool) (ae 0)))))
noncomputable def bV:List PyData->R PyData:=dM 1 (nS)
noncomputable def iD (bV:List PyData->R PyData):Fs :=
  (cR (yo (aJ bV (ah (ae 0) aI)) (qI (gr FL) (gr FL) (ae 1) (ae 0) (ae 2))))
noncomputable def cy:List PyData->R PyData:=dM 3 (iD bV)
noncomputable def dU (cy:List PyData->R PyData):Fs :=
  (cR (aJ cy (ah (ae 0) (ah (eC (.int 0)) (ah (e2 n6 (e1 dO (ae 1)) (eC (.int 1))) aI)))))
noncomputable def aB:List PyData->R PyData:=dM 2 (dU cy)
noncomputable def jX (aB:List PyData->R PyData):Fs :=
  (aY (lK (oa (i6 (tE (e1 (lf .tuple) (ae 0)))) (tE (e2 (jb) (e1 dO (ae 0)) (eC (.int 0))))) (cR (eC (.bool false))) dX) (aY (lK (i6 (tE (e1 mT (bO (eS (ae 0)) 1 [1] (aX 0) (fun _=>.ok true) (aJ aB (ah (ae 0) (ah (ae 1) aI))))))) (cR (eC (.bool false))) dX) (aY (bT 2 (e2 gj (Dk (ae 0) (pX (eC (.int 1))) pA) (Dk (ae 0) pA (pX (eC (.int 1)))))) (cR (e1 mT (bO (wC (ae 0) (ae 2)) 2 [1] (df 0 1) (fun _=>.ok true) (e2 (ni false) (ae 1) (e2 bC (e2 bC (ae 2) (ae 0)) (eC (.int 3))))))))))
noncomputable def di:List PyData->R PyData:=dM 3 (jX aB)
noncomputable def nZ (di:List PyData->R PyData):Fs :=
  (aY (lK (i6 (tE (aJ di (ah (ae 1) (ah (ae 0) aI))))) (lT (PySem.Str.ofString "NoPart") (eC (.str (PySem.Str.ofString "this is no ring of places")))) dX) (cR (e2 fY (e1 pL (bO (eS (ae 1)) 1 [0] (aX 0) (fun _=>.ok true) (e2 bC (e2 bC (ae 1) (ae 0)) (eC (.int 1))))) (eC (.int 2)))))
noncomputable def eK:List PyData->R PyData:=dM 2 (nZ di)
noncomputable def lX (bV:List PyData->R PyData):Fs :=
  (cR (EY (e2 (kc) (ae 0) (eC .none)) (yo (aJ bV (ah (ae 0) aI)) (e2 (ni false) (ae 0) (e2 bC (ae 1) (eC (.int 3)))))))
noncomputable def dB:List PyData->R PyData:=dM 2 (lX bV)
noncomputable def jC (dB:List PyData->R PyData):Fs :=
  (aY (lK (oa (i6 (tE (e1 (lf .tuple) (ae 0)))) (tE (e2 (xp) (e1 dO (ae 0)) (e1 dO (ae 1))))) (cR (eC (.bool false))) dX) (cR (e1 mT (bO (wC (ae 0) (ae 1)) 2 [] (df 0 1) (fun _=>.ok true) (aJ dB (ah (ae 0) (ah (ae 1) aI)))))))
noncomputable def cE:List PyData->R PyData:=dM 2 (jC dB)
noncomputable def fy:Fs :=
  (aY (bT 3 (sj (ah (ae 1) (ah (ae 2) aI)))) (cR (e1 cM (bO (mH (ae 0)) 2 [3] (df 0 1) (fun _=>.ok true) (e2 bC (e2 bC (ae 2) (e2 bC (ae 1) (eC (.int 0)))) (ae 0))))))
noncomputable def bz:List PyData->R PyData:=dM 4 (fy)
noncomputable def lH (cE:List PyData->R PyData) (aB:List PyData->R PyData) (bz:List PyData->R PyData):Fs :=
  (aY (lK (oa (i6 (tE (aJ cE (ah (ae 1) (ah (ae 0) aI))))) (i6 (tE (aJ cE (ah (ae 2) (ah (ae 0) aI)))))) (lT (PySem.Str.ofString "NoMoves") (eC (.str (PySem.Str.ofString "one of both is no moves")))) dX) (aY (bT 4 (aJ bz (ah (ae 0) (ah (ae 1) (ah (ae 2) aI))))) (aY (lK (tE (e2 (ni false) (eC .none) (ae 4))) (lT (PySem.Str.ofString "NoMoves") (eC (.str (PySem.Str.ofString "a place has no move by its own player's moves")))) dX) (aY (lK (i6 (tE (aJ aB (ah (ae 3) (ah (ae 0) aI))))) (lT (PySem.Str.ofString "NoPart") (eC (.str (PySem.Str.ofString "start is no place")))) dX) (aY (gP 5 (l8 aI)) (aY (bT 6 (ae 3)) (aY (iA (ql 1000000 (tE (e2 (ni true) (ae 6) (dt 5))) (aY (cO 5 (ae 6)) (bT 6 (e2 bC (ae 4) (ae 6)))))) (aY (bT 7 (uP (dt 5) (ae 6))) (cR (sj (ah (e1 cM (Dk (dt 5) pA (pX (ae 7)))) (ah (e1 cM (Dk (dt 5) (pX (ae 7)) pA)) aI))))))))))))
noncomputable def dD:List PyData->R PyData:=dM 8 (lH cE aB bz)
noncomputable def iS:Fs :=
  (cR (yZ (ah (e1 dO (ae 0)) aI)))
noncomputable def cA:List PyData->R PyData:=dM 1 (iS)
noncomputable def kJ:Fs :=
  (cR (e1 cM (bO (mH (ae 0)) 2 [1] (df 0 1) (fun _=>.ok true) (BA (tE (e2 (ni false) (ae 0) (ae 2))) (ae 1) (eC .none)))))
noncomputable def cL:List PyData->R PyData:=dM 2 (kJ)
noncomputable def gg:Fs :=
  (cR (e1 cM (bO (wC (ae 0) (ae 1)) 2 [] (df 0 1) (fun _=>.ok true) (BA (tE (e2 (kc) (ae 0) (eC .none))) (ae 1) (ae 0)))))
noncomputable def aD:List PyData->R PyData:=dM 2 (gg)
noncomputable def nJ:Fs :=
  (cR (e1 cM (bO (mH (ae 0)) 2 [] (df 0 1) (tE (e2 (mx) (ae 1) (eC .none))) (ae 0))))
noncomputable def ca:List PyData->R PyData:=dM 1 (nJ)
noncomputable def gk (ca:List PyData->R PyData):Fs :=
  (aY (gP 3 (bO (eS (ae 2)) 1 [] (aX 0) (fun _=>.ok true) (eC .none))) (aY (iA (ji (eS (aJ ca (ah (ae 2) aI))) (aX 4) (lK (oM (tE (e2 (jb) (e2 bC (e2 bC (ae 0) (ae 4)) (eC (.int 0))) (ae 1))) (tE (e2 (gr qf) (e2 bC (ae 2) (ae 4)) (eC (.int 0))))) (il 3 (ae 4) (e2 bC (bO (eS (e2 bC (e2 bC (ae 0) (ae 4)) (eC (.int 3)))) 1 [2,4] (aX 0) (tE (e2 (jb) (e2 bC (ae 1) (ae 0)) (e2 n6 (e2 bC (ae 1) (ae 2)) (eC (.int 1))))) (ae 0)) (eC (.int 0)))) dX))) (cR (e1 cM (dt 3)))))
noncomputable def bf:List PyData->R PyData:=dM 5 (gk ca)
noncomputable def nI:Fs :=
  (cR (e1 cM (bO (eS (ae 0)) 1 [1] (aX 0) (tE (e2 (ni false) (ae 0) (ae 1))) (ae 0))))
noncomputable def cb:List PyData->R PyData:=dM 2 (nI)
noncomputable def jI:Fs :=
  (aY (bT 4 (bO (eS (ae 1)) 1 [3] (aX 0) (tE (e2 (mx) (e2 bC (ae 1) (ae 0)) (eC .none))) (ae 0))) (aY (lK (tE (e2 (jb) (e2 bC (ae 0) (eC (.int 0))) (ae 2))) (cR (e2 (gr qf) (e1 dO (ae 4)) (eC (.int 0)))) dX) (cR (e2 (jb) (e1 dO (ae 4)) (e1 dO (ae 1))))))
noncomputable def bQ:List PyData->R PyData:=dM 5 (jI)
noncomputable def kF (cb:List PyData->R PyData) (bQ:List PyData->R PyData):Fs :=
  (aY (bT 4 (bO (eS (ae 0)) 1 [1] (aX 0) (fun _=>.ok true) (aJ cb (ah (e2 bC (ae 0) (eC (.int 3))) (ah (ae 1) aI))))) (aY (gP 5 (bO (iO (ah (e1 dO (ae 0)) aI)) 1 [3] (aX 0) (fun _=>.ok true) (BA (tE (e2 (ni false) (ae 0) (ae 1))) (eC (.int 0)) (eC .none)))) (aY (bT 6 (eC (.int 0))) (aY (bT 7 (e1 rL (ae 3))) (aY (iA (ql 1000000 (tE (e2 (gr qf) (e1 dO (ae 7)) (eC (.int 0)))) (aY (wJ 6 (fun a b=>a+b) (eC (.int 1))) (aY (bT 8 (bO (eS (ae 1)) 1 [5] (aX 0) (tE (e2 (kc) (e2 bC (dt 1) (ae 0)) (eC .none))) (ae 0))) (aY (bT 7 (bO (eS (ae 8)) 1 [0,4,2,5] (aX 0) (tE (kj 4 (aJ bQ (ah (e2 bC (ae 1) (ae 0)) (ah (e2 bC (ae 2) (ae 0)) (ah (ae 3) (ah (ae 4) aI))))))) (ae 0))) (iA (ji (eS (ae 7)) (aX 9) (il 5 (ae 9) (ae 6))))))))) (cR (e1 cM (dt 5))))))))
noncomputable def cs:List PyData->R PyData:=dM 10 (kF cb bQ)
noncomputable def kK:Fs :=
  (cR (e1 cM (bO (eS (ae 0)) 1 [] (aX 0) (fun _=>.ok true) (eC .none))))
noncomputable def bP:List PyData->R PyData:=dM 1 (kK)
noncomputable def gi (cb:List PyData->R PyData) (bP:List PyData->R PyData):Fs :=
  (aY (gP 3 (e1 rL (aJ bP (ah (ae 0) aI)))) (aY (iA (ji (eS (ae 2)) (aX 4) (lK (tE (e2 (jb) (e2 bC (e2 bC (ae 0) (ae 4)) (eC (.int 0))) (ae 1))) (il 3 (ae 4) (e2 bC (aJ cb (ah (e2 bC (e2 bC (ae 0) (ae 4)) (eC (.int 3))) (ah (ae 2) aI))) (eC (.int 0)))) dX))) (cR (e1 cM (dt 3)))))
noncomputable def bt:List PyData->R PyData:=dM 5 (gi cb bP)
noncomputable def mm:Fs :=
  (cR (e1 cM (bO (eS (ae 0)) 1 [1] (aX 0) (tE (e2 (ni true) (ae 0) (ae 1))) (ae 0))))
noncomputable def bM:List PyData->R PyData:=dM 2 (mm)
noncomputable def ed (cL:List PyData->R PyData) (aD:List PyData->R PyData) (bf:List PyData->R PyData) (ca:List PyData->R PyData) (cs:List PyData->R PyData) (bt:List PyData->R PyData) (aG:List PyData->R PyData) (bM:List PyData->R PyData) (c_Share:Addr):Fs :=
  (aY (bT 2 (e1 pL (bO (eS (ae 1)) 1 [0] (aX 0) (fun _=>.ok true) (e2 bC (e2 bC (ae 1) (ae 0)) (eC (.int 1)))))) (aY (bT 3 (e2 fY (ae 2) (eC (.int 2)))) (aY (bT 4 (e2 n6 (eC (.int 1)) (ae 3))) (aY (bT 5 (bO (eS (ae 1)) 1 [0,2] (aX 0) (tE (e2 (jb) (e2 bC (e2 bC (ae 1) (ae 0)) (eC (.int 1))) (ae 2))) (ae 0))) (aY (bT 6 (aJ cs (ah (ae 0) (ah (ae 1) (ah (ae 3) (ah (ae 5) aI)))))) (aY (bT 7 (aJ aG (ah (ae 0) (ah (aJ bM (ah (ae 1) (ah (aJ ca (ah (ae 6) aI)) aI))) aI)))) (aY (bT 8 (bO (mH (e2 bC (ae 7) (eC (.int 0)))) 2 [4] (df 0 1) (tE (e2 (jb) (ae 1) (ae 2))) (ae 0))) (aY (lK (tE (e2 (jb) (e1 dO (ae 8)) (eC (.int 0)))) (aY (bT 9 (aJ aD (ah (aJ bf (ah (ae 0) (ah (ae 3) (ah (ae 6) aI)))) (ah (e2 bC (ae 7) (eC (.int 1))) aI)))) (cR (si c_Share ["who","places","moves"] (ah (ae 3) (ah (ae 1) (ah (aJ aD (ah (ae 9) (ah (aJ bt (ah (ae 0) (ah (ae 3) (ah (ae 1) aI)))) aI))) aI)))))) dX) (aY (bT 6 (aJ cs (ah (ae 0) (ah (ae 1) (ah (ae 4) (ah (ae 8) aI)))))) (aY (bT 9 (aJ aD (ah (aJ bf (ah (ae 0) (ah (ae 4) (ah (ae 6) aI)))) (ah (aJ cL (ah (e2 bC (ae 7) (eC (.int 1))) (ah (ae 8) aI))) aI)))) (cR (si c_Share ["who","places","moves"] (ah (ae 4) (ah (aJ ca (ah (ae 6) aI)) (ah (ae 9) aI)))))))))))))))
noncomputable def eF (aD:List PyData->R PyData) (bP:List PyData->R PyData) (c_Share:Addr):Fs :=
  (aY (gP 2 (bO (eS (ae 0)) 1 [] (aX 0) (fun _=>.ok true) (eC .none))) (aY (bT 3 (aJ bP (ah (ae 0) aI))) (aY (iA (ji (eS (ae 1)) (aX 4) (aY (iA (ji (eS (e1 (kM c_Share "places") (ae 4))) (aX 5) (il 2 (ae 5) (e1 (kM c_Share "who") (ae 4))))) (bT 3 (aJ aD (ah (ae 3) (ah (e1 (kM c_Share "moves") (ae 4)) aI))))))) (cR (sj (ah (e1 cM (dt 2)) (ah (ae 3) aI)))))))
noncomputable def bc (c_Share:Addr):List PyData->R PyData:=dM 6 (eF aD bP c_Share)
noncomputable def eu (aW:List PyData->R PyData) (bc:List PyData->R PyData) (bM:List PyData->R PyData) (c_Share:Addr):Fs :=
  (aY (gP 2 (l8 aI)) (aY (bT 3 (ae 1)) (aY (iA (ql 1000000 (tE (e2 (gr qf) (e1 dO (ae 3)) (eC (.int 0)))) (aY (bT 4 (aJ aW (ah (ae 0) (ah (ae 3) aI)))) (aY (cO 2 (ae 4)) (bT 3 (aJ bM (ah (ae 3) (ah (e1 (kM c_Share "places") (ae 4)) aI)))))))) (EL 2 (cR (aJ bc (ah (ae 0) (ah (ae 2) aI))))))))
noncomputable def aG (c_Share:Addr):Nat->List PyData->R PyData
  | 0=>fun _=>.no
  | k+1=>dM 5 (eu (dM 10 (ed cL aD bf ca cs bt (aG c_Share k) bM c_Share)) (bc c_Share) bM c_Share)
noncomputable def aW (c_Share:Addr) (k:Nat):List PyData->R PyData:=dM 10 (ed cL aD bf ca cs bt (aG c_Share k) bM c_Share)
noncomputable def zA (cA:List PyData->R PyData) (aG:List PyData->R PyData):Fs :=
  (cR (aJ aG (ah (ae 0) (ah (aJ cA (ah (ae 0) aI)) aI))))
noncomputable def kZ (c_Share:Addr):List PyData->R PyData:=dM 1 (zA cA (aG c_Share 14))
noncomputable def yq (ci:List PyData->R PyData) (aA:List PyData->R PyData) (cz:List PyData->R PyData) (bn:List PyData->R PyData) (eK:List PyData->R PyData) (dD:List PyData->R PyData) (kZ:List PyData->R PyData):Fs :=
  (aY (bT 1 (aJ cz (ah (ae 0) (ah (eC (.int 24)) aI)))) (aY (wL (df 2 3) (aJ kZ (ah (ae 1) aI))) (aY (iA (ji (iO (ah (eC (.int 4)) aI)) (aX 4) (aY (bT 5 (bO (eS (sj (ah (eC (.int 0)) (ah (eC (.int 1)) aI)))) 1 [1,0,4] (aX 0) (fun _=>.ok true) (aJ ci (ah (ae 1) (ah (ae 0) (ah (aJ aA (ah (aJ bn (ah (ae 2) (ah (eC (.int 1)) aI))) (ah (ae 3) aI))) (ah (eC (.int 0)) aI))))))) (iA (ji (iO (ah (e1 dO (ae 1)) aI)) (aX 6) (aY (bT 7 (e2 bC (ae 2) (ae 6))) (aY (gP 8 (l8 aI)) (aY (iA (ji (sV (ae 1) (ae 3) (e2 bC (ae 5) (ae 7))) (t5 9 10 11) (lK (oa (tE (e2 (kc) (ae 10) (eC .none))) (tE (e2 (xp) (e2 bC (ae 9) (eC (.int 0))) (ae 7)))) (cO 8 (ae 11)) (cO 8 (ae 10))))) (aY (bT 12 (l8 (ah (e1 cM (dt 8)) (ah (e2 bC (ae 5) (eC (.int 1))) aI)))) (aY (lK (tE (e2 (jb) (ae 7) (eC (.int 1)))) (bT 12 (l8 (ah (e2 bC (ae 5) (eC (.int 0))) (ah (e1 cM (dt 8)) aI)))) dX) (aY (wL (df 13 14) (aJ dD (ah (ae 1) (ah (e2 bC (ae 12) (eC (.int 0))) (ah (e2 bC (ae 12) (eC (.int 1))) (ah (ae 6) aI)))))) (lK (oa (i6 (tE (e1 mT (bO (eS (e2 gj (ae 13) (ae 14))) 1 [2,7] (aX 0) (fun _=>.ok true) (e2 (jb) (e2 bC (ae 1) (ae 0)) (ae 2)))))) (tE (e2 (xp) (aJ eK (ah (ae 1) (ah (ae 14) aI))) (ae 7)))) (cR (eC (.bool false))) dX)))))))))))) (cR (eC (.bool true))))))
noncomputable def vD (c_Share:Addr):List PyData->R PyData:=dM 15 (yq ci aA cz bn eK dD (kZ c_Share))
end G
end
namespace G
open PySem PySem.Spec PyProof.Rows L2 D2
theorem z0 (ns:List Int) {k:Int} (hk:0<=k):∃ v,cg [rc ns,.int k]=.ok (.int v):=by
  unfold cg h7;by_cases h:k < ns.length
  · refine ⟨ns[k.toNat]'(by omega),?_⟩;have hx:=vd (xs:=ns.map PyData.int) (i:=k) hk (by simpa using h);rw [fK];simp [h,hx]
  · refine ⟨0,?_⟩;rw [fK];simp [h]
theorem nL (ns:List Int) {k:Int} (hk:0<=k):∃ v,bn [rc ns,.int k]=.ok (.int v)/\0<=v/\v < 2147483629:=by
  obtain ⟨c,hc⟩:=z0 ns hk;unfold bn jt;have m1:gu (.int 7919) (.int k)=.ok (.int (7919*k)):=iL (.inl (by omega));have m2:gu (.int (c+7919*k+1)) (.int 48271)=.ok (.int ((c+7919*k+1)*48271)):=iL (.inr (by omega));generalize hd:(c+7919*k+1)*48271%2147483647=d;have hd0:0<=d:=by omega
  have hd1:d < 2147483647:=by omega
  have m3:gu (.int d) (.int d)=.ok (.int (d*d)):=iL (.inl (by omega));have m4:gu (.int 7) (.int d)=.ok (.int (7*d)):=iL (.inl (by omega));refine ⟨(d*d+7*d+k)%2147483629,?_,by omega,by omega⟩;rw [fK];simp [hc,m1,m2,hd,m3,m4,List.replicate]
theorem kO (n k:Int):∃ v,aA [.int n,.int k]=.ok (.int v)/\0<=v/\v < 2147483629:=by
  unfold aA jn;have m1:gu (.int 104729) (.int k)=.ok (.int (104729*k)):=iL (.inl (by omega));have m2:gu (.int (n+104729*k+17)) (.int 69621)=.ok (.int ((n+104729*k+17)*69621)):=iL (.inr (by omega));generalize hd:(n+104729*k+17)*69621%2147483647=d;have hd0:0<=d:=by omega
  have hd1:d < 2147483647:=by omega
  have m3:gu (.int d) (.int d)=.ok (.int (d*d)):=iL (.inl (by omega));have m4:gu (.int 3) (.int d)=.ok (.int (3*d)):=iL (.inl (by omega));refine ⟨(d*d+3*d+k)%2147483629,?_,by omega,by omega⟩;rw [fK];simp [m1,m2,hd,m3,m4,List.replicate]
theorem oy (n c:Int) (hc:1<=c):∀ (ds:List PyData) (m:Nat) (kvs:List (PyData×PyData)) (x:bh),uK c m kvs->(∀ d∈ds,∃ k,d=.int k)->m+ds.length<=1000 ->
    ∃ kvs' x',uK c (m+ds.length) kvs'/\fg (aX 3) (zQ 2 (e2 fY (aJ aA (ah (ae 0) (ah (ae 3) aI))) (ae 1)) (eC (.bool true))) ds [.val (.int n),.val (.int c),.own (.dict kvs),x]
      = .ok (.nx [.val (.int n),.val (.int c),.own (.dict kvs'),x'])
  | [],m,kvs,x,hk,_,_=>⟨kvs,x,hk,by rw [fT]⟩
  | d::ds,m,kvs,x,hk,hi,hl=>by
    obtain ⟨k,rfl⟩:=hi d List.mem_cons_self;obtain ⟨v,hv,v0,v1⟩:=kO n k;have hk':=hk.put (k:=v%c) (Int.emod_nonneg _ (by omega)) (Int.emod_lt_of_pos _ (by omega)) (.bool true);obtain ⟨kvs',x',h1,h2⟩:=oy n c hc ds (m+1) _ (.val (.int k)) hk' (fun d hd=>hi d (List.mem_cons_of_mem _ hd)) (by simp at hl;omega);refine ⟨kvs',x',by rw [List.length_cons];simpa [Nat.add_comm,Nat.add_left_comm,Nat.add_assoc] using h1,?_⟩;have hlen:=hk.len;have hsz:kvs.length < sizeLine:=Nat.lt_of_le_of_lt (show kvs.length<=1000 by simp at hl;omega) (by decide);have hc':0 < c:=by omega
    rw [e9,<- h2];simp [zQ,hv,hc',iq,hsz]
theorem we {n c:Int} (hn:0<=n) (hc:1<=c):∃ ns:List Int,cY [.int n,.int c]=.ok (.tuple (ns.map .int))/\(∀ x∈ns,0<=x/\x < c)/\ns≠[]/\ns.Pairwise (· < ·):=by
  unfold cY jr;have m1:∀ k:Int,gu (.int 20) (.int k)=.ok (.int (20*k)):=fun k=>iL (.inl (by omega))
  generalize hN:(1+n%3+20*(if n / 3%29=7 then 1 else 0):Int)=N;have hN0:1<=N:=by split at hN <;> omega
  have hN1:N<=23:=by split at hN <;> omega
  obtain ⟨kvs,x,hk,hf⟩:=oy n c hc (bJ 0 N.toNat) 0 [] .non ⟨[],rfl,by simp,by simp,.inl rfl,by simp⟩ (sk _ _) (by rw [gJ];omega);obtain ⟨ns,e,hb,hl,hz,nd⟩:=hk.ex;rw [gJ] at hl hz;have hi:cr (kvs.map (·.1))=some ns:=by rw [e,gY]
  have hs:ls (.dict kvs)=.ok (.list ((gp ns).map PyData.int)):=by
    show (match cr (kvs.map (·.1)) with | some ns=>if ns.length < 64 then R.ok (PyData.list ((gp ns).map PyData.int)) else .no | none=>.no)=_;rw [hi];exact if_pos (by omega)
  have hr:-(2 ^ 62)<=N/\N < 2 ^ 62:=by omega
  refine ⟨gp ns,?_,fun x hx=>hb x ((fF ns).mem_iff.mp hx),?_,wt (iE ns) ((fF ns).nodup_iff.mpr nd)⟩
  · rw [fK];have hg:pd [.int N]=.ok (bJ 0 N.toNat):=by
      show (if -(2 ^ 62)<=N/\N < 2 ^ 62 then R.ok (bJ 0 N.toNat) else .no)=_;rw [if_pos hr]
    simp [fP,fW,m1,List.replicate,hN,hg,hf,hs]
  · intro z;have:=(fF ns).length_eq;rw [z] at this;rcases hz with q | q
    · omega
    · exact q (List.eq_nil_of_length_eq_zero this.symm)
theorem wc {n c h:Int} (hn:0<=n) (hc:1<=c) (h0:0<=h):∃ p:P4,cF [.int n,.int c,.int h]=.ok p.d/\Pl c h p:=by
  obtain ⟨v,hv,v0,v1⟩:=kO n 9;obtain ⟨ns,hg,hb,hne,hso⟩:=we (n:=v) (c:=c) v0 hc;unfold cF jl;have hh:0 < h+1:=by omega
  have s4:4<=sizeLine:=by decide
  have a1:=Int.emod_nonneg (n / 2) (show h+1≠0 by omega);have a2:=Int.emod_lt_of_pos (n / 2) hh;by_cases hq:n / 234%11=3
  · refine ⟨⟨n%2,n / 2%(h+1),n / 26%41-20,ns⟩,?_,⟨by dsimp only;omega,by dsimp only;omega,a1,by dsimp only;omega,by dsimp only;omega,by dsimp only;omega,hne,hso,hb⟩⟩;rw [fK];simp [hh,fW,hq,hv,hg,s4,P4.d]
  · refine ⟨⟨n%2,n / 2%(h+1),n / 26%9-4,ns⟩,?_,⟨by dsimp only;omega,by dsimp only;omega,a1,by dsimp only;omega,by dsimp only;omega,by dsimp only;omega,hne,hso,hb⟩⟩;rw [fK];simp [hh,fW,hq,hv,hg,s4,P4.d]
theorem rN (f:Fe) (ρ:aQ) (i:Nat) (P:P4->Prop):∀ ds:List PyData,(∀ d∈ds,∃ p:P4,f (ρ.set i (.val d))=.ok p.d/\P p)->∃ ps:List P4,bI (aX i) (fun _=>.ok true) f ρ ds=.ok (ps.map P4.d)/\ps.length=ds.length/\∀ p∈ps,P p
  | [],_=>⟨[],cG ..,rfl,by simp⟩
  | d::ds,h=>by
    obtain ⟨x,h1,h2⟩:=h d List.mem_cons_self;obtain ⟨xs,h3,h4,h5⟩:=rN f ρ i P ds fun d hd=>h d (List.mem_cons_of_mem _ hd)
    refine ⟨x::xs,?_,by simp [h4],fun y hy=>?_⟩
    · rw [eR,h1,h3];rfl
    · rcases List.mem_cons.mp hy with rfl | hy
      · exact h2
      · exact h5 y hy
theorem uu (ns:List Int) {most:Int} (hm0:1<=most) (hm1:most<=24):∃ (ps:List P4) (hi:Int),cz [rc ns,.int most]=.ok (gD ps)/\(∀ p∈ps,Pl ps.length hi p)/\1<=ps.length/\(ps.length:Int)<=most/\0<=hi/\hi<=12:=by
  obtain ⟨v,hv,v0,v1⟩:=nL ns (k:=0) (by omega);unfold cz iM;generalize hm:(if (if (ns.length:Int) > 4 then (ns.length:Int) else 4) < most then (if (ns.length:Int) > 4 then (ns.length:Int) else 4) else most)=m;have m0:0 < m:=by split at hm <;> split at hm <;> omega
  have m1:m<=most:=by split at hm <;> split at hm <;> omega
  generalize hc:1+v%m=c;have c0:1<=c:=by have:=Int.emod_nonneg v (show m≠0 by omega);omega
  have c1:c<=most:=by have:=Int.emod_lt_of_pos v m0;omega
  have hix:∃ h,bC (.list [.int 1,.int 2,.int 3,.int 5,.int 12,.int 12]) (.int (v / 24%6))=.ok (.int h)/\0<=h/\h<=12:=by
    obtain ⟨x,hx,e⟩:=Bh (xs:=[.int 1,.int 2,.int 3,.int 5,.int 12,.int 12]) (i:=v / 24%6) (by omega) (by simp;omega);rw [e];simp at hx;rcases hx with rfl | rfl | rfl | rfl | rfl <;> exact ⟨_,rfl,by decide,by decide⟩
  obtain ⟨h,hh,h0,h1⟩:=hix;have s6:6<=sizeLine:=by decide
  have hr:pd [.int c]=.ok (bJ 0 c.toNat):=by
    show (if -(2 ^ 62)<=c/\c < 2 ^ 62 then R.ok (bJ 0 c.toNat) else .no)=_;rw [if_pos (by omega)]
  obtain ⟨xs,e1,e2,e3⟩:=rN (aJ cF (ah (aJ bn (ah (ae 1) (ah (e2 gj (eC (.int 3)) (ae 0)) aI))) (ah (ae 2) (ah (ae 3) aI)))) (aC 1 [0,3,4] [.val (rc ns),.val (.int most),.val (.int v),.val (.int c),.val (.int h)]) 0 (Pl c h) (bJ 0 c.toNat) fun d hd=>by
    unfold bJ at hd;obtain ⟨k,_,rfl⟩:=List.mem_map.mp hd;obtain ⟨w,hw,w0,w1⟩:=nL ns (k:=3+(0+(k:Int))) (by omega);obtain ⟨d,hd1,hd2⟩:=wc (n:=w) (c:=c) (h:=h) w0 c0 h0;refine ⟨d,?_,hd2⟩;simp at hw;simp [aC,List.replicate,hw,hd1]
  rw [gJ] at e2;have ec:(xs.length:Int)=c:=by omega
  refine ⟨xs,h,?_,by rw [ec];exact e3,by omega,by omega,h0,h1⟩;rw [fK];simp [hv,hm,m0,hc,s6,hh,List.replicate,bp,hr,gJ,bG (show c.toNat<=1000 by omega),e1]
noncomputable def dc (ns:List Int) (i:Int):Bool:=ns.any fun j=>decide (j=i)
theorem bU {ns:List Int} {i:Int}:dc ns i=true<->i∈ns:=by
  unfold dc;rw [List.any_eq_true];constructor
  · rintro ⟨j,hj,e⟩;have:=of_decide_eq_true e;exact this ▸ hj
  · exact fun h=>⟨i,h,decide_eq_true rfl⟩
theorem je:∀ ns:List Int,PyData.depthAll (ns.map .int)=0
  | []=>by simp [PyData.depthAll]
  | n::ns=>by simp [PyData.depthAll,PyData.depth,je ns]
theorem oq (ns:List Int):PyData.canLayAll0 (ns.map .int)=true:=lw fun x hx=>by
  obtain ⟨i,_,rfl⟩:=List.mem_map.mp hx;exact sI i
theorem pN (ns:List Int) (i:Int):mW (ns.map .int) (.int i)=true:=by
  unfold mW;rw [oq,je];simp [PyData.canLay0]
theorem rG (ns:List Int) (i:Int):((ns.map PyData.int).any fun y=>PyData.eqv y (.int i))=dc ns i:=by
  rw [List.any_map];congr 1
theorem CB (ns:List Int) (i:Int) (neg:Bool):ni neg (.int i) (.tuple (ns.map .int))=.ok (.bool (if neg then !dc ns i else dc ns i)):=by
  show (if mW (ns.map .int) (.int i)=true then R.ok (PyData.bool _) else .no)=_;rw [if_pos (pN ns i),rG]
theorem DO (ns:List Int) (i:Int) (neg:Bool):ni neg (.int i) (.list (ns.map .int))=.ok (.bool (if neg then !dc ns i else dc ns i)):=by
  show (if mW (ns.map .int) (.int i)=true then R.ok (PyData.bool _) else .no)=_;rw [if_pos (pN ns i),rG]
theorem dk {t:aQ->R Bool} {ρ:aQ} {p:Int->Bool}:∀ ns:List Int,(∀ x∈ns,t ((bh.non::ρ).set 0 (.val (.int x)))=.ok (p x))->bI (aX 0) t (ae 0) (.non::ρ) (ns.map .int)=.ok ((ns.filter p).map .int)
  | [],_=>cG ..
  | x::ns,h=>by
    rw [List.map_cons,eR,h x List.mem_cons_self,dk ns fun y hy=>h y (List.mem_cons_of_mem _ hy)];cases hp:p x with
    | true=>rw [List.filter_cons_of_pos hp];rfl
    | false=>rw [List.filter_cons_of_neg (by rw [hp];simp)];rfl
theorem kH (c:Nat):bJ 0 c=((List.range c).map fun (k:Nat)=>(k:Int)).map .int:=by
  unfold bJ;rw [List.map_map];apply List.map_congr_left;intro k _;simp
noncomputable def ay (ps:List P4) (i:Int):List Int:=(ps[i.toNat]?.map (·.ns)).getD []
theorem lB {ps:List P4} {i:Int} (h0:0<=i) (h1:i < ps.length):bC (gD ps) (.int i)=.ok (ps[i.toNat]'(by omega)).d:=by
  rw [vy h0 (by simpa using h1)];simp
theorem dS {ps:List P4} {i:Int} (h0:0<=i) (h1:i < ps.length):ay ps i=(ps[i.toNat]'(by omega)).ns:=by
  unfold ay;rw [List.getElem?_eq_getElem (by omega)];rfl
theorem nV (p:P4):bC p.d (.int 3)=.ok (.tuple (p.ns.map .int)):=rfl
theorem qT (p:P4):bC p.d (.int 0)=.ok (.int p.w):=rfl
noncomputable def am (ps:List P4) (i:Int):Int:=(ps[i.toNat]?.map (·.w)).getD 0
theorem gG {ps:List P4} {i:Int} (h0:0<=i) (h1:i < ps.length):am ps i=(ps[i.toNat]'(by omega)).w:=by
  unfold am;rw [List.getElem?_eq_getElem (by omega)];rfl
noncomputable def bH (ps:List P4) (js:List Int) (i:Int):List Int:=(ay ps i).filter (dc js)
noncomputable def mL (ps:List P4) (js kn:List Int) (i:Int):List Int:=(bH ps js i).filter (dc kn)
noncomputable def jE (ps:List P4) (js:List Int) (who:Int) (kn:List Int) (i:Int):Bool :=
  !dc kn i&&(decide (0 < (mL ps js kn i).length)&&(decide (am ps i=who)||decide ((mL ps js kn i).length=(bH ps js i).length)))
noncomputable def ff (ps:List P4) (js:List Int) (who:Int) (kn is:List Int):List Int:=is.filter (jE ps js who kn)
noncomputable def da (ps:List P4) (js:List Int) (who r:Int) (kvs:List (Int×Int)):List (Int×Int):=kvs++(ff ps js who (kvs.map (·.1)) js).map fun i=>(i,r)
noncomputable def gQ (ps:List P4) (js:List Int) (who:Int):Int->Nat->List (Int×Int)->List (Int×Int)
  | _,0,kvs=>kvs
  | r,n+1,kvs=>gQ ps js who (r+1) n (da ps js who r kvs)
theorem jY:∀ {l m:List Int},l.Nodup->(∀ x∈l,x∈m)->l.length<=m.length
  | [],m,_,_=>Nat.zero_le _
  | x::l,m,nd,h=>by
    obtain ⟨n1,n2⟩:=List.nodup_cons.mp nd;have hx:=h x List.mem_cons_self;have:=jY (m:=m.erase x) n2 fun y hy=>(List.mem_erase_of_ne (by rintro rfl;exact n1 hy)).mpr (h y (List.mem_cons_of_mem _ hy))
    rw [List.length_erase_of_mem hx] at this;have hp:=List.length_pos_of_mem hx;rw [List.length_cons];omega
structure jq (js:List Int) (kvs:List (Int×Int)):Prop where
  nd:(kvs.map (·.1)).Nodup
  sub:∀ x∈kvs.map (·.1),x∈js
theorem jq.len {js:List Int} {kvs:List (Int×Int)} (h:jq js kvs) (nj:js.Nodup):kvs.length<=js.length:=by
  have:=jY h.nd h.sub;simpa using this
theorem ku (ps:List P4) (js:List Int) (who r:Int) (kvs:List (Int×Int)):(da ps js who r kvs).map (·.1)=kvs.map (·.1)++ff ps js who (kvs.map (·.1)) js:=by
  unfold da;rw [List.map_append,List.map_map];congr 1;exact List.map_id _
theorem oB {ps:List P4} {js:List Int} {who:Int} {kn is:List Int} {x:Int} (h:x∈ff ps js who kn is):x∈is/\x∉kn:=by
  obtain ⟨h1,h2⟩:=List.mem_filter.mp h;refine ⟨h1,fun z=>?_⟩;unfold jE at h2;rw [bU.mpr z] at h2;simp at h2
theorem jq.round {ps:List P4} {js:List Int} {who r:Int} {kvs:List (Int×Int)} (h:jq js kvs) (nj:js.Nodup):jq js (da ps js who r kvs):=by
  refine ⟨?_,fun x hx=>?_⟩
  · rw [ku,List.nodup_append];refine ⟨h.nd,List.Pairwise.filter _ nj,fun a ha b hb e=>?_⟩;subst e;exact (oB hb).2 ha
  · rw [ku,List.mem_append] at hx;rcases hx with z | z
    · exact h.sub x z
    · exact (oB z).1
theorem kX (ps:List P4) (js:List Int) (who:Int):∀ (n:Nat) (r:Int) (kvs:List (Int×Int)),gQ ps js who r (n+1) kvs=da ps js who (r+n) (gQ ps js who r n kvs)
  | 0,r,kvs=>by
    show da ps js who r kvs=da ps js who (r+((0:Nat):Int)) kvs;simp
  | n+1,r,kvs=>by
    show gQ ps js who (r+1) (n+1) (da ps js who r kvs)=_;rw [kX ps js who n (r+1)];show da ps js who (r+1+n) _=da ps js who (r+((n+1:Nat):Int)) _;rw [show r+1+(n:Int)=r+((n+1:Nat):Int) by omega];rfl
noncomputable def aK (ps:List P4) (js:List Int) (who:Int) (gs:List Int):Nat->List Int
  | 0=>gs
  | m+1=>aK ps js who gs m++ff ps js who (aK ps js who gs m) js
noncomputable def xa (ps:List P4) (js:List Int) (who:Int) (gs:List Int) (m:Nat):List (Int×Int):=gQ ps js who 1 m (gs.map fun i=>(i,0))
theorem nU (ps:List P4) (js:List Int) (who:Int) (gs:List Int) (m:Nat):xa ps js who gs (m+1)=da ps js who (m+1) (xa ps js who gs m):=by
  unfold xa;rw [kX];congr 1;omega
theorem fw (ps:List P4) (js:List Int) (who:Int) (gs:List Int):∀ m,(xa ps js who gs m).map (·.1)=aK ps js who gs m
  | 0=>by
    show (gs.map fun i=>((i,0):Int×Int)).map (·.1)=gs;rw [List.map_map];exact List.map_id _
  | m+1=>by
    rw [nU,ku,fw ps js who gs m];rfl
noncomputable def look (kvs:List (Int×Int)) (i:Int):Option Int:=(kvs.find? fun q=>decide (q.1=i)).map (·.2)
theorem mG (a b:List (Int×Int)) (i:Int):look (a++b) i=(look a i).or (look b i):=by
  unfold look;rw [List.find?_append];cases a.find? _ <;> rfl
theorem gv {kvs:List (Int×Int)} {i:Int}:look kvs i=none<->i∉kvs.map (·.1):=by
  unfold look;rw [Option.map_eq_none_iff,List.find?_eq_none];constructor
  · intro h z;obtain ⟨q,hq,e⟩:=List.mem_map.mp z;exact h q hq (decide_eq_true e)
  · intro h q hq e;exact h (List.mem_map.mpr ⟨q,hq,of_decide_eq_true e⟩)
theorem iN (r:Int) (i:Int):∀ l:List Int,look (l.map fun j=>(j,r)) i=if i∈l then some r else none
  | []=>rfl
  | j::l=>by
    have ih:=iN r i l;unfold look at ih ⊢;by_cases h:j=i
    · subst h;rw [List.map_cons,List.find?_cons_of_pos (by simp)];simp
    · rw [List.map_cons,List.find?_cons_of_neg (by simpa using h),ih];by_cases h2:i∈l
      · simp [h2]
      · have:¬ (i=j):=fun z=>h z.symm
        simp [h2,this]
section
variable {ps:List P4} {js:List Int} {who:Int} {gs:List Int}
theorem jJ {i:Int} {k:Nat} (h:i∈aK ps js who gs k):∀ {m:Nat},k<=m->i∈aK ps js who gs m
  | 0,hm=>by
    have:k=0:=by omega
    subst this;exact h
  | m+1,hm=>by
    by_cases e:k=m+1
    · subst e;exact h
    · show i∈aK ps js who gs m++_;exact List.mem_append_left _ (jJ h (by omega))
theorem fQ {i:Int}:∀ {m:Nat} {q:Int},look (xa ps js who gs m) i=some q<->∃ k:Nat,q=k/\k<=m/\i∈aK ps js who gs k/\(k=0\/i∉aK ps js who gs (k-1))
  | 0,q=>by
    show look (gs.map fun j=>(j,0)) i=some q<->_;rw [iN];constructor
    · intro h;split at h
      · rename_i hi;cases h;exact ⟨0,rfl,Nat.le_refl _,hi,.inl rfl⟩
      · cases h
    · rintro ⟨k,rfl,hk,hi,_⟩;have:k=0:=by omega
      subst this;rw [if_pos (show i∈gs from hi)];rfl
  | m+1,q=>by
    have ih:=fun q=>fQ (i:=i) (m:=m) (q:=q)
    have e:xa ps js who gs (m+1)=xa ps js who gs m++(ff ps js who (aK ps js who gs m) js).map fun j=>(j,((m+1:Nat):Int)):=by
      rw [nU];unfold da;rw [fw];rfl
    rw [e,mG,iN];by_cases hi:i∈aK ps js who gs m
    · cases h0:look (xa ps js who gs m) i with
      | none=>rw [gv,fw] at h0;exact (h0 hi).elim
      | some q0 =>
        rw [Option.some_or,<- h0,ih q];constructor
        · rintro ⟨k,a,b,c,d⟩;exact ⟨k,a,by omega,c,d⟩
        · rintro ⟨k,a,b,c,d⟩;refine ⟨k,a,?_,c,d⟩;by_cases hk:k=m+1
          · subst hk;rcases d with d | d
            · omega
            · exact (d hi).elim
          · omega
    · have h0:look (xa ps js who gs m) i=none:=by rw [gv,fw];exact hi
      rw [h0,Option.none_or];constructor
      · intro h;split at h
        · rename_i hn;cases h;exact ⟨m+1,rfl,Nat.le_refl _,List.mem_append_right _ hn,.inr hi⟩
        · cases h
      · rintro ⟨k,rfl,b,c,d⟩;have hk:k=m+1:=by
          by_cases hk:k=m+1
          · exact hk
          · exact (hi (jJ c (by omega))).elim
        subst hk;have c':i∈aK ps js who gs m++ff ps js who (aK ps js who gs m) js:=c;rw [if_pos ((List.mem_append.mp c').elim (fun z=>(hi z).elim) id)]
theorem vC {k:Nat} (h:ff ps js who (aK ps js who gs k) js=[]):∀ d,aK ps js who gs (k+d)=aK ps js who gs k
  | 0=>rfl
  | d+1=>by
    show aK ps js who gs (k+d)++ff ps js who (aK ps js who gs (k+d)) js=_;rw [vC h d,h,List.append_nil]
theorem qG (ng:gs.Nodup) (hg:∀ x∈gs,x∈js) (nj:js.Nodup):∀ m,jq js (xa ps js who gs m)
  | 0=>⟨by rw [fw];exact ng,fun x hx=>by rw [fw] at hx;exact hg x hx⟩
  | m+1=>by rw [nU];exact (qG ng hg nj m).round nj
theorem uN (ng:gs.Nodup) (hg:∀ x∈gs,x∈js) (nj:js.Nodup) {m:Nat} {i:Int} (h:i∈aK ps js who gs m):i∈js:=by
  have:=(qG (ps:=ps) (who:=who) ng hg nj m).sub;rw [fw] at this;exact this i h
theorem Dd (ng:gs.Nodup) (hg:∀ x∈gs,x∈js) (nj:js.Nodup) (m:Nat):(aK ps js who gs m).length<=js.length:=by
  have:=(qG (ps:=ps) (who:=who) ng hg nj m).len nj;rw [<- fw,List.length_map];exact this
theorem vM:∀ m,(∀ k,k < m->ff ps js who (aK ps js who gs k) js≠[])->m+gs.length<=(aK ps js who gs m).length
  | 0,_=>by show 0+gs.length<=gs.length;omega
  | m+1,h=>by
    have:=vM m fun k hk=>h k (by omega)
    have h1:=h m (by omega);have h2:=List.length_pos_iff.mpr h1;show _<=(aK ps js who gs m++ff ps js who (aK ps js who gs m) js).length;rw [List.length_append];omega
theorem BV (ng:gs.Nodup) (hg:∀ x∈gs,x∈js) (nj:js.Nodup) {n:Nat} (hn:js.length<=n):ff ps js who (aK ps js who gs n) js=[]:=by
  by_cases h:ff ps js who (aK ps js who gs n) js=[]
  · exact h
  · have:=vM (ps:=ps) (js:=js) (who:=who) (gs:=gs) (n+1) fun k hk e=>h (by
      have s:=vC e (n-k);rw [show k+(n-k)=n by omega] at s;rw [s];exact e)
    have:=Dd (ps:=ps) (who:=who) ng hg nj (n+1);omega
theorem h8 {α:Type} (p:α->Bool):∀ l:List α,(l.filter p).length=l.length<->∀ x∈l,p x=true
  | []=>by simp
  | x::l=>by
    have ih:=h8 p l;have le:=List.length_filter_le p l;cases h:p x with
    | true=>rw [List.filter_cons_of_pos h];simp [ih,h]
    | false=>rw [List.filter_cons_of_neg (by rw [h];simp)];simp [h];omega
theorem ou {α:Type} (p:α->Bool) (l:List α):0 < (l.filter p).length<->∃ x∈l,p x=true:=by
  rw [List.length_pos_iff_exists_mem];simp [List.mem_filter]
theorem fZ {kn:List Int} {i:Int}:jE ps js who kn i=true<->i∉kn/\(∃ g∈bH ps js i,g∈kn)/\(am ps i=who\/∀ g∈bH ps js i,g∈kn):=by
  unfold jE mL;rw [Bool.and_eq_true,Bool.and_eq_true,Bool.or_eq_true,decide_eq_true_iff,decide_eq_true_iff,decide_eq_true_iff,ou,h8,Bool.not_eq_true',<- Bool.not_eq_true,bU];simp only [bU]
noncomputable def rK (ps:List P4) (js:List Int) (who:Int) (gs:List Int) (i:Int):Option Int:=look (xa ps js who gs ps.length) i
structure uC (ps:List P4) (js:List Int) (who:Int) (gs:List Int) (rk:Int->Option Int):Prop where
  nneg:∀ i q,rk i=some q->0<=q
  sub:∀ i q,rk i=some q->i∈js
  zero:∀ i,rk i=some 0<->i∈gs
  own:∀ i q,rk i=some q->0 < q->am ps i=who->∃ g∈bH ps js i,rk g=some (q-1)
  low:∀ i q g t,rk i=some q->0 < q->am ps i=who->g∈bH ps js i->rk g=some t->q-1<=t
  oth:∀ i q,rk i=some q->0 < q->am ps i≠who->(∃ g,g∈bH ps js i)/\∀ g∈bH ps js i,∃ t,rk g=some t/\t < q
  outO:∀ i,i∈js->rk i=none->am ps i=who->∀ g∈bH ps js i,rk g=none
  outX:∀ i,i∈js->rk i=none->am ps i≠who->(∃ g,g∈bH ps js i)->∃ g∈bH ps js i,rk g=none
theorem vP (ng:gs.Nodup) (hg:∀ x∈gs,x∈js) (nj:js.Nodup) (hn:js.length<=ps.length):uC ps js who gs (rK ps js who gs):=by
  have ex:∀ {i k},i∈aK ps js who gs k->k<=ps.length->∃ t:Nat,t<=k/\rK ps js who gs i=some (t:Int):=fun {i}=>by
    intro k;induction k with
    | zero=>exact fun h _=>⟨0,Nat.le_refl _,fQ.mpr ⟨0,rfl,by omega,h,.inl rfl⟩⟩
    | succ k ih =>
      intro h hk;by_cases h1:i∈aK ps js who gs k
      · obtain ⟨t,a,b⟩:=ih h1 (by omega);exact ⟨t,by omega,b⟩
      · exact ⟨k+1,Nat.le_refl _,fQ.mpr ⟨k+1,rfl,hk,h,.inr h1⟩⟩
  have nm:∀ {i},rK ps js who gs i=none<->i∉aK ps js who gs ps.length:=fun {i}=>by
    unfold rK;rw [gv,fw]
  have fix:=BV (ps:=ps) (who:=who) ng hg nj hn;have new:∀ {i k},i∈aK ps js who gs (k+1)->i∉aK ps js who gs k->jE ps js who (aK ps js who gs k) i=true:=fun {i k} h1 h2=>by
    have h1':i∈aK ps js who gs k++ff ps js who (aK ps js who gs k) js:=h1;rcases List.mem_append.mp h1' with z | z
    · exact (h2 z).elim
    · exact (List.mem_filter.mp z).2
  have not:∀ {i k},i∈js->i∉aK ps js who gs (k+1)->¬ jE ps js who (aK ps js who gs k) i=true:=fun {i k} h1 h2 h3 =>
    h2 (show i∈aK ps js who gs k++ff ps js who (aK ps js who gs k) js from List.mem_append_right _ (List.mem_filter.mpr ⟨h1,h3⟩))
  have pos:∀ {i q},rK ps js who gs i=some q->0 < q->∃ k:Nat,q=((k+1:Nat):Int)/\k+1<=ps.length/\i∈aK ps js who gs (k+1)/\i∉aK ps js who gs k:=fun {i q} h hq=>by
    obtain ⟨k,rfl,b,c,d⟩:=fQ.mp h;cases k with
    | zero=>omega
    | succ k =>
      rcases d with d | d
      · omega
      · exact ⟨k,rfl,b,c,d⟩
  refine ⟨fun i q h=>?_,fun i q h=>?_,fun i=>?_,fun i q h hq ho=>?_,fun i q g t h hq ho hg' ht=>?_,fun i q h hq ho=>?_,fun i hi h ho g hg'=>?_,fun i hi h ho hw=>?_⟩
  · obtain ⟨k,rfl,_⟩:=fQ.mp h;omega
  · obtain ⟨k,rfl,_,c,_⟩:=fQ.mp h;exact uN ng hg nj c
  · constructor
    · intro h;obtain ⟨k,e,_,c,_⟩:=fQ.mp h;have:k=0:=by omega
      subst this;exact c
    · exact fun h=>fQ.mpr ⟨0,rfl,by omega,h,.inl rfl⟩
  · obtain ⟨k,rfl,b,c,d⟩:=pos h hq;obtain ⟨_,⟨g,hg1,hg2⟩,_⟩:=fZ.mp (new c d);obtain ⟨t,ht,hr⟩:=ex hg2 (by omega);refine ⟨g,hg1,?_⟩;by_cases e:t=k
    · subst e;rw [hr];congr 1;omega
    · exfalso;cases k with
      | zero=>omega
      | succ k =>
        obtain ⟨t',e',_,c',_⟩:=fQ.mp hr;have e'':t=t':=by omega
        subst e'';exact not (uN ng hg nj c) d (fZ.mpr ⟨fun z=>d (jJ z (by omega)),⟨g,hg1,jJ c' (by omega)⟩,.inl ho⟩)
  · obtain ⟨k,rfl,b,c,d⟩:=pos h hq;obtain ⟨t',rfl,_,c',_⟩:=fQ.mp ht;by_cases e:k<=t'
    · omega
    · exfalso;cases k with
      | zero=>omega
      | succ k=>exact not (uN ng hg nj c) d (fZ.mpr ⟨fun z=>d (jJ z (by omega)),⟨g,hg',jJ c' (by omega)⟩,.inl ho⟩)
  · obtain ⟨k,rfl,b,c,d⟩:=pos h hq;obtain ⟨_,⟨g,hg1,_⟩,o⟩:=fZ.mp (new c d);refine ⟨⟨g,hg1⟩,fun g' hg'=>?_⟩;obtain ⟨t,ht,hr⟩:=ex ((o.resolve_left ho) g' hg') (by omega);exact ⟨t,hr,by omega⟩
  · rw [nm] at h ⊢;intro hz;have:i∈ff ps js who (aK ps js who gs ps.length) js:=List.mem_filter.mpr ⟨hi,fZ.mpr ⟨h,⟨g,hg',hz⟩,.inl ho⟩⟩;rw [fix] at this;cases this
  · rw [nm] at h;by_cases hz:∃ g∈bH ps js i,rK ps js who gs g=none
    · exact hz
    · exfalso;have all:∀ g∈bH ps js i,g∈aK ps js who gs ps.length:=fun g hg'=>by
        by_cases z:g∈aK ps js who gs ps.length
        · exact z
        · exact (hz ⟨g,hg',nm.mpr z⟩).elim
      obtain ⟨g,hg'⟩:=hw;have:i∈ff ps js who (aK ps js who gs ps.length) js:=List.mem_filter.mpr ⟨hi,fZ.mpr ⟨h,⟨g,hg',all g hg'⟩,.inr all⟩⟩;rw [fix] at this;cases this
end
noncomputable abbrev ids (n:Nat):List Int:=(List.range n).map fun (k:Nat)=>(k:Int)
theorem bW {n:Nat} {i:Int}:i∈ids n<->0<=i/\i < n:=by
  constructor
  · intro h;obtain ⟨k,hk,rfl⟩:=List.mem_map.mp h;have:=List.mem_range.mp hk;omega
  · rintro ⟨h0,h1⟩;exact List.mem_map.mpr ⟨i.toNat,List.mem_range.mpr (by omega),by omega⟩
theorem qV (n:Nat):(ids n).length=n:=by simp
theorem As {n k:Nat} (h:k < n):(ids n)[k]?=some (k:Int):=by
  rw [List.getElem?_map,List.getElem?_range h];rfl
theorem CA (n:Nat):(ids n).Pairwise (· < ·):=by
  rw [List.pairwise_map];exact (List.pairwise_lt_range).imp fun h=>by omega
theorem zd {l:List Int} (h:l.Pairwise (· < ·)):l.Nodup:=h.imp fun h=>by omega
noncomputable def cm (f:Int->PyData) (n:Nat):List PyData:=(ids n).map f
theorem bK (f:Int->PyData) (n:Nat):(cm f n).length=n:=by unfold cm;rw [List.length_map,qV]
theorem gt {f:Int->PyData} {n:Nat} {i:Int} (h0:0<=i) (h1:i < n):(cm f n)[i.toNat]'(by rw [bK];omega)=f i:=by
  have h:=As (n:=n) (k:=i.toNat) (by omega);have:(cm f n)[i.toNat]?=some (f i):=by
    unfold cm;rw [List.getElem?_map,h,Option.map_some];congr 2;omega
  exact Option.some.inj ((List.getElem?_eq_getElem _).symm.trans this)
theorem mI {f:Int->PyData} {n:Nat} {i:Int} (h0:0<=i) (h1:i < n):bC (.tuple (cm f n)) (.int i)=.ok (f i):=by
  rw [vy h0 (by rw [bK];exact h1),gt h0 h1]
theorem yy {f:Int->PyData} {n:Nat} {i:Int} (h0:0<=i) (h1:i < n):bC (.list (cm f n)) (.int i)=.ok (f i):=by
  rw [vd h0 (by rw [bK];exact h1),gt h0 h1]
theorem cT {f g:Int->PyData} {n:Nat} (h:∀ i:Int,0<=i->i < n->f i=g i):cm f n=cm g n :=
  List.map_congr_left fun i hi=>h i (bW.mp hi).1 (bW.mp hi).2
theorem nv {f:Int->PyData} {n:Nat} {i:Int} {v:PyData} (h0:0<=i) (h1:i < n):(cm f n).set i.toNat v=cm (fun j=>if j=i then v else f j) n:=by
  refine List.ext_getElem (by rw [List.length_set,bK,bK]) fun k hk1 hk2=>?_
  rw [bK] at hk2;have e:=gt (f:=fun j=>if j=i then v else f j) (n:=n) (i:=(k:Int)) (by omega) (by omega);have e2:=gt (f:=f) (n:=n) (i:=(k:Int)) (by omega) (by omega);simp only [Int.toNat_natCast] at e e2;rw [e,List.getElem_set];by_cases h:i.toNat=k
  · rw [if_pos h,if_pos (by omega)]
  · rw [if_neg h,if_neg (by omega),e2]
theorem tV (f:Int->PyData) (ρ:aQ) (g:Fe) (n:Nat) (h:∀ i:Int,0<=i->i < n->g (ρ.set 0 (.val (.int i)))=.ok (f i)):bI (aX 0) (fun _=>.ok true) g ρ (bJ 0 n)=.ok (cm f n):=by
  have:=e8 g ρ 0 (fun d=>match d with | .int i=>f i | d=>d) (bJ 0 n) fun d hd=>by
    unfold bJ at hd;obtain ⟨k,hk,rfl⟩:=List.mem_map.mp hd;have:=List.mem_range.mp hk;exact h _ (by omega) (by omega)
  rw [this];unfold cm;rw [kH,List.map_map];rfl
noncomputable def oD:Option Int->PyData
  | none=>.none
  | some k=>.int k
theorem vt (o:Option Int):mx (oD o) .none=.ok (.bool o.isSome):=by cases o <;> rfl
theorem tP (o:Option Int):kc (oD o) .none=.ok (.bool o.isNone):=by cases o <;> rfl
noncomputable def j9 (k m:Nat):List Int:=(List.range m).map fun (j:Nat)=>((k+j:Nat):Int)
theorem nT (k m:Nat):j9 k (m+1)=(k:Int)::j9 (k+1) m:=by
  unfold j9;rw [List.range_succ_eq_map,List.map_cons,List.map_map];congr 1;apply List.map_congr_left;intro j _;show ((k+(j+1):Nat):Int)=((k+1+j:Nat):Int)
  omega
theorem jN (n:Nat):j9 0 n=ids n:=by
  unfold j9;apply List.map_congr_left;intro j _;simp
theorem jA {t:aQ->R Bool} {ρ:aQ} {p:Int->Bool} {g:Int->PyData}:∀ (m k:Nat),(∀ j:Nat,k<=j->j < k+m->t (.val (.int j)::.val (g j)::ρ)=.ok (p j)) ->
    bI (df 0 1) t (ae 0) (.non::.non::ρ) (cP k ((j9 k m).map g))=.ok (((j9 k m).filter p).map .int)
  | 0,k,_=>by unfold j9;simp [cP,cG]
  | m+1,k,h=>by
    rw [nT,List.map_cons];have e:cP k (g k::(j9 (k+1) m).map g)=.tuple [.int k,g k]::cP (k+1) ((j9 (k+1) m).map g):=rfl;rw [e,gF,jA m (k+1) fun j h1 h2=>h j (by omega) (by omega)];have hk:=h k (Nat.le_refl _) (by omega);simp only [List.set_cons_zero,List.set_cons_succ,hk,R.ok_bind,ao];cases hp:p k with
    | true=>rw [List.filter_cons_of_pos hp];rfl
    | false=>rw [List.filter_cons_of_neg (by rw [hp];simp)];rfl
theorem oU {fe:Fe} {ρ:aQ} {g h:Int->PyData}:∀ (m k:Nat),(∀ j:Nat,k<=j->j < k+m->fe (.val (.int j)::.val (g j)::ρ)=.ok (h j)) ->
    bI (df 0 1) (fun _=>.ok true) fe (.non::.non::ρ) (cP k ((j9 k m).map g))=.ok ((j9 k m).map h)
  | 0,k,_=>by unfold j9;simp [cP,cG]
  | m+1,k,hh=>by
    rw [nT,List.map_cons];have e:cP k (g k::(j9 (k+1) m).map g)=.tuple [.int k,g k]::cP (k+1) ((j9 (k+1) m).map g):=rfl;rw [e,gF,oU m (k+1) fun j h1 h2=>hh j (by omega) (by omega)];have hk:=hh k (Nat.le_refl _) (by omega);simp only [R.ok_bind,if_true,List.set_cons_zero,List.set_cons_succ,hk];rfl
theorem AZ {f g h:Int->PyData} {n:Nat} {fe:Fe} {ρ:aQ} (hh:∀ i:Int,0<=i->i < n->fe (.val (f i)::.val (g i)::ρ)=.ok (h i)):bI (df 0 1) (fun _=>.ok true) fe (.non::.non::ρ) (gE (cm f n) (cm g n))=.ok (cm h n):=by
  have go:∀ is:List Int,(∀ i∈is,0<=i/\i < n)->bI (df 0 1) (fun _=>.ok true) fe (.non::.non::ρ) (gE (is.map f) (is.map g))=.ok (is.map h):=by
    intro is;induction is with
    | nil=>intro _;unfold gE;simp [cG]
    | cons i is ih =>
      intro hb;have e:gE ((i::is).map f) ((i::is).map g)=.tuple [f i,g i]::gE (is.map f) (is.map g):=rfl;rw [e,gF,ih fun x hx=>hb x (List.mem_cons_of_mem _ hx)];have:=hh i (hb i List.mem_cons_self).1 (hb i List.mem_cons_self).2;simp only [R.ok_bind,if_true,List.set_cons_zero,List.set_cons_succ,this];rfl
  exact go (ids n) fun i hi=>bW.mp hi
theorem lr (t:aQ->R Bool) (g:Fs) (n:Nat) (ρ:aQ):de t g (n+1) ρ=(t ρ>>=fun b=>if b=true then g ρ>>=sx (de t g n) else .ok (.nx ρ)):=by
  rw [de];congr 1
noncomputable def sF (s:PyData) (js:List Int):Prop:=s=.tuple (js.map .int)\/s=.list (js.map .int)
theorem sF.inn {s:PyData} {js:List Int} (h:sF s js) (neg:Bool) (k:Int):ni neg (.int k) s=.ok (.bool (if neg then !dc js k else dc js k)):=by
  rcases h with rfl | rfl
  · exact CB ..
  · exact DO ..
theorem sF.seq {s:PyData} {js:List Int} (h:sF s js):iK s=.ok (js.map .int):=by
  rcases h with rfl | rfl <;> rfl
theorem sF.len {s:PyData} {js:List Int} (h:sF s js):dO s=.ok (.int js.length):=by
  rcases h with rfl | rfl <;> simp
structure eh (n:Nat) (js:List Int):Prop where
  lt:js.Pairwise (· < ·)
  inn:∀ x∈js,0<=x/\x < n
theorem eh.nd {n:Nat} {js:List Int} (h:eh n js):js.Nodup:=zd h.lt
theorem eh.len {n:Nat} {js:List Int} (h:eh n js):js.length<=n:=by
  have:=kE js 0 n h.lt h.inn;rcases this with z | z
  · rw [z];simp
  · omega
theorem eh.filter {n:Nat} {js:List Int} (h:eh n js) (p:Int->Bool):eh n (js.filter p):=⟨h.lt.filter _,fun x hx=>h.inn x (List.mem_filter.mp hx).1⟩
theorem eh.ids (n:Nat):eh n (ids n):=⟨CA n,fun x hx=>bW.mp hx⟩
noncomputable def gm (ps:List P4) (js:List Int):Prop:=∀ i∈js,∃ g,g∈bH ps js i
noncomputable abbrev oT (f:Int->Option Int) (n:Nat):PyData:=.tuple (cm (fun i=>oD (f i)) n)
theorem va (o:Option Int) (k:Int):jb (oD o) (.int k)=.ok (.bool (decide (o=some k))):=by
  cases o with
  | none=>rfl
  | some q =>
    show jb (.int q) (.int k)=_;rw [fW];congr 2;simp
structure Gr (ps:List P4):Prop where
  hl:∀ p∈ps,p.ns.length<=100
  hgo:∀ p∈ps,∀ x∈p.ns,0<=x/\x < ps.length
  hp:ps.length<=24
  lt:∀ p∈ps,p.ns.Pairwise (· < ·)
  ne:∀ p∈ps,p.ns≠[]
theorem Gr.goals {ps:List P4} (G:Gr ps) {i x:Int} (h:x∈ay ps i):0<=x/\x < ps.length:=by
  unfold ay at h;cases e:ps[i.toNat]? with
  | none=>rw [e] at h;cases h
  | some p=>rw [e] at h;exact G.hgo p (List.mem_of_getElem? e) x h
theorem Gr.glen {ps:List P4} (G:Gr ps) (i:Int):(ay ps i).length<=100:=by
  unfold ay;cases e:ps[i.toNat]? with
  | none=>simp
  | some p=>exact G.hl p (List.mem_of_getElem? e)
noncomputable def aE (ps:List P4) (i:Int):Int:=(ps[i.toNat]?.map (·.m)).getD 0
theorem uk (p:P4):bC p.d (.int 1)=.ok (.int p.m):=rfl
theorem jS {ps:List P4} {i:Int} (h0:0<=i) (h1:i < ps.length):aE ps i=(ps[i.toNat]'(by omega)).m:=by
  unfold aE;rw [List.getElem?_eq_getElem (by omega)];rfl
theorem pD {ps:List P4} {js:List Int} (hne:js≠[]):∃ h,pL (.list ((js.map (aE ps)).map .int))=.ok (.int h)/\(∃ i∈js,aE ps i=h)/\∀ i∈js,aE ps i<=h:=by
  cases js with
  | nil=>exact (hne rfl).elim
  | cons j js =>
    obtain ⟨s1,s2⟩:=pC (aE ps j) (js.map (aE ps));refine ⟨uJ (aE ps j) (js.map (aE ps)),?_,?_,fun i hi=>?_⟩
    · show (match cr (((j::js).map (aE ps)).map .int) with | some (n::ns)=>R.ok (PyData.int (uJ n ns)) | _=>.no)=_;rw [gY];rfl
    · rw [<- List.map_cons (f:=aE ps)] at s1;obtain ⟨i,hi,e⟩:=List.mem_map.mp s1;exact ⟨i,hi,e⟩
    · exact s2 _ (by rw [<- List.map_cons (f:=aE ps)];exact List.mem_map.mpr ⟨i,hi,rfl⟩)
theorem pM {s t:PyData} {ns js:List Int} (hs:sF s ns) (ht:sF t js) (hl:ns.length<=1000):cb [s,t]=.ok (.tuple ((ns.filter (dc js)).map .int)):=by
  have hcmp:=dk (t:=tE (e2 (ni false) (ae 0) (ae 1))) (ρ:=[.val t]) (p:=dc js) ns fun k hk=>by simp [ht.inn]
  unfold cb nI;refine eE ?_;rw [show ([s,t].map bh.val++List.replicate (2 - [s,t].length) bh.non)=[.val s,.val t] from rfl];rw [cq,bY,bp,show aC 1 [1] [.val s,.val t]=[.non,.val t] from rfl];simp only [bZ,ao,R.ok_bind,hs.seq,cj];rw [if_pos (by rw [List.length_map];exact bG hl),hcmp];rfl
theorem oF {s t:PyData} {ns js:List Int} (hs:sF s ns) (ht:sF t js) (hl:ns.length<=1000):bM [s,t]=.ok (.tuple ((ns.filter fun i=>!dc js i).map .int)):=by
  have hcmp:=dk (t:=tE (e2 (ni true) (ae 0) (ae 1))) (ρ:=[.val t]) (p:=fun i=>!dc js i) ns fun k hk=>by simp [ht.inn]
  unfold bM mm;refine eE ?_;rw [show ([s,t].map bh.val++List.replicate (2 - [s,t].length) bh.non)=[.val s,.val t] from rfl];rw [cq,bY,bp,show aC 1 [1] [.val s,.val t]=[.non,.val t] from rfl];simp only [bZ,ao,R.ok_bind,hs.seq,cj];rw [if_pos (by rw [List.length_map];exact bG hl),hcmp];rfl
theorem qk {p:P4} {ws:List Int} {who:Int} {f:Int->Option Int} {n:Nat} (hw:∀ g∈ws,0<=g/\g < n) (hl:ws.length<=1000) :
    bQ [p.d,.tuple (ws.map .int),.int who,.list (cm (fun i=>oD (f i)) n)]=.ok (.bool (if p.w=who then decide (0 < (ws.filter fun g=>(f g).isSome).length) else decide ((ws.filter fun g=>(f g).isSome).length=ws.length))):=by
  have hcmp:=dk (t:=tE (e2 (mx) (e2 bC (ae 1) (ae 0)) (eC .none))) (ρ:=[.val (.list (cm (fun i=>oD (f i)) n))]) (p:=fun g=>(f g).isSome) ws fun k hk=>by
    simp only [List.set_cons_zero,cB,br,ao,au,bE,R.ok_bind,yy (hw k hk).1 (hw k hk).2,vt,cZ]
  unfold bQ jI;refine eE ?_;rw [show ([p.d,.tuple (ws.map .int),.int who,.list (cm (fun i=>oD (f i)) n)].map bh.val++List.replicate (5 - [p.d,.tuple (ws.map .int),.int who,.list (cm (fun i=>oD (f i)) n)].length) bh.non)=[.val p.d,.val (.tuple (ws.map .int)),.val (.int who),.val (.list (cm (fun i=>oD (f i)) n)),.non] from rfl];rw [aL (ρ':=[.val p.d,.val (.tuple (ws.map .int)),.val (.int who),.val (.list (cm (fun i=>oD (f i)) n)),.val (.list ((ws.filter fun g=>(f g).isSome).map .int))]) (by
    rw [bu,bp,show aC 1 [3] [.val p.d,.val (.tuple (ws.map .int)),.val (.int who),.val (.list (cm (fun i=>oD (f i)) n)),.non]=[.non,.val (.list (cm (fun i=>oD (f i)) n))] from rfl];simp only [bZ,ao,au,R.ok_bind,cQ,cj];rw [if_pos (by rw [List.length_map];exact bG hl),hcmp];rfl)]
  by_cases h:p.w=who
  · rw [if_pos h];refine tX ?_;simp only [dG,cB,br,bY,ao,au,bE,R.ok_bind,qT,fW,cZ,h,decide_true,if_true,cq,om,nY,List.length_map];congr 3;simp
  · rw [if_neg h,aL (ρ':=[.val p.d,.val (.tuple (ws.map .int)),.val (.int who),.val (.list (cm (fun i=>oD (f i)) n)),.val (.list ((ws.filter fun g=>(f g).isSome).map .int))]) (by
      simp only [dG,cB,br,bY,ao,au,bE,R.ok_bind,qT,fW,cZ,h,decide_false];rfl)]
    simp only [cq,br,bY,ao,au,R.ok_bind,om,kz,fW,List.length_map];congr 3;exact decide_eq_decide.mpr (by omega)
theorem Bx {c:Int} (h0:0<=c) (h1:c<=1000):pd [.int c]=.ok (bJ 0 c.toNat):=by
  show (if -(2 ^ 62)<=c/\c < 2 ^ 62 then R.ok (bJ 0 c.toNat) else .no)=_;rw [if_pos (by omega)]
noncomputable def uY:Fs:=(aY (wJ 6 (fun a b=>a+b) (eC (.int 1))) (aY (bT 8 (bO (eS (ae 1)) 1 [5] (aX 0) (tE (e2 (kc) (e2 bC (dt 1) (ae 0)) (eC .none))) (ae 0))) (aY (bT 7 (bO (eS (ae 8)) 1 [0,4,2,5] (aX 0) (tE (kj 4 (aJ bQ (ah (e2 bC (ae 1) (ae 0)) (ah (e2 bC (ae 2) (ae 0)) (ah (ae 3) (ah (ae 4) aI))))))) (ae 0))) (iA (ji (eS (ae 7)) (aX 9) (il 5 (ae 9) (ae 6)))))))
noncomputable abbrev lD (ps:List P4) (js:List Int):PyData:=.list (cm (fun i=>.tuple ((bH ps js i).map .int)) ps.length)
noncomputable abbrev zy (kvs:List (Int×Int)) (n:Nat):List PyData:=cm (fun i=>oD (look kvs i)) n
noncomputable abbrev tR (ps:List P4) (s:PyData) (js:List Int) (who:Int) (g:PyData) (kvs:List (Int×Int)) (r:Int) (fs:List Int) (c8 c9:bh):aQ :=
  [.val (gD ps),.val s,.val (.int who),.val g,.val (lD ps js),.own (.list (zy kvs ps.length)),.val (.int r),.val (.list (fs.map .int)),c8,c9]
theorem yr {kvs:List (Int×Int)} {i r:Int} (h:i∉kvs.map (·.1)) (j:Int):look (kvs++[(i,r)]) j=if j=i then some r else look kvs j:=by
  rw [mG];by_cases e:j=i
  · subst e;rw [if_pos rfl,gv.mpr h,Option.none_or];unfold look;simp
  · rw [if_neg e];have:look [(i,r)] j=none:=by
      unfold look;have:¬ i=j:=fun z=>e z.symm
      simp [this]
    rw [this,Option.or_none]
theorem Bn {ps:List P4} {s:PyData} {js:List Int} {who:Int} {g:PyData} {r:Int} {fs0:List Int} {c8:bh}:∀ (fs:List Int) (kvs:List (Int×Int)) (c9:bh),fs.Nodup->(∀ x∈fs,x∉kvs.map (·.1))->(∀ x∈fs,0<=x/\x < ps.length) ->
    ∃ c9',fg (aX 9) (il 5 (ae 9) (ae 6)) (fs.map .int) (tR ps s js who g kvs r fs0 c8 c9)=.ok (.nx (tR ps s js who g (kvs++fs.map fun i=>(i,r)) r fs0 c8 c9'))
  | [],kvs,c9,_,_,_=>⟨c9,by rw [List.map_nil,fT];simp⟩
  | i::fs,kvs,c9,nd,hn,hb=>by
    obtain ⟨n1,n2⟩:=List.nodup_cons.mp nd;have hi:=hb i List.mem_cons_self;obtain ⟨c9',e⟩:=Bn (ps:=ps) (s:=s) (js:=js) (who:=who) (g:=g) (r:=r) (fs0:=fs0) (c8:=c8) fs (kvs++[(i,r)]) (.val (.int i)) n2 (fun x hx=>by
      rw [List.map_append,List.mem_append];rintro (z | z)
      · exact hn x (List.mem_cons_of_mem _ hx) z
      · simp at z;subst z;exact n1 hx) fun x hx=>hb x (List.mem_cons_of_mem _ hx)
    refine ⟨c9',?_⟩;rw [List.map_cons,e9];rw [show ((tR ps s js who g kvs r fs0 c8 c9).set 9 (.val (.int i)))=tR ps s js who g kvs r fs0 c8 (.val (.int i)) from rfl];rw [nu (ds:=zy kvs ps.length) (n:=i) (v:=.int r) rfl rfl rfl hi.1 (by rw [bK];exact hi.2),R.ok_bind,dA,nv hi.1 hi.2];rw [cT (g:=fun j=>oD (look (kvs++[(i,r)]) j)) fun j _ _=>by
      rw [yr (hn i List.mem_cons_self)];split <;> rfl]
    refine Eq.trans ?_ (e.trans (by simp));rfl
theorem oC {kvs:List (Int×Int)} {i:Int}:(look kvs i).isNone=!dc (kvs.map (·.1)) i:=by
  cases h:dc (kvs.map (·.1)) i with
  | true =>
    cases h2:look kvs i with
    | none=>exact (gv.mp h2 (bU.mp h)).elim
    | some q=>rfl
  | false =>
    rw [gv.mpr fun z=>by rw [bU.mpr z] at h;cases h];rfl
theorem tU {kvs:List (Int×Int)} {i:Int}:(look kvs i).isSome=dc (kvs.map (·.1)) i:=by
  have:=oC (kvs:=kvs) (i:=i);cases h:look kvs i <;> rw [h] at this <;> cases h2:dc (kvs.map (·.1)) i <;> rw [h2] at this <;> simp_all
theorem rg {ps:List P4} {js:List Int} {who:Int} {kn:List Int} {i:Int} (hw:∃ g,g∈bH ps js i) :
    (!dc kn i&&(if am ps i=who then decide (0 < (mL ps js kn i).length) else decide ((mL ps js kn i).length=(bH ps js i).length)))=jE ps js who kn i:=by
  obtain ⟨g,hg⟩:=hw;have hp:=List.length_pos_of_mem hg;unfold jE;by_cases ho:am ps i=who
  · simp [ho]
  · by_cases he:(mL ps js kn i).length=(bH ps js i).length
    · simp [ho,he,hp]
    · simp [ho,he]
theorem yH {ps:List P4} (hl:∀ p∈ps,p.ns.length<=100) (hgo:∀ p∈ps,∀ x∈p.ns,0<=x/\x < ps.length) (hp:ps.length<=24) {s:PyData} {js:List Int} (hs:sF s js) (hj:eh ps.length js) (hw:gm ps js) {who:Int} {g:PyData} {kvs:List (Int×Int)} {r:Int} {fs:List Int} (c8 c9:bh) :
    ∃ c8' c9',uY (tR ps s js who g kvs r fs c8 c9)=.ok (.nx (tR ps s js who g (da ps js who (r+1) kvs) (r+1) (ff ps js who (kvs.map (·.1)) js) c8' c9')):=by
  have hlen:=hj.len;have h1:=dk (t:=tE (e2 (kc) (e2 bC (dt 1) (ae 0)) (eC .none))) (ρ:=[.own (.list (zy kvs ps.length))]) (p:=fun i=>!dc (kvs.map (·.1)) i) js fun k hk=>by
    simp only [List.set_cons_zero,cB,br,ao,gW,gT,bE,R.ok_bind,yy (hj.inn k hk).1 (hj.inn k hk).2,tP,cZ,oC]
  have h2:=dk (t:=tE (kj 4 (aJ bQ (ah (e2 bC (ae 1) (ae 0)) (ah (e2 bC (ae 2) (ae 0)) (ah (ae 3) (ah (ae 4) aI))))))) (ρ:=[.val (gD ps),.val (lD ps js),.val (.int who),.own (.list (zy kvs ps.length))])
    (p:=jE ps js who (kvs.map (·.1))) (js.filter fun i=>!dc (kvs.map (·.1)) i) fun k hk=>by
    obtain ⟨hkj,hkn⟩:=List.mem_filter.mp hk;have hb:=hj.inn k hkj;have hg:=dS hb.1 hb.2;have hwl:(bH ps js k).length<=1000:=by
      refine Nat.le_trans (List.length_filter_le ..) ?_;rw [hg];have:=hl _ (List.getElem_mem (show k.toNat < ps.length by omega));omega
    have hwb:∀ x∈bH ps js k,0<=x/\x < ps.length:=fun x hx=>by
      have:=(List.mem_filter.mp hx).1;rw [hg] at this;exact hgo _ (List.getElem_mem _) x this
    have hf:=qk (p:=ps[k.toNat]'(by omega)) (who:=who) (f:=look kvs) hwb hwl;have ho:=gG hb.1 hb.2;have hgk:((bH ps js k).filter fun g=>(look kvs g).isSome)=mL ps js (kvs.map (·.1)) k:=by
      unfold mL;congr 1;funext g;exact tU
    rw [hgk,<- ho] at hf;have e4:kj 4 (aJ bQ (ah (e2 bC (ae 1) (ae 0)) (ah (e2 bC (ae 2) (ae 0)) (ah (ae 3) (ah (ae 4) aI))))) [.val (.int k),.val (gD ps),.val (lD ps js),.val (.int who),.own (.list (zy kvs ps.length))]
      = (mw (aJ bQ (ah (e2 bC (ae 1) (ae 0)) (ah (e2 bC (ae 2) (ae 0)) (ah (ae 3) (ah (ae 4) aI)))) [.val (.int k),.val (gD ps),.val (lD ps js),.val (.int who),.val (.list (zy kvs ps.length))])>>=kQ):=rfl
    have hc:=rg (who:=who) (kn:=kvs.map (·.1)) (hw k hkj);rw [hkn,Bool.true_and] at hc;rw [List.set_cons_zero,cB,e4,bd];simp only [aN,aS,br,ao,au,R.ok_bind,lB hb.1 hb.2,yy hb.1 hb.2];rw [hf,hc];rfl
  have hfil:(js.filter fun i=>!dc (kvs.map (·.1)) i).filter (jE ps js who (kvs.map (·.1)))=ff ps js who (kvs.map (·.1)) js:=by
    unfold ff;rw [List.filter_filter];apply List.filter_congr;intro x _;unfold jE;cases dc (kvs.map (·.1)) x <;> simp
  rw [hfil] at h2;have hnew:eh ps.length (ff ps js who (kvs.map (·.1)) js):=hj.filter _;obtain ⟨c9',e⟩:=Bn (ps:=ps) (s:=s) (js:=js) (who:=who) (g:=g) (r:=r+1) (fs0:=ff ps js who (kvs.map (·.1)) js) (c8:=.val (.list ((js.filter fun i=>!dc (kvs.map (·.1)) i).map .int))) (ff ps js who (kvs.map (·.1)) js) kvs c9 hnew.nd (fun x hx=>(oB hx).2) hnew.inn;refine ⟨.val (.list ((js.filter fun i=>!dc (kvs.map (·.1)) i).map .int)),c9',?_⟩;unfold uY;rw [aL (ρ':=tR ps s js who g kvs (r+1) fs c8 c9) (by simp only [Bj,au,ao,bE,R.ok_bind,Dx];rfl)];rw [aL (ρ':=tR ps s js who g kvs (r+1) fs (.val (.list ((js.filter fun i=>!dc (kvs.map (·.1)) i).map .int))) c9) (by
    rw [bu,bp,show aC 1 [5] (tR ps s js who g kvs (r+1) fs c8 c9)=[.non,.own (.list (zy kvs ps.length))] from rfl];simp only [bZ,au,ao,R.ok_bind,hs.seq,cj];rw [if_pos (by rw [List.length_map];exact bG (by omega)),h1];rfl)]
  rw [aL (ρ':=tR ps s js who g kvs (r+1) (ff ps js who (kvs.map (·.1)) js) (.val (.list ((js.filter fun i=>!dc (kvs.map (·.1)) i).map .int))) c9) (by
    rw [bu,bp,show aC 1 [0,4,2,5] (tR ps s js who g kvs (r+1) fs (.val (.list ((js.filter fun i=>!dc (kvs.map (·.1)) i).map .int))) c9)=[.non,.val (gD ps),.val (lD ps js),.val (.int who),.own (.list (zy kvs ps.length))] from rfl];simp only [bZ,au,ao,R.ok_bind,tW,cj];rw [if_pos (by rw [List.length_map];exact bG (Nat.le_trans (List.length_filter_le ..) (by omega))),h2];rfl)]
  rw [eO,fP,bZ,au,au,au,au,au,au,au,ao,R.ok_bind,tW,R.ok_bind,e];rfl
theorem fi {ps:List P4} {js:List Int} {who:Int} {kvs:List (Int×Int)} (h:ff ps js who (kvs.map (·.1)) js=[]):∀ (n:Nat) (r:Int),gQ ps js who r n kvs=kvs
  | 0,r=>rfl
  | n+1,r=>by
    show gQ ps js who (r+1) n (da ps js who r kvs)=kvs;have:da ps js who r kvs=kvs:=by unfold da;rw [h];simp
    rw [this,fi h n]
theorem BC {ps:List P4} (hl:∀ p∈ps,p.ns.length<=100) (hgo:∀ p∈ps,∀ x∈p.ns,0<=x/\x < ps.length) (hp:ps.length<=24) {s:PyData} {js:List Int} (hs:sF s js) (hj:eh ps.length js) (hw:gm ps js) {who:Int} {g:PyData} :
    ∀ (k n:Nat) (kvs:List (Int×Int)) (r:Int) (fs:List Int) (c8 c9:bh),jq js kvs->js.length-kvs.length<=k->(fs=[]->ff ps js who (kvs.map (·.1)) js=[])->k+3<=n ->
    ∃ K r' fs' c8' c9',de (tE (e2 (gr qf) (e1 dO (ae 7)) (eC (.int 0)))) uY n (tR ps s js who g kvs r fs c8 c9)=.ok (.nx (tR ps s js who g K r' fs' c8' c9'))/\∀ N,k+1<=N->gQ ps js who (r+1) N kvs=K
  | k,0,kvs,r,fs,c8,c9,_,_,_,h=>by omega
  | k,n+1,kvs,r,fs,c8,c9,hk,hm,hf,hn=>by
    rw [lr];have ht:tE (e2 (gr qf) (e1 dO (ae 7)) (eC (.int 0))) (tR ps s js who g kvs r fs c8 c9)=.ok (decide (0 < fs.length)):=by
      simp only [cB,br,bY,au,ao,bE,R.ok_bind,om,nY,cZ,List.length_map];congr 1;simp
    rw [ht,R.ok_bind];by_cases h0:fs=[]
    · have hs0:=hf h0;subst h0;exact ⟨kvs,r,[],c8,c9,rfl,fun N _=>fi hs0 N _⟩
    · rw [if_pos (decide_eq_true (List.length_pos_iff.mpr h0))];obtain ⟨c8',c9',e⟩:=yH hl hgo hp hs hj hw (who:=who) (g:=g) (kvs:=kvs) (r:=r) (fs:=fs) c8 c9;rw [e,R.ok_bind,dA];by_cases h1:ff ps js who (kvs.map (·.1)) js=[]
      · have w1:da ps js who (r+1) kvs=kvs:=by unfold da;rw [h1];simp
        rw [h1,w1];refine ⟨kvs,r+1,[],c8',c9',?_,fun N _=>fi h1 N _⟩;cases n with
        | zero=>omega
        | succ n =>
          rw [lr];have ht2:tE (e2 (gr qf) (e1 dO (ae 7)) (eC (.int 0))) (tR ps s js who g kvs (r+1) [] c8' c9')=.ok false:=rfl;rw [ht2,R.ok_bind];rfl
      · have hk':=hk.round (ps:=ps) (who:=who) (r:=r+1) hj.nd;have hkl:=hk'.len hj.nd;have hgrow:kvs.length+1<=(da ps js who (r+1) kvs).length:=by
          unfold da;rw [List.length_append,List.length_map];have:=List.length_pos_iff.mpr h1;omega
        obtain ⟨K,r',fs',d8,d9,w2,w3⟩:=BC hl hgo hp hs hj hw (who:=who) (g:=g) (k-1) n (da ps js who (r+1) kvs) (r+1) (ff ps js who (kvs.map (·.1)) js) c8' c9' hk' (by omega) (fun z=>(h1 z).elim) (by omega);refine ⟨K,r',fs',d8,d9,w2,fun N hN=>?_⟩;cases N with
        | zero=>omega
        | succ N=>exact w3 N (by omega)
theorem mM {ps:List P4} (hl:∀ p∈ps,p.ns.length<=100) (hgo:∀ p∈ps,∀ x∈p.ns,0<=x/\x < ps.length) (hp:ps.length<=24) {s g:PyData} {js gs:List Int} (hs:sF s js) (hsg:sF g gs) (hj:eh ps.length js) (hg:eh ps.length gs) (hsub:∀ x∈gs,x∈js) (hw:gm ps js) {who:Int} :
    cs [gD ps,s,.int who,g]=.ok (.tuple (cm (fun i=>oD (rK ps js who gs i)) ps.length)):=by
  have hlen:=hj.len;have hglen:=hg.len;have hgj:gs.length<=js.length:=jY hg.nd hsub;have hk0:jq js (gs.map fun i=>((i,0):Int×Int)):=by
    have e:(gs.map fun i=>((i,0):Int×Int)).map (·.1)=gs:=by rw [List.map_map];exact List.map_id _
    exact ⟨by rw [e];exact hg.nd,by rw [e];exact hsub⟩
  have hk0e:(gs.map fun i=>((i,0):Int×Int)).map (·.1)=gs:=by rw [List.map_map];exact List.map_id _
  obtain ⟨K,r',fs',d8,d9,w2,w3⟩:=BC hl hgo hp hs hj hw (who:=who) (g:=g) (js.length-gs.length) 1000000 (gs.map fun i=>(i,0)) 0 gs .non .non hk0 (by rw [List.length_map];exact Nat.le_refl _) (fun z=>by
    rw [hk0e,z];unfold ff;rw [List.filter_eq_nil_iff];intro i _;rw [fZ];rintro ⟨_,⟨g,_,hz⟩,_⟩;cases hz) (by omega)
  have hK:K=xa ps js who gs ps.length:=by
    by_cases h0:gs=[]
    · subst h0;have hz:ff ps js who (([]:List (Int×Int)).map (·.1)) js=[]:=by
        unfold ff;rw [List.filter_eq_nil_iff];intro i _;rw [fZ];rintro ⟨_,⟨g,_,hz⟩,_⟩;cases hz
      have e4:=w3 (js.length-0+1) (Nat.le_refl _);rw [List.map_nil,fi hz] at e4;rw [<- e4];unfold xa;rw [List.map_nil,fi hz]
    · have:=List.length_pos_iff.mpr h0;have e4:=w3 ps.length (by omega);rw [<- e4];rfl
  have hways:bI (aX 0) (fun _=>.ok true) (aJ cb (ah (e2 bC (ae 0) (eC (.int 3))) (ah (ae 1) aI))) [.non,.val s] (ps.map P4.d)=.ok (cm (fun i=>.tuple ((bH ps js i).map .int)) ps.length):=by
    have go:∀ qs:List P4,(∀ p∈qs,p.ns.length<=100)->bI (aX 0) (fun _=>.ok true) (aJ cb (ah (e2 bC (ae 0) (eC (.int 3))) (ah (ae 1) aI))) [.non,.val s] (qs.map P4.d)=.ok (qs.map fun p=>.tuple ((p.ns.filter (dc js)).map .int)):=by
      intro qs;induction qs with
      | nil=>exact fun _=>cG ..
      | cons p qs ih =>
        intro h;have hc:=pM (s:=.tuple (p.ns.map .int)) (ns:=p.ns) (.inl rfl) hs (by have:=h p List.mem_cons_self;omega);rw [List.map_cons,eR,ih fun q hq=>h q (List.mem_cons_of_mem _ hq)];simp only [R.ok_bind,if_true,List.set_cons_zero,bd,aN,aS,br,ao,au,bE,nV,hc];rfl
    rw [go ps hl];congr 1;refine List.ext_getElem (by rw [List.length_map,bK]) fun k h1 h2=>?_
    rw [bK] at h2;have e:=gt (f:=fun i=>.tuple ((bH ps js i).map .int)) (n:=ps.length) (i:=(k:Int)) (by omega) (by omega);simp only [Int.toNat_natCast] at e;rw [e,List.getElem_map];unfold bH;rw [dS (by omega) (by omega)];simp
  have hinit:bI (aX 0) (fun _=>.ok true) (BA (tE (e2 (ni false) (ae 0) (ae 1))) (eC (.int 0)) (eC .none)) [.non,.val g] (bJ 0 ps.length)=.ok (zy (gs.map fun i=>(i,0)) ps.length) :=
    tV _ _ _ _ fun i h0 h1=>by
      simp only [List.set_cons_zero,tY,cB,br,ao,au,bE,R.ok_bind,hsg.inn,cZ,iN];cases hm:dc gs i with
      | true=>rw [if_pos (bU.mp hm)];rfl
      | false=>rw [if_neg (show ¬ i∈gs from fun z=>by rw [bU.mpr z] at hm;cases hm)];rfl
  have hr:pd [.int (ps.length:Int)]=.ok (bJ 0 ps.length):=by
    rw [Bx (by omega) (by omega),Int.toNat_natCast]
  have hlst:rL g=.ok (.list (gs.map .int)):=by rcases hsg with rfl | rfl <;> rfl
  unfold cs kF;refine eE ?_;rw [show ([gD ps,s,.int who,g].map bh.val++List.replicate (10 - [gD ps,s,.int who,g].length) bh.non)=[.val (gD ps),.val s,.val (.int who),.val g,.non,.non,.non,.non,.non,.non] from rfl];rw [aL (ρ':=[.val (gD ps),.val s,.val (.int who),.val g,.val (lD ps js),.non,.non,.non,.non,.non]) (by
    rw [bu,bp,show aC 1 [1] [.val (gD ps),.val s,.val (.int who),.val g,.non,.non,.non,.non,.non,.non]=[.non,.val s] from rfl];simp only [bZ,ao,R.ok_bind,cQ,cj];rw [if_pos (by rw [List.length_map];exact bG (by omega)),hways];rfl)]
  rw [aL (ρ':=[.val (gD ps),.val s,.val (.int who),.val g,.val (lD ps js),.own (.list (zy (gs.map fun i=>(i,0)) ps.length)),.non,.non,.non,.non]) (by
    rw [nD,bp,show aC 1 [3] [.val (gD ps),.val s,.val (.int who),.val g,.val (lD ps js),.non,.non,.non,.non,.non]=[.non,.val g] from rfl];simp only [lS,aN,aS,bY,ao,R.ok_bind,kz,List.length_map,hr,cj];rw [if_pos (by rw [gJ];exact bG (by omega)),hinit];rfl)]
  rw [aL (ρ':=[.val (gD ps),.val s,.val (.int who),.val g,.val (lD ps js),.own (.list (zy (gs.map fun i=>(i,0)) ps.length)),.val (.int 0),.non,.non,.non]) (by rfl)];rw [aL (ρ':=tR ps s js who g (gs.map fun i=>(i,0)) 0 gs .non .non) (by
    simp only [bu,bY,au,ao,R.ok_bind,hlst];rfl)]
  rw [aL (ρ':=tR ps s js who g K r' fs' d8 d9) (by
    rw [eO];show mw (de (tE (e2 (gr qf) (e1 dO (ae 7)) (eC (.int 0)))) uY 1000000 _)=_;rw [w2];rfl)]
  rw [hK];rfl
noncomputable def jg (f:Int->Option Int) (n:Nat):List Int:=(ids n).filter fun i=>(f i).isSome
theorem n9 (f:Int->Option Int) (n:Nat):eh n (jg f n):=(eh.ids n).filter _
theorem iy {f:Int->Option Int} {n:Nat} {i:Int}:i∈jg f n<->(0<=i/\i < n)/\∃ q,f i=some q:=by
  unfold jg;rw [List.mem_filter,bW,Option.isSome_iff_exists]
theorem lZ {f:Int->Option Int} {n:Nat} (hn:n<=1000):ca [oT f n]=.ok (.tuple ((jg f n).map .int)):=by
  have hc:=jA (t:=tE (e2 (mx) (ae 1) (eC .none))) (ρ:=[]) (p:=fun i=>(f i).isSome) (g:=fun i=>oD (f i)) n 0 fun j _ _=>by
    simp only [cB,br,au,ao,bE,R.ok_bind,vt,cZ]
  rw [jN] at hc;unfold ca nJ;refine eE ?_;rw [show ([oT f n].map bh.val++List.replicate (1 - [oT f n].length) bh.non)=[.val (oT f n)] from rfl];rw [cq,bY,bp,show aC 2 [] [.val (oT f n)]=[.non,.non] from rfl];simp only [jo,ao,R.ok_bind,cQ,cj];rw [if_pos (by rw [fL,bK];exact bG hn)];rw [show cP 0 (cm (fun i=>oD (f i)) n)=cP 0 ((ids n).map fun i=>oD (f i)) from rfl,hc];rfl
noncomputable def mn (ps:List P4) (who:Int) (f:Int->Option Int) (i:Int):Option Int:=match f i with
  | some q=>if am ps i=who/\0 < q then ((ay ps i).filter fun g=>decide (f g=some (q-1))).head? else none
  | none=>none
noncomputable def uS:Fs:=(lK (oM (tE (e2 (jb) (e2 bC (e2 bC (ae 0) (ae 4)) (eC (.int 0))) (ae 1))) (tE (e2 (gr qf) (e2 bC (ae 2) (ae 4)) (eC (.int 0))))) (il 3 (ae 4) (e2 bC (bO (eS (e2 bC (e2 bC (ae 0) (ae 4)) (eC (.int 3)))) 1 [2,4] (aX 0) (tE (e2 (jb) (e2 bC (ae 1) (ae 0)) (e2 n6 (e2 bC (ae 1) (ae 2)) (eC (.int 1))))) (ae 0)) (eC (.int 0)))) dX)
theorem zp {ps:List P4} (G:Gr ps) {who:Int} {f:Int->Option Int} (hne:∀ i q,f i=some q->0 < q->am ps i=who->∃ g∈ay ps i,f g=some (q-1)):∀ (is:List Int) (h:Int->PyData) (c4:bh),is.Nodup->(∀ x∈is,(0<=x/\x < ps.length)/\(∃ q,f x=some q)/\h x=.none) ->
    ∃ c4',fg (aX 4) uS (is.map .int) [.val (gD ps),.val (.int who),.val (oT f ps.length),.own (.list (cm h ps.length)),c4]=.ok (.nx [.val (gD ps),.val (.int who),.val (oT f ps.length),.own (.list (cm (fun j=>if j∈is then oD (mn ps who f j) else h j) ps.length)),c4'])
  | [],h,c4,_,_=>⟨c4,by rw [List.map_nil,fT];simp⟩
  | i::is,h,c4,nd,hb=>by
    obtain ⟨n1,n2⟩:=List.nodup_cons.mp nd;obtain ⟨hi,⟨q,hq⟩,hh⟩:=hb i List.mem_cons_self;have ho:=gG hi.1 hi.2;have hg:=dS hi.1 hi.2;obtain ⟨c4',e⟩:=zp G hne is (fun j=>if j=i then oD (mn ps who f i) else h j) (.val (.int i)) n2 (fun x hx=>⟨(hb x (List.mem_cons_of_mem _ hx)).1,(hb x (List.mem_cons_of_mem _ hx)).2.1,by
      have:x≠i:=by rintro rfl;exact n1 hx
      show (if x=i then _ else h x)=_;rw [if_neg this];exact (hb x (List.mem_cons_of_mem _ hx)).2.2⟩)
    refine ⟨c4',?_⟩;have fin:cm (fun j=>if j∈is then oD (mn ps who f j) else (fun j=>if j=i then oD (mn ps who f i) else h j) j) ps.length=cm (fun j=>if j∈i::is then oD (mn ps who f j) else h j) ps.length:=cT fun j _ _=>by
      by_cases h1:j=i
      · subst h1;simp [n1]
      · by_cases h2:j∈is <;> simp [h1,h2]
    rw [fin] at e;rw [<- e,List.map_cons,e9,show (([.val (gD ps),.val (.int who),.val (oT f ps.length),.own (.list (cm h ps.length)),c4]:aQ).set 4 (.val (.int i)))=[.val (gD ps),.val (.int who),.val (oT f ps.length),.own (.list (cm h ps.length)),.val (.int i)] from rfl];have ht:(oM (tE (e2 (jb) (e2 bC (e2 bC (ae 0) (ae 4)) (eC (.int 0))) (ae 1))) (tE (e2 (gr qf) (e2 bC (ae 2) (ae 4)) (eC (.int 0))))) [.val (gD ps),.val (.int who),.val (oT f ps.length),.own (.list (cm h ps.length)),.val (.int i)]=.ok (decide (am ps i=who/\0 < q)):=by
      have hrk:bC (oT f ps.length) (.int i)=.ok (.int q):=by rw [mI hi.1 hi.2,hq];rfl
      simp only [sA,cB,br,ao,au,bE,R.ok_bind,lB hi.1 hi.2,qT,fW,cZ,hrk,nY];rw [<- ho];by_cases h1:am ps i=who
      · by_cases h2:0 < q <;> simp [h1,h2]
      · simp [h1]
    have hb1:uS [.val (gD ps),.val (.int who),.val (oT f ps.length),.own (.list (cm h ps.length)),.val (.int i)]=.ok (.nx [.val (gD ps),.val (.int who),.val (oT f ps.length),.own (.list (cm (fun j=>if j=i then oD (mn ps who f i) else h j) ps.length)),.val (.int i)]):=by
      unfold uS;rw [dG,ht,R.ok_bind];by_cases hc:am ps i=who/\0 < q
      · rw [if_pos (decide_eq_true hc)];have hcmp:=dk (t:=tE (e2 (jb) (e2 bC (ae 1) (ae 0)) (e2 n6 (e2 bC (ae 1) (ae 2)) (eC (.int 1))))) (ρ:=[.val (oT f ps.length),.val (.int i)]) (p:=fun g=>decide (f g=some (q-1))) (ay ps i) fun k hk=>by
          have hkb:=G.goals hk;have hrk:bC (oT f ps.length) (.int i)=.ok (.int q):=by rw [mI hi.1 hi.2,hq];rfl
          simp only [List.set_cons_zero,cB,br,ao,au,bE,R.ok_bind,mI hkb.1 hkb.2,hrk,uB,va,cZ]
        obtain ⟨g,hg1,hg2⟩:=hne i q hq hc.2 hc.1;have hm:mn ps who f i=((ay ps i).filter fun g=>decide (f g=some (q-1))).head?:=by
          unfold mn;rw [hq];exact if_pos hc
        have hmem:g∈(ay ps i).filter fun g=>decide (f g=some (q-1)):=List.mem_filter.mpr ⟨hg1,decide_eq_true hg2⟩
        cases hL:(ay ps i).filter fun g=>decide (f g=some (q-1)) with
        | nil=>rw [hL] at hmem;cases hmem
        | cons v r =>
          rw [hL] at hm hcmp;rw [nu (ds:=cm h ps.length) (n:=i) (v:=.int v) rfl rfl ?_ hi.1 (by rw [bK];exact hi.2),nv hi.1 hi.2,hm]
          · rfl
          · rw [br,bp,show aC 1 [2,4] [.val (gD ps),.val (.int who),.val (oT f ps.length),.own (.list (cm h ps.length)),.val (.int i)]=[.non,.val (oT f ps.length),.val (.int i)] from rfl];simp only [bZ,br,ao,au,bE,R.ok_bind,lB hi.1 hi.2,nV,cQ,cj];rw [<- hg,if_pos (by rw [List.length_map];exact bG (by have:=G.glen i;omega)),hcmp,hR,R.ok_bind,vd (by omega) (by simp)];rfl
      · rw [if_neg (by rw [decide_eq_true_iff];exact hc)];have hm:mn ps who f i=none:=by
          unfold mn;rw [hq];exact if_neg hc
        rw [sC,hm];congr 3;rw [cT fun j _ _=>?_];by_cases h1:j=i
        · subst h1;rw [if_pos rfl,hh];rfl
        · rw [if_neg h1]
    rw [hb1,R.ok_bind,dA]
theorem io {ps:List P4} (G:Gr ps) {who:Int} {f:Int->Option Int} (hne:∀ i q,f i=some q->0 < q->am ps i=who->∃ g∈ay ps i,f g=some (q-1)) :
    bf [gD ps,.int who,oT f ps.length]=.ok (oT (mn ps who f) ps.length):=by
  have hp:=G.hp;have h0:bI (aX 0) (fun _=>.ok true) (eC .none) [.non] (cm (fun i=>oD (f i)) ps.length)=.ok (cm (fun _=>.none) ps.length):=by
    have:=e8 (eC .none) [.non] 0 (fun _=>.none) (cm (fun i=>oD (f i)) ps.length) fun d _=>rfl
    rw [this];unfold cm;rw [List.map_map];rfl
  obtain ⟨c4,e⟩:=zp G hne (jg f ps.length) (fun _=>.none) .non (n9 f ps.length).nd fun x hx=>⟨(iy.mp hx).1,(iy.mp hx).2,rfl⟩
  have fin:cm (fun j=>if j∈jg f ps.length then oD (mn ps who f j) else .none) ps.length=cm (fun j=>oD (mn ps who f j)) ps.length:=cT fun j h1 h2=>by
    by_cases h:j∈jg f ps.length
    · rw [if_pos h]
    · rw [if_neg h];have:f j=none:=by
        cases hf:f j with
        | none=>rfl
        | some q=>exact (h (iy.mpr ⟨⟨h1,h2⟩,q,hf⟩)).elim
      unfold mn;rw [this];rfl
  rw [fin] at e;unfold bf gk;refine eE ?_;rw [show ([gD ps,.int who,oT f ps.length].map bh.val++List.replicate (5 - [gD ps,.int who,oT f ps.length].length) bh.non)=[.val (gD ps),.val (.int who),.val (oT f ps.length),.non,.non] from rfl];rw [aL (ρ':=[.val (gD ps),.val (.int who),.val (oT f ps.length),.own (.list (cm (fun _=>.none) ps.length)),.non]) (by
    rw [nD,bp,show aC 1 [] [.val (gD ps),.val (.int who),.val (oT f ps.length),.non,.non]=[.non] from rfl];simp only [bZ,ao,au,R.ok_bind,cQ,cj];rw [if_pos (by rw [bK];exact bG (by omega)),h0];rfl)]
  rw [aL (ρ':=[.val (gD ps),.val (.int who),.val (oT f ps.length),.own (.list (cm (fun j=>oD (mn ps who f j)) ps.length)),c4]) (by
    rw [eO,fP,bZ];simp only [bd,aN,aS,ao,au,R.ok_bind,lZ (show ps.length<=1000 by omega),cQ];unfold uS at e;rw [e];rfl)]
  rfl
theorem kr {ps:List P4} {js:List Int} {who:Int} {gs:List Int} {rk:Int->Option Int} (A:uC ps js who gs rk):∀ i q,rk i=some q->0 < q->am ps i=who->∃ g∈ay ps i,rk g=some (q-1):=fun i q h1 h2 h3=>by
  obtain ⟨g,hg,e⟩:=A.own i q h1 h2 h3;exact ⟨g,(List.mem_filter.mp hg).1,e⟩
noncomputable def wW:List PyData->Prop:=fun ds=>∀ x∈ds,ic x/\x.depth=0
theorem wW.dep:∀ {ds:List PyData},wW ds->PyData.depthAll ds=0
  | [],_=>by simp [PyData.depthAll]
  | d::ds,h=>by simp [PyData.depthAll,(h d List.mem_cons_self).2,wW.dep fun x hx=>h x (List.mem_cons_of_mem _ hx)]
theorem wW.good {ds:List PyData} (h:wW ds):ic (.tuple ds):=kI.mpr fun x hx=>(h x hx).1
theorem A7 (o:Option Int):ic (oD o)/\(oD o).depth=0:=by
  cases o
  · exact ⟨vU,by simp [oD,PyData.depth]⟩
  · exact ⟨sI _,by simp [oD,PyData.depth]⟩
theorem re (f:Int->Option Int) (n:Nat):wW (cm (fun i=>oD (f i)) n):=fun x hx=>by
  obtain ⟨i,_,rfl⟩:=List.mem_map.mp hx;exact A7 _
theorem vx (f:Int->Option Int) (n:Nat):ic (oT f n):=(re f n).good
theorem DZ {ps:List P4} {hi:Int} (hp:∀ p∈ps,Pl ps.length hi p) (h24:(ps.length:Int)<=24):Gr ps :=
  ⟨fun p h=>by have:=(hp p h).len;omega,fun p h=>(hp p h).inn,by omega,fun p h=>(hp p h).so,fun p h=>(hp p h).ne⟩
theorem Gr.gne {ps:List P4} (G:Gr ps) {i:Int} (h0:0<=i) (h1:i < ps.length):∃ g,g∈ay ps i:=by
  have:=G.ne _ (List.getElem_mem (show i.toNat < ps.length by omega));rw [<- dS h0 h1] at this;exact List.exists_mem_of_ne_nil _ this
theorem v4 {ps:List P4} (G:Gr ps):gm ps (ids ps.length):=fun i hi=>by
  obtain ⟨h0,h1⟩:=bW.mp hi;obtain ⟨g,hg⟩:=G.gne h0 h1;exact ⟨g,List.mem_filter.mpr ⟨hg,bU.mpr (bW.mpr (G.goals hg))⟩⟩
theorem sN {n:Nat} (h:n<=1000):Dp .tuple [.int (n:Int)]=.ok (.tuple ((ids n).map .int)):=by
  rw [ED (by omega) (by omega),kH];rfl
noncomputable def ix (js:List Int) (some:List Int):List Int:=js.filter fun i=>!dc some i
theorem bB {js some:List Int} {i:Int}:i∈ix js some<->i∈js/\i∉some:=by
  unfold ix;rw [List.mem_filter,Bool.not_eq_true',<- Bool.not_eq_true,bU]
theorem mK {ps:List P4} (hp:ps.length<=1000):bP [gD ps]=.ok (.tuple (cm (fun _=>.none) ps.length)):=by
  have h0:bI (aX 0) (fun _=>.ok true) (eC .none) [.non] (ps.map P4.d)=.ok (cm (fun _=>.none) ps.length):=by
    have:=e8 (eC .none) [.non] 0 (fun _=>.none) (ps.map P4.d) fun d _=>rfl
    rw [this];congr 1;refine List.ext_getElem (by rw [List.length_map,List.length_map,bK]) fun k h1 h2=>?_
    rw [bK] at h2;have e:=gt (f:=fun _=>.none) (n:=ps.length) (i:=(k:Int)) (by omega) (by omega);simp only [Int.toNat_natCast] at e;rw [e,List.getElem_map]
  unfold bP kK;refine eE ?_;rw [show ([gD ps].map bh.val++List.replicate (1 - [gD ps].length) bh.non)=[.val (gD ps)] from rfl];rw [cq,bY,bp,show aC 1 [] [.val (gD ps)]=[.non] from rfl];simp only [bZ,ao,R.ok_bind,cQ,cj];rw [if_pos (by rw [List.length_map];exact bG hp),h0];rfl
noncomputable def fA (ps:List P4) (who:Int) (part:List Int) (i:Int):Option Int:=if i∈part/\am ps i=who then (bH ps part i).head? else none
noncomputable def vO:Fs:=(lK (tE (e2 (jb) (e2 bC (e2 bC (ae 0) (ae 4)) (eC (.int 0))) (ae 1))) (il 3 (ae 4) (e2 bC (aJ cb (ah (e2 bC (e2 bC (ae 0) (ae 4)) (eC (.int 3))) (ah (ae 2) aI))) (eC (.int 0)))) dX)
theorem yi {ps:List P4} (G:Gr ps) {who:Int} {s:PyData} {part:List Int} (hs:sF s part) (hj:eh ps.length part) (hne:∀ i∈part,am ps i=who->∃ g,g∈bH ps part i):∀ (is:List Int) (h:Int->PyData) (c4:bh),is.Nodup->(∀ x∈is,x∈part/\h x=.none) ->
    ∃ c4',fg (aX 4) vO (is.map .int) [.val (gD ps),.val (.int who),.val s,.own (.list (cm h ps.length)),c4]=.ok (.nx [.val (gD ps),.val (.int who),.val s,.own (.list (cm (fun j=>if j∈is then oD (fA ps who part j) else h j) ps.length)),c4'])
  | [],h,c4,_,_=>⟨c4,by rw [List.map_nil,fT];simp⟩
  | i::is,h,c4,nd,hb=>by
    obtain ⟨n1,n2⟩:=List.nodup_cons.mp nd;obtain ⟨hip,hh⟩:=hb i List.mem_cons_self;have hi:=hj.inn i hip;have ho:=gG hi.1 hi.2;have hg:=dS hi.1 hi.2;obtain ⟨c4',e⟩:=yi G hs hj hne is (fun j=>if j=i then oD (fA ps who part i) else h j) (.val (.int i)) n2 (fun x hx=>⟨(hb x (List.mem_cons_of_mem _ hx)).1,by
      have:x≠i:=by rintro rfl;exact n1 hx
      show (if x=i then _ else h x)=_;rw [if_neg this];exact (hb x (List.mem_cons_of_mem _ hx)).2⟩)
    refine ⟨c4',?_⟩;have fin:cm (fun j=>if j∈is then oD (fA ps who part j) else (fun j=>if j=i then oD (fA ps who part i) else h j) j) ps.length=cm (fun j=>if j∈i::is then oD (fA ps who part j) else h j) ps.length:=cT fun j _ _=>by
      by_cases h1:j=i
      · subst h1;simp [n1]
      · by_cases h2:j∈is <;> simp [h1,h2]
    rw [fin] at e;rw [<- e,List.map_cons,e9,show (([.val (gD ps),.val (.int who),.val s,.own (.list (cm h ps.length)),c4]:aQ).set 4 (.val (.int i)))=[.val (gD ps),.val (.int who),.val s,.own (.list (cm h ps.length)),.val (.int i)] from rfl];have ht:(tE (e2 (jb) (e2 bC (e2 bC (ae 0) (ae 4)) (eC (.int 0))) (ae 1))) [.val (gD ps),.val (.int who),.val s,.own (.list (cm h ps.length)),.val (.int i)]=.ok (decide (am ps i=who)):=by
      simp only [cB,br,ao,au,bE,R.ok_bind,lB hi.1 hi.2,qT,fW,cZ];rw [<- ho]
    have hb1:vO [.val (gD ps),.val (.int who),.val s,.own (.list (cm h ps.length)),.val (.int i)]=.ok (.nx [.val (gD ps),.val (.int who),.val s,.own (.list (cm (fun j=>if j=i then oD (fA ps who part i) else h j) ps.length)),.val (.int i)]):=by
      unfold vO;rw [dG,ht,R.ok_bind];by_cases hc:am ps i=who
      · rw [if_pos (decide_eq_true hc)];have hcm:=pM (s:=.tuple ((ay ps i).map .int)) (ns:=ay ps i) (.inl rfl) hs (by have:=G.glen i;omega);obtain ⟨g,hg1⟩:=hne i hip hc;have hm:fA ps who part i=(bH ps part i).head?:=if_pos ⟨hip,hc⟩;have hw:(ay ps i).filter (dc part)=bH ps part i:=rfl;rw [hw] at hcm;cases hL:bH ps part i with
        | nil=>rw [hL] at hg1;cases hg1
        | cons v r =>
          rw [hL] at hm hcm;rw [nu (ds:=cm h ps.length) (n:=i) (v:=.int v) rfl rfl ?_ hi.1 (by rw [bK];exact hi.2),nv hi.1 hi.2,hm]
          · rfl
          · simp only [br,bd,aN,aS,ao,au,bE,R.ok_bind,lB hi.1 hi.2,nV];rw [<- hg,hcm,R.ok_bind,vy (by omega) (by simp)];rfl
      · rw [if_neg (by rw [decide_eq_true_iff];exact hc)];have hm:fA ps who part i=none:=if_neg fun z=>hc z.2
        rw [sC,hm];congr 3;rw [cT fun j _ _=>?_];by_cases h1:j=i
        · subst h1;rw [if_pos rfl,hh];rfl
        · rw [if_neg h1]
    rw [hb1,R.ok_bind,dA]
theorem me {ps:List P4} (G:Gr ps) {who:Int} {s:PyData} {part:List Int} (hs:sF s part) (hj:eh ps.length part) (hne:∀ i∈part,am ps i=who->∃ g,g∈bH ps part i) :
    bt [gD ps,.int who,s]=.ok (oT (fA ps who part) ps.length):=by
  have hp:=G.hp;have hn:=mK (ps:=ps) (by omega);obtain ⟨c4,e⟩:=yi G hs hj hne part (fun _=>.none) .non hj.nd fun x hx=>⟨hx,rfl⟩
  have fin:cm (fun j=>if j∈part then oD (fA ps who part j) else .none) ps.length=cm (fun j=>oD (fA ps who part j)) ps.length:=cT fun j h1 h2=>by
    by_cases h:j∈part
    · rw [if_pos h]
    · rw [if_neg h];have:fA ps who part j=none:=if_neg fun z=>h z.1
      rw [this];rfl
  rw [fin] at e;unfold bt gi;refine eE ?_;rw [show ([gD ps,.int who,s].map bh.val++List.replicate (5 - [gD ps,.int who,s].length) bh.non)=[.val (gD ps),.val (.int who),.val s,.non,.non] from rfl];rw [aL (ρ':=[.val (gD ps),.val (.int who),.val s,.own (.list (cm (fun _=>.none) ps.length)),.non]) (by
    simp only [nD,bY,bd,aN,aS,ao,R.ok_bind,hn,Ag];rfl)]
  rw [aL (ρ':=[.val (gD ps),.val (.int who),.val s,.own (.list (cm (fun j=>oD (fA ps who part j)) ps.length)),c4]) (by
    rw [eO,fP,bZ];simp only [ao,au,R.ok_bind,hs.seq];unfold vO at e;rw [e];rfl)]
  rfl
theorem Dt (ns:List Int) (i:Int) (neg:Bool):ni neg (.int i) (.tuple (ns.map .int))=.ok (.bool (if neg then !(ns.any fun j=>decide (j=i)) else ns.any fun j=>decide (j=i))):=CB ns i neg
noncomputable def Dl (ns:List Int):PyData->Bool
  | .none=>true
  | .int i=>ns.any fun j=>decide (j=i)
  | _=>false
noncomputable def oZ (ps:List P4):PyData->Bool
  | .tuple ds=>decide (ds.length=ps.length)&&(ds.zip ps).all fun q=>Dl q.2.ns q.1
  | _=>false
theorem pP {ps:List P4} {f:Int->Option Int} (h:∀ i g,f i=some g->g∈ay ps i):oZ ps (oT f ps.length)=true:=by
  show (decide _&&_)=true;rw [decide_eq_true (bK ..),Bool.true_and,List.all_eq_true];intro q hq;obtain ⟨k,hk,e⟩:=List.mem_iff_getElem.mp hq;rw [List.length_zip,bK,Nat.min_self] at hk;rw [List.getElem_zip] at e;have e2:=gt (f:=fun i=>oD (f i)) (n:=ps.length) (i:=(k:Int)) (by omega) (by omega);simp only [Int.toNat_natCast] at e2;rw [e2] at e;subst e;cases hf:f (k:Int) with
  | none=>rfl
  | some g =>
    have:=h _ _ hf;rw [dS (by omega) (by omega)] at this;simp only [Int.toNat_natCast] at this;exact bU.mpr this
structure Sh where
  w:Int
  pl:List Int
  mv:Int->Option Int
noncomputable abbrev zV:List Str:=["who","places","moves"]
noncomputable def i8 (c:Addr) (n:Nat) (s:Sh):PyData:=zr c zV [.int s.w,.tuple (s.pl.map .int),oT s.mv n]
theorem uD (c:Addr) (n:Nat) (s:Sh):i8 c n s=.dict [(.none,.int c),(.str "who",.int s.w),(.str "places",.tuple (s.pl.map .int)),(.str "moves",oT s.mv n)]:=rfl
theorem AR (c:Addr) (n:Nat) (s:Sh):kM c "who" (i8 c n s)=.ok (.int s.w):=by
  rw [uD];show (if (c:Int)=(c:Int) then (if ("who" : Str) = "who" then R.ok _ else _) else .no)=_;rw [if_pos rfl,if_pos rfl]
theorem oS (c:Addr) (n:Nat) (s:Sh):kM c "places" (i8 c n s)=.ok (.tuple (s.pl.map .int)):=by
  rw [uD];show (if (c:Int)=(c:Int) then (if ("who" : Str) = "places" then _ else if ("places" : Str) = "places" then R.ok _ else _) else .no)=_;rw [if_pos rfl,if_neg (by decide +kernel),if_pos rfl]
theorem wv (c:Addr) (n:Nat) (s:Sh):kM c "moves" (i8 c n s)=.ok (oT s.mv n):=by
  rw [uD];show (if (c:Int)=(c:Int) then (if ("who" : Str) = "moves" then _ else if ("places" : Str) = "moves" then _ else if ("moves" : Str) = "moves" then R.ok _ else _) else .no)=_;rw [if_pos rfl,if_neg (by decide +kernel),if_neg (by decide +kernel),if_pos rfl]
noncomputable def eD (f g:Int->Option Int) (i:Int):Option Int:=(f i).or (g i)
theorem nr {f g:Int->Option Int} {n:Nat} (hn:n<=1000):aD [oT f n,oT g n]=.ok (oT (eD f g) n):=by
  have hc:=AZ (f:=fun i=>oD (f i)) (g:=fun i=>oD (g i)) (h:=fun i=>oD (eD f g i)) (n:=n) (ρ:=[]) (fe:=BA (tE (e2 (kc) (ae 0) (eC .none))) (ae 1) (ae 0)) fun i _ _=>by
    simp only [tY,cB,br,ao,au,bE,R.ok_bind,tP,cZ];unfold eD;cases f i <;> rfl
  unfold aD gg;refine eE ?_;rw [show ([oT f n,oT g n].map bh.val++List.replicate (2 - [oT f n,oT g n].length) bh.non)=[.val (oT f n),.val (oT g n)] from rfl];rw [cq,bY,bp,show aC 2 [] [.val (oT f n),.val (oT g n)]=[.non,.non] from rfl];simp only [uX,ao,au,R.ok_bind,cQ,cj];rw [if_pos (by rw [jp,bK,bK,Nat.min_self];exact bG hn),hc];rfl
theorem o9 {ps:List P4} (hp:ps.length<=1000):cA [gD ps]=.ok (.tuple ((ids ps.length).map .int)):=by
  have hrt:=sN (n:=ps.length) hp;have hlen:dO (gD ps)=.ok (.int ps.length):=by simp
  unfold cA iS;refine eE ?_;rw [show ([gD ps].map bh.val++List.replicate (1 - [gD ps].length) bh.non)=[.val (gD ps)] from rfl];simp only [cq,yU,aN,aS,bY,ao,R.ok_bind,hlen,hrt]
noncomputable def ye (s:Sh) (f:Int->Option Int) (i:Int):Option Int:=if i∈s.pl then some s.w else f i
noncomputable def mF:(Int->Option Int)->List Sh->Int->Option Int
  | f,[]=>f
  | f,s::l=>mF (ye s f) l
noncomputable def sJ:(Int->Option Int)->List Sh->Int->Option Int
  | f,[]=>f
  | f,s::l=>sJ (eD f s.mv) l
theorem zl {c:Addr} {n:Nat} {a b m:PyData} {s:Sh}:∀ (is:List Int) (f:Int->Option Int) (c5:bh),(∀ x∈is,0<=x/\x < n) ->
    ∃ c5',fg (aX 5) (il 2 (ae 5) (e1 (kM c "who") (ae 4))) (is.map .int) [.val a,.val b,.own (.list (cm (fun i=>oD (f i)) n)),.val m,.val (i8 c n s),c5]=.ok (.nx [.val a,.val b,.own (.list (cm (fun i=>oD (if i∈is then some s.w else f i)) n)),.val m,.val (i8 c n s),c5'])
  | [],f,c5,_=>⟨c5,by rw [List.map_nil,fT];simp⟩
  | i::is,f,c5,hb=>by
    obtain ⟨h0,h1⟩:=hb i List.mem_cons_self;obtain ⟨c5',e⟩:=zl (c:=c) (n:=n) (a:=a) (b:=b) (m:=m) (s:=s) is (fun j=>if j=i then some s.w else f j) (.val (.int i)) fun x hx=>hb x (List.mem_cons_of_mem _ hx)
    refine ⟨c5',?_⟩;rw [List.map_cons,e9];rw [show (([.val a,.val b,.own (.list (cm (fun i=>oD (f i)) n)),.val m,.val (i8 c n s),c5]:aQ).set 5 (.val (.int i)))=[.val a,.val b,.own (.list (cm (fun i=>oD (f i)) n)),.val m,.val (i8 c n s),.val (.int i)] from rfl];rw [nu (ds:=cm (fun i=>oD (f i)) n) (n:=i) (v:=.int s.w) rfl rfl (by simp only [bY,au,ao,R.ok_bind,AR]) h0 (by rw [bK];exact h1),R.ok_bind,dA,nv h0 h1];have ht:cm (fun j=>if j=i then PyData.int s.w else oD (f j)) n=cm (fun j=>oD (if j=i then some s.w else f j)) n:=cT fun j _ _=>by split <;> rfl
    have ht2:cm (fun j=>oD (if j∈is then some s.w else if j=i then some s.w else f j)) n=cm (fun j=>oD (if j∈i::is then some s.w else f j)) n:=cT fun j _ _=>by
      by_cases z1:j∈is
      · simp [z1]
      · by_cases z2:j=i <;> simp [z1,z2]
    rw [ht,<- ht2];exact e
noncomputable def qr (c:Addr):Fs:=(aY (iA (ji (eS (e1 (kM c "places") (ae 4))) (aX 5) (il 2 (ae 5) (e1 (kM c "who") (ae 4))))) (bT 3 (aJ aD (ah (ae 3) (ah (e1 (kM c "moves") (ae 4)) aI)))))
theorem vn {c:Addr} {n:Nat} (hn:n<=1000) {a b:PyData}:∀ (l:List Sh) (f m:Int->Option Int) (c4 c5:bh),(∀ s∈l,∀ x∈s.pl,0<=x/\x < n) ->
    ∃ c4' c5',fg (aX 4) (qr c) (l.map (i8 c n)) [.val a,.val b,.own (.list (cm (fun i=>oD (f i)) n)),.val (oT m n),c4,c5]=.ok (.nx [.val a,.val b,.own (.list (cm (fun i=>oD (mF f l i)) n)),.val (oT (sJ m l) n),c4',c5'])
  | [],f,m,c4,c5,_=>⟨c4,c5,by rw [List.map_nil,fT];rfl⟩
  | s::l,f,m,c4,c5,hb=>by
    obtain ⟨d5,e1⟩:=zl (c:=c) (n:=n) (a:=a) (b:=b) (m:=oT m n) (s:=s) s.pl f c5 (hb s List.mem_cons_self);obtain ⟨c4',c5',e⟩:=vn (c:=c) hn (a:=a) (b:=b) l (ye s f) (eD m s.mv) (.val (i8 c n s)) d5 fun t ht=>hb t (List.mem_cons_of_mem _ ht)
    refine ⟨c4',c5',?_⟩;rw [List.map_cons,e9];rw [show (([.val a,.val b,.own (.list (cm (fun i=>oD (f i)) n)),.val (oT m n),c4,c5]:aQ).set 4 (.val (i8 c n s)))=[.val a,.val b,.own (.list (cm (fun i=>oD (f i)) n)),.val (oT m n),.val (i8 c n s),c5] from rfl];have hb1:qr c [.val a,.val b,.own (.list (cm (fun i=>oD (f i)) n)),.val (oT m n),.val (i8 c n s),c5]=.ok (.nx [.val a,.val b,.own (.list (cm (fun i=>oD (ye s f i)) n)),.val (oT (eD m s.mv) n),.val (i8 c n s),d5]):=by
      unfold qr;rw [aL (ρ':=[.val a,.val b,.own (.list (cm (fun i=>oD (ye s f i)) n)),.val (oT m n),.val (i8 c n s),d5]) (by
        rw [eO,fP,bZ,bY];simp only [au,ao,R.ok_bind,oS,cQ];rw [e1];rfl)]
      simp only [bu,bd,aN,aS,bY,au,ao,R.ok_bind,wv,nr hn];rfl
    rw [hb1,R.ok_bind,dA,e];rfl
theorem Es {ps:List P4} (hp:ps.length<=1000) {c:Addr} {l:List Sh} (hb:∀ s∈l,∀ x∈s.pl,0<=x/\x < ps.length) :
    bc c [gD ps,.list (l.map (i8 c ps.length))]=.ok (.tuple [oT (mF (fun _=>none) l) ps.length,oT (sJ (fun _=>none) l) ps.length]):=by
  obtain ⟨c4,c5,e⟩:=vn (c:=c) hp (a:=gD ps) (b:=.list (l.map (i8 c ps.length))) l (fun _=>none) (fun _=>none) .non .non hb;have h0:bI (aX 0) (fun _=>.ok true) (eC .none) [.non] (ps.map P4.d)=.ok (cm (fun _=>oD none) ps.length):=by
    have:=e8 (eC .none) [.non] 0 (fun _=>.none) (ps.map P4.d) fun d _=>rfl
    rw [this];congr 1;refine List.ext_getElem (by rw [List.length_map,List.length_map,bK]) fun k h1 h2=>?_
    rw [bK] at h2;have e:=gt (f:=fun _=>oD none) (n:=ps.length) (i:=(k:Int)) (by omega) (by omega);simp only [Int.toNat_natCast] at e;rw [e,List.getElem_map];rfl
  have hn:=mK (ps:=ps) hp;unfold bc eF;refine eE ?_;rw [show ([gD ps,.list (l.map (i8 c ps.length))].map bh.val++List.replicate (6 - [gD ps,.list (l.map (i8 c ps.length))].length) bh.non)=[.val (gD ps),.val (.list (l.map (i8 c ps.length))),.non,.non,.non,.non] from rfl];rw [aL (ρ':=[.val (gD ps),.val (.list (l.map (i8 c ps.length))),.own (.list (cm (fun _=>oD none) ps.length)),.non,.non,.non]) (by
    rw [nD,bp,show aC 1 [] [.val (gD ps),.val (.list (l.map (i8 c ps.length))),.non,.non,.non,.non]=[.non] from rfl];simp only [bZ,ao,R.ok_bind,cQ,cj];rw [if_pos (by rw [List.length_map];exact bG hp),h0];rfl)]
  rw [aL (ρ':=[.val (gD ps),.val (.list (l.map (i8 c ps.length))),.own (.list (cm (fun _=>oD none) ps.length)),.val (oT (fun _=>none) ps.length),.non,.non]) (by
    simp only [bu,bd,aN,aS,ao,R.ok_bind,hn];rfl)]
  rw [aL (ρ':=[.val (gD ps),.val (.list (l.map (i8 c ps.length))),.own (.list (cm (fun i=>oD (mF (fun _=>none) l i)) ps.length)),.val (oT (sJ (fun _=>none) l) ps.length),c4,c5]) (by
    rw [eO,fP,bZ];simp only [au,ao,R.ok_bind,tW];unfold qr at e;rw [e];rfl)]
  simp only [cq,nC,aN,aS,bY,gW,gT,au,ao,R.ok_bind,jB];rfl
noncomputable def Wy (ps:List P4) (js:List Int) (w:Int) (mv:Int->Option Int) (i g:Int):Prop:=(am ps i=w/\mv i=some g)\/(am ps i≠w/\g∈bH ps js i)
theorem fX {ps:List P4} {js:List Int} {i g:Int} (h:g∈bH ps js i):g∈js:=bU.mp (List.mem_filter.mp h).2
theorem eW {ps:List P4} {js:List Int} {i g:Int} (h:g∈bH ps js i):g∈ay ps i:=(List.mem_filter.mp h).1
theorem iQ {ps:List P4} {js:List Int} {i g:Int} (h:g∈ay ps i) (h2:g∈js):g∈bH ps js i:=List.mem_filter.mpr ⟨h,bU.mpr h2⟩
theorem vE {ps:List P4} {js gs:List Int} {who:Int} {rk:Int->Option Int} (A:uC ps js who gs rk) {i q:Int} (h:rk i=some q) (hq:0 < q) (ho:am ps i=who):∃ g,mn ps who rk i=some g/\g∈bH ps js i/\rk g=some (q-1):=by
  obtain ⟨g,g1,g2⟩:=kr A i q h hq ho;have hm:mn ps who rk i=((ay ps i).filter fun g=>decide (rk g=some (q-1))).head?:=by
    unfold mn;rw [h];exact if_pos ⟨ho,hq⟩
  have hmem:g∈(ay ps i).filter fun g=>decide (rk g=some (q-1)):=List.mem_filter.mpr ⟨g1,decide_eq_true g2⟩
  cases hL:(ay ps i).filter fun g=>decide (rk g=some (q-1)) with
  | nil=>rw [hL] at hmem;cases hmem
  | cons v r =>
    rw [hL] at hm;have hv:v∈(ay ps i).filter fun g=>decide (rk g=some (q-1)):=by rw [hL];exact List.mem_cons_self
    have h2:=of_decide_eq_true (List.mem_filter.mp hv).2;exact ⟨v,hm,iQ (List.mem_filter.mp hv).1 (A.sub v _ h2),h2⟩
theorem gK {ps:List P4} {who:Int} {rk:Int->Option Int} {i:Int} (h:am ps i≠who\/rk i=none\/rk i=some 0):mn ps who rk i=none:=by
  unfold mn;rcases h with h | h | h
  · cases rk i with
    | none=>rfl
    | some q=>exact if_neg fun z=>h z.1
  · rw [h]
  · rw [h];exact if_neg fun z=>by omega
theorem wq {ps:List P4} {who:Int} {part:List Int} {i:Int} (hi:i∈part) (ho:am ps i=who) (hw:∃ g,g∈bH ps part i):∃ g,fA ps who part i=some g/\g∈bH ps part i:=by
  have hm:fA ps who part i=(bH ps part i).head?:=if_pos ⟨hi,ho⟩;obtain ⟨g,hg⟩:=hw;cases hL:bH ps part i with
  | nil=>rw [hL] at hg;cases hg
  | cons v r =>
    rw [hL] at hm;exact ⟨v,hm,List.mem_cons_self⟩
theorem t9 {ps:List P4} {who:Int} {part:List Int} {i:Int} (h:i∉part\/am ps i≠who):fA ps who part i=none:=if_neg fun z=>h.elim (fun y=>y z.1) fun y=>y z.2
inductive pS (E:Int->Int->Prop) (al:Int->Prop) (s:Int):Int->Prop
  | one {x:Int}:E s x->al x->pS E al s x
  | more {x y:Int}:pS E al s x->E x y->al y->pS E al s y
theorem pS.al {E:Int->Int->Prop} {al:Int->Prop} {s x:Int} (h:pS E al s x):al x:=by cases h <;> assumption
theorem pS.imp {E E':Int->Int->Prop} {al al':Int->Prop} {s t:Int} (h:pS E al s t) (h1:∀ y,E s y->al y->E' s y/\al' y) (h2:∀ x y,al x->E x y->al y->E' x y/\al' y):pS E' al' s t:=by
  induction h with
  | one a b=>exact .one (h1 _ a b).1 (h1 _ a b).2
  | more r a b ih=>exact .more ih (h2 _ _ r.al a b).1 (h2 _ _ r.al a b).2
theorem pS.inn {E:Int->Int->Prop} {al:Int->Prop} {s t:Int} {P:Int->Prop} (h:pS E al s t) (hs:P s) (hP:∀ x y,P x->E x y->al y->P y):pS E (fun x=>al x/\P x) s t:=by
  induction h with
  | one a b=>exact .one a ⟨b,hP _ _ hs a b⟩
  | more r a b ih=>exact .more ih a ⟨b,hP _ _ ih.al.2 a b⟩
theorem pS.out {E:Int->Int->Prop} {al:Int->Prop} {s t:Int} {P:Int->Prop} (h:pS E al s t) (ht:¬ P t) (hP:∀ x y,al x->P x->E x y->al y->P y):pS E (fun x=>al x/\¬ P x) s t:=by
  induction h with
  | one a b=>exact .one a ⟨b,ht⟩
  | more r a b ih =>
    have hx:=fun z=>ht (hP _ _ r.al z a b)
    exact .more (ih hx) a ⟨b,ht⟩
theorem pS.less {E:Int->Int->Prop} {al:Int->Prop} {s t:Int} {φ:Int->Int} (h:pS E al s t) (h1:∀ y,E s y->al y->φ y < φ s) (h2:∀ x y,al x->E x y->al y->φ y<=φ x):φ t < φ s:=by
  induction h with
  | one a b=>exact h1 _ a b
  | more r a b ih =>
    have:=h2 _ _ r.al a b;omega
structure tu (ps:List P4) (js:List Int) (win:Int->Int) (mv:Int->Option Int):Prop where
  two:∀ i∈js,win i=0\/win i=1
  has:∀ i∈js,am ps i=win i->∃ g,mv i=some g/\g∈ay ps i
  non:∀ i∈js,am ps i≠win i->mv i=none
  stay:∀ i∈js,∀ g,Wy ps js (win i) mv i g->g∈js/\win g=win i
  good:∀ i∈js,aE ps i%2≠win i->¬ pS (Wy ps js (win i) mv) (fun x=>x∈js/\win x=win i/\aE ps x<=aE ps i) i i
structure hJ (ps:List P4) (js:List Int) (s:Sh):Prop where
  two:s.w=0\/s.w=1
  sub:∀ i∈s.pl,i∈js
  ne:s.pl≠[]
  has:∀ i∈s.pl,am ps i=s.w->∃ g,s.mv i=some g/\g∈ay ps i
  non:∀ i,(i∉s.pl\/am ps i≠s.w)->s.mv i=none
  stay:∀ i∈s.pl,∀ g,Wy ps js s.w s.mv i g->g∈s.pl
  outO:∀ i∈js,i∉s.pl->am ps i=s.w->∀ g∈bH ps js i,g∉s.pl
  outX:∀ i∈js,i∉s.pl->am ps i≠s.w->∃ g∈bH ps js i,g∉s.pl
  good:∀ i∈s.pl,aE ps i%2≠s.w->¬ pS (Wy ps js s.w s.mv) (fun x=>x∈s.pl/\aE ps x<=aE ps i) i i
theorem ki {ps:List P4} {K:List Int} {w:Int} {m1 m2:Int->Option Int} {i g:Int} (e:m1 i=m2 i) (h:Wy ps K w m1 i g):Wy ps K w m2 i g:=by
  rcases h with ⟨a,b⟩ | h
  · exact .inl ⟨a,by rw [<- e];exact b⟩
  · exact .inr h
theorem hJ.whole {ps:List P4} {js:List Int} {s:Sh} (S:hJ ps js s) (hw:gm ps js):gm ps (ix js s.pl):=by
  intro i hi;obtain ⟨h1,h2⟩:=bB.mp hi;have fin:∀ g∈bH ps js i,g∉s.pl->∃ g,g∈bH ps (ix js s.pl) i:=fun g g1 g2=>⟨g,iQ (eW g1) (bB.mpr ⟨fX g1,g2⟩)⟩
  by_cases ho:am ps i=s.w
  · obtain ⟨g,hg⟩:=hw i h1;exact fin g hg (S.outO i h1 h2 ho g hg)
  · obtain ⟨g,g1,g2⟩:=S.outX i h1 h2 ho;exact fin g g1 g2
theorem xW {ps:List P4} {js:List Int} (hown:∀ i∈js,am ps i=0\/am ps i=1) {s:Sh} (S:hJ ps js s) {win:Int->Int} {mv:Int->Option Int} (I:tu ps (ix js s.pl) win mv) :
    tu ps js (fun i=>if i∈s.pl then s.w else win i) (fun i=>if i∈s.pl then s.mv i else mv i):=by
  have wP:∀ {i},i∈s.pl->(if i∈s.pl then s.w else win i)=s.w:=fun h=>if_pos h
  have wR:∀ {i},i∉s.pl->(if i∈s.pl then s.w else win i)=win i:=fun h=>if_neg h
  have mP:∀ {i},i∈s.pl->(if i∈s.pl then s.mv i else mv i)=s.mv i:=fun h=>if_pos h
  have mR:∀ {i},i∉s.pl->(if i∈s.pl then s.mv i else mv i)=mv i:=fun h=>if_neg h
  have goR:∀ i g,i∈js->i∉s.pl->Wy ps js (win i) mv i g->(g∈js/\g∉s.pl/\Wy ps (ix js s.pl) (win i) mv i g)\/(win i=s.w/\g∈s.pl):=fun i g hi hn h=>by
    have hi':=bB.mpr ⟨hi,hn⟩;rcases h with ⟨ho,hm⟩ | ⟨ho,hm⟩
    · have w:Wy ps (ix js s.pl) (win i) mv i g:=.inl ⟨ho,hm⟩;obtain ⟨z1,z2⟩:=bB.mp (I.stay i hi' g w).1;exact .inl ⟨z1,z2,w⟩
    · by_cases hg:g∈s.pl
      · right;refine ⟨?_,hg⟩;have h1:am ps i≠s.w:=fun z=>S.outO i hi hn z g hm hg
        have:=hown i hi;have:=I.two i hi';have:=S.two;omega
      · exact .inl ⟨fX hm,hg,.inr ⟨ho,iQ (eW hm) (bB.mpr ⟨fX hm,hg⟩)⟩⟩
  refine ⟨fun i hi=>?_,fun i hi ho=>?_,fun i hi ho=>?_,fun i hi g hg=>?_,fun i hi hm hp=>?_⟩
  · by_cases h:i∈s.pl
    · rw [wP h];exact S.two
    · rw [wR h];exact I.two i (bB.mpr ⟨hi,h⟩)
  · by_cases h:i∈s.pl
    · rw [mP h];exact S.has i h (ho.trans (wP h))
    · rw [mR h];exact I.has i (bB.mpr ⟨hi,h⟩) (ho.trans (wR h))
  · by_cases h:i∈s.pl
    · rw [mP h];exact S.non i (.inr fun z=>ho (z.trans (wP h).symm))
    · rw [mR h];exact I.non i (bB.mpr ⟨hi,h⟩) fun z=>ho (z.trans (wR h).symm)
  · by_cases h:i∈s.pl
    · rw [wP h] at hg ⊢;have:=S.stay i h g (ki (mP h) hg);exact ⟨S.sub g this,wP this⟩
    · rw [wR h] at hg ⊢;rcases goR i g hi h (ki (mR h) hg) with ⟨z1,z2,z3⟩ | ⟨z1,z2⟩
      · refine ⟨z1,?_⟩;rw [wR z2];exact (I.stay i (bB.mpr ⟨hi,h⟩) g z3).2
      · refine ⟨S.sub g z2,?_⟩;rw [wP z2];exact z1.symm
  · by_cases h:i∈s.pl
    · rw [wP h] at hm hp;refine S.good i h hm ?_;refine (hp.inn (P:=fun x=>x∈s.pl) h fun x y hx e _=>S.stay x hx y (ki (mP hx) e)).imp (fun y e a=>⟨ki (mP h) e,a.2,a.1.2.2⟩) fun x y ax e a=>⟨ki (mP ax.2) e,a.2,a.1.2.2⟩
    · rw [wR h] at hm hp;refine I.good i (bB.mpr ⟨hi,h⟩) hm ?_;have hp2:=hp.out (P:=fun x=>x∈s.pl) h fun x y ax hx e a=>by
        have hw:s.w=win i:=(wP hx).symm.trans ax.2.1;exact S.stay x hx y (ki (mP hx) (by rw [hw];exact e))
      have st:∀ x y,x∈js->x∉s.pl->win x=win i->Wy ps js (win i) (fun i=>if i∈s.pl then s.mv i else mv i) x y->(y∈js/\(if y∈s.pl then s.w else win y)=win i/\aE ps y<=aE ps i)/\y∉s.pl->Wy ps (ix js s.pl) (win i) mv x y/\(y∈ix js s.pl/\win y=win i/\aE ps y<=aE ps i):=fun x y hx hxn hwx e a=>by
        refine ⟨?_,bB.mpr ⟨a.1.1,a.2⟩,(wR a.2).symm.trans a.1.2.1,a.1.2.2⟩;rcases goR x y hx hxn (by rw [hwx];exact ki (mR hxn) e) with ⟨_,_,z⟩ | ⟨_,z⟩
        · rw [hwx] at z;exact z
        · exact (a.2 z).elim
      exact hp2.imp (fun y e a=>st i y hi h rfl e a) fun x y ax e a=>st x y ax.1.1 ax.2 ((wR ax.2).symm.trans ax.1.2.1) e a
theorem AL {ps:List P4} (win:Int->Int) (mv:Int->Option Int):tu ps [] win mv:=by
  refine ⟨?_,?_,?_,?_,?_⟩ <;> intro i hi <;> cases hi
section
variable {ps:List P4} {js:List Int} (hj:eh ps.length js) (hw:gm ps js) (hown:∀ i∈js,am ps i=0\/am ps i=1) {h w:Int} (ew:w=h%2) (hmax:∀ i∈js,aE ps i<=h)
  {tops:List Int} (htop:∀ i,i∈tops<->i∈js/\aE ps i=h) {rk:Int->Option Int} (A:uC ps js w tops rk) {sub:List Int} (hsub:∀ i,i∈sub<->i∈js/\rk i=none) {win:Int->Int} {mv:Int->Option Int} (I:tu ps sub win mv) (hmv:∀ i,i∉sub->mv i=none)
include hj hw hown ew hmax htop A hsub I hmv
theorem wN (hne:js≠[]) (hl:∀ i∈sub,win i=w):hJ ps js ⟨w,js,eD (eD (mn ps w rk) mv) (fA ps w js)⟩:=by
  have w01:w=0\/w=1:=by omega
  obtain ⟨M,eM⟩:∃ M,M=eD (eD (mn ps w rk) mv) (fA ps w js):=⟨_,rfl⟩
  rw [<- eM]
  -- the move at a place of w
  have own:∀ i∈js,am ps i=w->∃ g,M i=some g/\g∈ay ps i/\g∈js/\(∀ q,rk i=some q->0 < q->rk g=some (q-1))/\(rk i=none->mv i=some g):=fun i hi ho=>by
    rw [eM];unfold eD;cases hr:rk i with
    | none =>
      have his:=(hsub i).mpr ⟨hi,hr⟩;obtain ⟨g,g1,g2⟩:=I.has i his (by rw [hl i his];exact ho);have gs:=(I.stay i his g (by rw [hl i his];exact .inl ⟨ho,g1⟩)).1;exact ⟨g,by rw [gK (.inr (.inl hr)),g1];rfl,g2,((hsub g).mp gs).1,(fun q z=>nomatch z),fun _=>g1⟩
    | some q =>
      by_cases hq:0 < q
      · obtain ⟨g,g1,g2,g3⟩:=vE A hr hq ho;exact ⟨g,by rw [g1];rfl,eW g2,fX g2,fun q' z _=>by cases z;exact g3,fun z=>by cases z⟩
      · obtain ⟨g,g1,g2⟩:=wq hi ho (hw i hi);have h0:q=0:=by have:=A.nneg i q hr;omega
        have hn:mv i=none:=hmv i fun z=>by have:=((hsub i).mp z).2;rw [hr] at this;cases this
        refine ⟨g,by rw [gK (.inr (.inr (by rw [hr,h0]))),hn,g1];rfl,eW g2,fX g2,fun q' z y=>by cases z;omega,fun z=>by cases z⟩
  refine ⟨w01,fun i hi=>hi,hne,fun i hi ho=>?_,fun i hi=>?_,fun i hi g hg=>?_,fun i hi hn=>(hn hi).elim,fun i hi hn=>(hn hi).elim,fun i hi hm hp=>?_⟩
  · obtain ⟨g,g1,g2,_⟩:=own i hi ho;exact ⟨g,g1,g2⟩
  · show M i=none;rw [eM];unfold eD;rw [t9 hi];rcases hi with hi | hi
    · have hr:rk i=none:=by
        cases hr:rk i with
        | none=>rfl
        | some q=>exact (hi (A.sub i q hr)).elim
      rw [gK (.inr (.inl hr)),hmv i fun z=>hi ((hsub i).mp z).1];rfl
    · rw [gK (.inl hi)];by_cases his:i∈sub
      · rw [I.non i his (by rw [hl i his];exact hi)];rfl
      · rw [hmv i his];rfl
  · show g∈js;rcases hg with ⟨ho,hm⟩ | ⟨_,hm⟩
    · obtain ⟨g',g1,_,g3,_⟩:=own i hi ho;rw [show M i=some g from hm] at g1;cases g1;exact g3
    · exact fX hm
  · -- a bad ring
    have hm':aE ps i%2≠w:=hm;have hlt:aE ps i < h:=by
      have:=hmax i hi;by_cases z:aE ps i=h
      · rw [z] at hm';exact (hm' ew.symm).elim
      · omega
    have dec:∀ x y q,x∈js->aE ps x<=aE ps i->rk x=some q->Wy ps js w M x y->∃ t,rk y=some t/\t < q:=fun x y q hx hmx hq e=>by
      have hpos:0 < q:=by
        have:=A.nneg x q hq;by_cases z:q=0
        · subst z;have:=((htop x).mp ((A.zero x).mp hq)).2;omega
        · omega
      rcases e with ⟨ho,hmv'⟩ | ⟨ho,hmv'⟩
      · obtain ⟨g,g1,_,_,g4,_⟩:=own x hx ho;rw [hmv'] at g1;cases g1;exact ⟨q-1,g4 q hq hpos,by omega⟩
      · exact (A.oth x q hq hpos ho).2 y hmv'
    by_cases hri:rk i=none
    · -- all of it lies in what is left
      have his:=(hsub i).mpr ⟨hi,hri⟩;have hp2:=hp.out (P:=fun x=>∃ q,rk x=some q) (by rintro ⟨q,hq⟩;rw [hri] at hq;cases hq) fun x y ax ⟨q,hq⟩ e _=>by
        obtain ⟨t,ht,_⟩:=dec x y q ax.1 ax.2 hq e;exact ⟨t,ht⟩
      have non:∀ {x},¬ (∃ q,rk x=some q)->rk x=none:=fun {x} z=>by
        cases hr:rk x with
        | none=>rfl
        | some q=>exact (z ⟨q,hr⟩).elim
      refine I.good i his (by rw [hl i his];exact hm') ?_;rw [hl i his];have st:∀ x y,x∈js->rk x=none->Wy ps js w M x y->(y∈js/\aE ps y<=aE ps i)/\¬ (∃ q,rk y=some q)->Wy ps sub w mv x y/\(y∈sub/\win y=w/\aE ps y<=aE ps i):=fun x y hx hrx e a=>by
        have hys:=(hsub y).mpr ⟨a.1.1,non a.2⟩;refine ⟨?_,hys,hl y hys,a.1.2⟩;rcases e with ⟨ho,hmv'⟩ | ⟨ho,hmv'⟩
        · obtain ⟨g,g1,_,_,_,g5⟩:=own x hx ho;rw [hmv'] at g1;cases g1;exact .inl ⟨ho,g5 hrx⟩
        · exact .inr ⟨ho,iQ (eW hmv') hys⟩
      exact hp2.imp (fun y e a=>st i y hi hri e a) fun x y ax e a=>st x y ax.1.1 (non ax.2) e a
    · -- ranks fall
      obtain ⟨q0,hq0⟩:∃ q,rk i=some q:=by
        cases hr:rk i with
        | none=>exact (hri hr).elim
        | some q=>exact ⟨q,rfl⟩
      have hp2:=hp.inn (P:=fun x=>x∈js/\aE ps x<=aE ps i/\∃ q,rk x=some q) ⟨hi,Int.le_refl _,q0,hq0⟩ fun x y ⟨hx,hmx,q,hq⟩ e a=>by
        obtain ⟨t,ht,_⟩:=dec x y q hx hmx hq e;exact ⟨a.1,a.2,t,ht⟩
      have fall:∀ x y,x∈js->aE ps x<=aE ps i->(∃ q,rk x=some q)->Wy ps js w M x y->(rk y).getD 0 < (rk x).getD 0:=fun x y hx hmx ⟨q,hq⟩ e=>by
        obtain ⟨t,ht,hlt'⟩:=dec x y q hx hmx hq e;rw [ht,hq];exact hlt'
      have:=hp2.less (φ:=fun x=>(rk x).getD 0) (fun y e _=>fall i y hi (Int.le_refl _) ⟨q0,hq0⟩ e) fun x y ax e _=>by
        have:=fall x y ax.2.1 ax.2.2.1 ax.2.2.2 e;omega
      exact absurd this (Int.lt_irrefl _)
theorem uh {lost:List Int} (hlost:∀ i,i∈lost<->i∈sub/\win i=1-w) (hne:lost≠[]) {rk2:Int->Option Int} (B:uC ps js (1-w) lost rk2) {pl:List Int} (hpl:∀ i,i∈pl<->∃ q,rk2 i=some q) :
    hJ ps js ⟨1-w,pl,eD (mn ps (1-w) rk2) (fun i=>if i∈lost then mv i else none)⟩:=by
  have w01:w=0\/w=1:=by omega
  obtain ⟨M,eM⟩:∃ M,M=eD (mn ps (1-w) rk2) (fun i=>if i∈lost then mv i else none):=⟨_,rfl⟩
  rw [<- eM];have l0:∀ {i},i∈lost->rk2 i=some 0:=fun {i} hi=>(B.zero i).mpr hi
  have own:∀ i q,rk2 i=some q->am ps i=1-w->∃ g,M i=some g/\g∈ay ps i/\((0 < q/\rk2 g=some (q-1))\/(q=0/\g∈lost/\mv i=some g)):=fun i q hq ho=>by
    rw [eM];unfold eD;by_cases hp:0 < q
    · obtain ⟨g,g1,g2,g3⟩:=vE B hq hp ho;exact ⟨g,by rw [g1];rfl,eW g2,.inl ⟨hp,g3⟩⟩
    · have h0:q=0:=by have:=B.nneg i q hq;omega
      have hi:i∈lost:=(B.zero i).mp (by rw [hq,h0]);obtain ⟨hs,hwi⟩:=(hlost i).mp hi;obtain ⟨g,g1,g2⟩:=I.has i hs (by rw [hwi];exact ho);obtain ⟨s1,s2⟩:=I.stay i hs g (by rw [hwi];exact .inl ⟨ho,g1⟩);refine ⟨g,?_,g2,.inr ⟨h0,(hlost g).mpr ⟨s1,s2.trans hwi⟩,g1⟩⟩;rw [gK (.inr (.inr (by rw [hq,h0])))];show (if i∈lost then mv i else none)=_;rw [if_pos hi,g1]
  have go:∀ i q g,rk2 i=some q->Wy ps js (1-w) M i g->∃ t,rk2 g=some t/\((t < q)\/(q=0/\t=0/\Wy ps sub (1-w) mv i g)):=fun i q g hq e=>by
    rcases e with ⟨ho,hm⟩ | ⟨ho,hm⟩
    · obtain ⟨g',g1,_,g3⟩:=own i q hq ho;rw [hm] at g1;cases g1;rcases g3 with ⟨z1,z2⟩ | ⟨z1,z2,z3⟩
      · exact ⟨q-1,z2,.inl (by omega)⟩
      · exact ⟨0,l0 z2,.inr ⟨z1,rfl,.inl ⟨ho,z3⟩⟩⟩
    · by_cases hp:0 < q
      · obtain ⟨t,t1,t2⟩:=(B.oth i q hq hp ho).2 g hm;exact ⟨t,t1,.inl t2⟩
      · have h0:q=0:=by have:=B.nneg i q hq;omega
        have hi:i∈lost:=(B.zero i).mp (by rw [hq,h0]);obtain ⟨hs,hwi⟩:=(hlost i).mp hi;obtain ⟨hij,hin⟩:=(hsub i).mp hs;have how:am ps i=w:=by have:=hown i hij;omega
        have hgs:g∈sub:=(hsub g).mpr ⟨fX hm,A.outO i hij hin how g hm⟩;have wy:Wy ps sub (1-w) mv i g:=.inr ⟨ho,iQ (eW hm) hgs⟩;obtain ⟨s1,s2⟩:=I.stay i hs g (by rw [hwi];exact wy);exact ⟨0,l0 ((hlost g).mpr ⟨s1,s2.trans hwi⟩),.inr ⟨h0,rfl,wy⟩⟩
  refine ⟨by show 1-w=0\/1-w=1;omega,fun i hi=>?_,?_,fun i hi ho=>?_,fun i hi=>?_,fun i hi g hg=>?_,fun i hi hn ho g hg hgp=>?_,fun i hi hn ho=>?_,fun i hi hm hp=>?_⟩
  · obtain ⟨q,hq⟩:=(hpl i).mp hi;exact B.sub i q hq
  · obtain ⟨i,hi⟩:=List.exists_mem_of_ne_nil _ hne;exact List.ne_nil_of_mem ((hpl i).mpr ⟨0,l0 hi⟩)
  · obtain ⟨q,hq⟩:=(hpl i).mp hi;obtain ⟨g,g1,g2,_⟩:=own i q hq ho;exact ⟨g,g1,g2⟩
  · show M i=none;rw [eM];unfold eD;rcases hi with hi | hi
    · have hr:rk2 i=none:=by
        cases hr:rk2 i with
        | none=>rfl
        | some q=>exact (hi ((hpl i).mpr ⟨q,hr⟩)).elim
      rw [gK (.inr (.inl hr))];show (if i∈lost then mv i else none)=_;rw [if_neg fun z=>by rw [l0 z] at hr;cases hr]
    · rw [gK (.inl hi)];show (if i∈lost then mv i else none)=_;by_cases z:i∈lost
      · obtain ⟨hs,hwi⟩:=(hlost i).mp z;rw [if_pos z,I.non i hs (by rw [hwi];exact hi)]
      · rw [if_neg z]
  · obtain ⟨q,hq⟩:=(hpl i).mp hi;obtain ⟨t,ht,_⟩:=go i q g hq hg;exact (hpl g).mpr ⟨t,ht⟩
  · have hr:rk2 i=none:=by
      cases hr:rk2 i with
      | none=>rfl
      | some q=>exact (hn ((hpl i).mpr ⟨q,hr⟩)).elim
    obtain ⟨q,hq⟩:=(hpl g).mp hgp;rw [B.outO i hi hr ho g hg] at hq;cases hq
  · have hr:rk2 i=none:=by
      cases hr:rk2 i with
      | none=>rfl
      | some q=>exact (hn ((hpl i).mpr ⟨q,hr⟩)).elim
    obtain ⟨g,g1,g2⟩:=B.outX i hi hr ho (hw i hi);refine ⟨g,g1,fun z=>?_⟩;obtain ⟨q,hq⟩:=(hpl g).mp z;rw [g2] at hq;cases hq
  · -- a bad ring
    have hi':i∈pl:=hi;have hm':aE ps i%2≠1-w:=hm;obtain ⟨q0,hq0⟩:=(hpl i).mp hi';have le:∀ x y,x∈pl->Wy ps js (1-w) M x y->(rk2 y).getD 0<=(rk2 x).getD 0:=fun x y hx e=>by
      obtain ⟨q,hq⟩:=(hpl x).mp hx;obtain ⟨t,ht,z⟩:=go x q y hq e;rw [hq,ht];show t<=q;omega
    by_cases hz:q0=0
    · subst hz;have hil:i∈lost:=(B.zero i).mp hq0;obtain ⟨his,hwi⟩:=(hlost i).mp hil;have hp2:=hp.inn (P:=fun x=>x∈lost) hil fun x y hx e _=>by
        obtain ⟨t,ht,z⟩:=go x 0 y (l0 hx) e;have:=B.nneg y t ht;have t0:t=0:=by omega
        exact (B.zero y).mp (by rw [ht,t0])
      refine I.good i his (by rw [hwi];exact hm') ?_;rw [hwi];have st:∀ x y,x∈lost->Wy ps js (1-w) M x y->(y∈pl/\aE ps y<=aE ps i)/\y∈lost->Wy ps sub (1-w) mv x y/\(y∈sub/\win y=1-w/\aE ps y<=aE ps i):=fun x y hx e a=>by
        obtain ⟨s1,s2⟩:=(hlost y).mp a.2;refine ⟨?_,s1,s2,a.1.2⟩;obtain ⟨t,ht,z⟩:=go x 0 y (l0 hx) e;have:=B.nneg y t ht;rcases z with z | ⟨_,_,z⟩
        · omega
        · exact z
      exact hp2.imp (fun y e a=>st i y hil e a) fun x y ax e a=>st x y ax.2 e a
    · have:=hp.less (φ:=fun x=>(rk2 x).getD 0) (fun y e _=>by
        obtain ⟨t,ht,z⟩:=go i q0 y hq0 e;show (rk2 y).getD 0 < (rk2 i).getD 0;rw [ht,hq0];show t < q0;omega) fun x y ax e _=>le x y ax.1 e
      exact absurd this (Int.lt_irrefl _)
end
theorem rD {f:Int->Option Int} {n:Nat} (hn:n<=1000) {s:PyData} {js:List Int} (hs:sF s js):cL [oT f n,s]=.ok (oT (fun i=>if i∈js then f i else none) n):=by
  have hc:=oU (fe:=BA (tE (e2 (ni false) (ae 0) (ae 2))) (ae 1) (eC .none)) (ρ:=[.val s]) (g:=fun i=>oD (f i)) (h:=fun i=>oD (if i∈js then f i else none)) n 0 fun j _ _=>by
    simp only [tY,cB,br,au,ao,bE,R.ok_bind,hs.inn,cZ];cases hm:dc js j with
    | true=>rw [if_pos (bU.mp hm)];rfl
    | false=>rw [if_neg (show ¬ (j:Int)∈js from fun z=>by rw [bU.mpr z] at hm;cases hm)];rfl
  rw [jN] at hc;unfold cL kJ;refine eE ?_;rw [show ([oT f n,s].map bh.val++List.replicate (2 - [oT f n,s].length) bh.non)=[.val (oT f n),.val s] from rfl];rw [cq,bY,bp,show aC 2 [1] [.val (oT f n),.val s]=[.non,.non,.val s] from rfl];simp only [jo,ao,R.ok_bind,cQ,cj];rw [if_pos (by rw [fL,bK];exact bG hn)];rw [show cP 0 (cm (fun i=>oD (f i)) n)=cP 0 ((ids n).map fun i=>oD (f i)) from rfl,hc];rfl
noncomputable def lb (sub:List Int) (win:Int->Int) (i:Int):Option Int:=if i∈sub then some (win i) else none
section
variable {ps:List P4} (G:Gr ps) {c:Addr} {k:Nat} {js:List Int} (hj:eh ps.length js) (hw:gm ps js) (hne:js≠[]) (hown:∀ i∈js,am ps i=0\/am ps i=1)
include G hj hw hne hown
theorem yS (ih:∀ (h:Int) (sub:List Int),eh ps.length sub->gm ps sub->(∀ i∈sub,i∈js/\aE ps i < h)->(∃ i∈js,aE ps i=h)->∃ win mv,aG c k [gD ps,.tuple (sub.map .int)]=.ok (.tuple [oT (lb sub win) ps.length,oT mv ps.length])/\tu ps sub win mv/\∀ i,i∉sub->mv i=none) :
    ∃ s,aW c k [gD ps,.tuple (js.map .int)]=.ok (i8 c ps.length s)/\hJ ps js s/\eh ps.length s.pl:=by
  have hp:=G.hp;have hjl:=hj.len;obtain ⟨h,hmx,htopx,hmax⟩:=pD (ps:=ps) hne;obtain ⟨w,ew⟩:∃ w,w=h%2:=⟨_,rfl⟩
  have w01:w=0\/w=1:=by omega
  obtain ⟨tops,etops⟩:∃ tops,tops=js.filter fun i=>decide (aE ps i=h):=⟨_,rfl⟩
  have htop:∀ i,i∈tops<->i∈js/\aE ps i=h:=fun i=>by rw [etops,List.mem_filter,decide_eq_true_iff]
  have tp:eh ps.length tops:=by rw [etops];exact hj.filter _
  obtain ⟨rk,erk⟩:∃ rk,rk=rK ps js w tops:=⟨_,rfl⟩
  have A:uC ps js w tops rk:=by rw [erk];exact vP tp.nd (fun x hx=>((htop x).mp hx).1) hj.nd hj.len
  have h1:=mM G.hl G.hgo G.hp (s:=.tuple (js.map .int)) (g:=.list (tops.map .int)) (.inl rfl) (.inr rfl) hj tp (fun x hx=>((htop x).mp hx).1) hw (who:=w);rw [<- erk] at h1;have h2:=lZ (f:=rk) (n:=ps.length) (by omega);have h3:=oF (s:=.tuple (js.map .int)) (t:=.tuple ((jg rk ps.length).map .int)) (.inl rfl) (.inl rfl) (by omega);obtain ⟨sub,esub⟩:∃ sub,sub=ix js (jg rk ps.length):=⟨_,rfl⟩
  have hsub:∀ i,i∈sub<->i∈js/\rk i=none:=fun i=>by
    rw [esub,bB,iy];constructor
    · rintro ⟨a,b⟩;refine ⟨a,?_⟩;cases hr:rk i with
      | none=>rfl
      | some q=>exact (b ⟨hj.inn i a,q,hr⟩).elim
    · rintro ⟨a,b⟩;exact ⟨a,fun ⟨_,q,hq⟩=>by rw [b] at hq;cases hq⟩
  have sp:eh ps.length sub:=by rw [esub];exact hj.filter _
  have sw:gm ps sub:=by
    intro i hi;obtain ⟨a,b⟩:=(hsub i).mp hi;have fin:∀ g∈bH ps js i,rk g=none->∃ g,g∈bH ps sub i:=fun g g1 g2=>⟨g,iQ (eW g1) ((hsub g).mpr ⟨fX g1,g2⟩)⟩
    by_cases ho:am ps i=w
    · obtain ⟨g,hg⟩:=hw i a;exact fin g hg (A.outO i a b ho g hg)
    · obtain ⟨g,g1,g2⟩:=A.outX i a b ho (hw i a);exact fin g g1 g2
  obtain ⟨win,mv,h4,I,hmv⟩:=ih h sub sp sw (fun i hi=>by
    obtain ⟨a,b⟩:=(hsub i).mp hi;refine ⟨a,?_⟩;have:=hmax i a;by_cases z:aE ps i=h
    · have:=(A.zero i).mpr ((htop i).mpr ⟨a,z⟩);rw [b] at this;cases this
    · omega) htopx
  have h5:=io G (kr A)
  -- the lists
  have hmarks:bI (aX 0) (fun _=>.ok true) (e2 bC (e2 bC (ae 1) (ae 0)) (eC (.int 1))) [.non,.val (gD ps)] (js.map .int)=.ok ((js.map (aE ps)).map .int):=by
    have go:∀ is:List Int,(∀ x∈is,0<=x/\x < ps.length)->bI (aX 0) (fun _=>.ok true) (e2 bC (e2 bC (ae 1) (ae 0)) (eC (.int 1))) [.non,.val (gD ps)] (is.map .int)=.ok ((is.map (aE ps)).map .int):=by
      intro is;induction is with
      | nil=>exact fun _=>cG ..
      | cons i is ih' =>
        intro hb;obtain ⟨b0,b1⟩:=hb i List.mem_cons_self;rw [List.map_cons,eR,ih' fun x hx=>hb x (List.mem_cons_of_mem _ hx)];simp only [R.ok_bind,if_true,List.set_cons_zero,br,ao,au,bE,lB b0 b1,uk];rw [<- jS b0 b1];rfl
    exact go js hj.inn
  have htops:=dk (t:=tE (e2 (jb) (e2 bC (e2 bC (ae 1) (ae 0)) (eC (.int 1))) (ae 2))) (ρ:=[.val (gD ps),.val (.int h)]) (p:=fun i=>decide (aE ps i=h)) js fun i hi=>by
    obtain ⟨b0,b1⟩:=hj.inn i hi;simp only [List.set_cons_zero,cB,br,ao,au,bE,R.ok_bind,lB b0 b1,uk,fW,cZ];rw [<- jS b0 b1]
  rw [<- etops] at htops;obtain ⟨lost,elost⟩:∃ lost,lost=(ids ps.length).filter fun i=>decide (lb sub win i=some (1-w)):=⟨_,rfl⟩
  have hlost:∀ i,i∈lost<->i∈sub/\win i=1-w:=fun i=>by
    rw [elost,List.mem_filter,decide_eq_true_iff];unfold lb;constructor
    · rintro ⟨a,b⟩;split at b
      · rename_i z;exact ⟨z,Option.some.inj b⟩
      · cases b
    · rintro ⟨a,b⟩;exact ⟨bW.mpr (sp.inn i a),by rw [if_pos a,b]⟩
  have lp:eh ps.length lost:=by rw [elost];exact (eh.ids _).filter _
  have hlist:=jA (t:=tE (e2 (jb) (ae 1) (ae 2))) (ρ:=[.val (.int (1-w))]) (p:=fun i=>decide (lb sub win i=some (1-w))) (g:=fun i=>oD (lb sub win i)) ps.length 0 fun j _ _=>by
    simp only [cB,br,au,ao,R.ok_bind,va,cZ]
  rw [jN,<- elost] at hlist;obtain ⟨B,hB⟩:∃ B,B=PyData.tuple [oT (lb sub win) ps.length,oT mv ps.length]:=⟨_,rfl⟩
  rw [<- hB] at h4;have hB0:bC B (.int 0)=.ok (oT (lb sub win) ps.length):=by rw [hB];rfl
  have hB1:bC B (.int 1)=.ok (oT mv ps.length):=by rw [hB];rfl
  -- up to the test
  have pre:∀ {r:R PyData},((aY (lK (tE (e2 (jb) (e1 dO (ae 8)) (eC (.int 0)))) (aY (bT 9 (aJ aD (ah (aJ bf (ah (ae 0) (ah (ae 3) (ah (ae 6) aI)))) (ah (e2 bC (ae 7) (eC (.int 1))) aI)))) (cR (si c ["who","places","moves"] (ah (ae 3) (ah (ae 1) (ah (aJ aD (ah (ae 9) (ah (aJ bt (ah (ae 0) (ah (ae 3) (ah (ae 1) aI)))) aI))) aI)))))) dX) (aY (bT 6 (aJ cs (ah (ae 0) (ah (ae 1) (ah (ae 4) (ah (ae 8) aI)))))) (aY (bT 9 (aJ aD (ah (aJ bf (ah (ae 0) (ah (ae 4) (ah (ae 6) aI)))) (ah (aJ cL (ah (e2 bC (ae 7) (eC (.int 1))) (ah (ae 8) aI))) aI)))) (cR (si c ["who","places","moves"] (ah (ae 4) (ah (aJ ca (ah (ae 6) aI)) (ah (ae 9) aI)))))))) [.val (gD ps),.val (.tuple (js.map .int)),.val (.int h),.val (.int w),.val (.int (1-w)),.val (.list (tops.map .int)),.val (oT rk ps.length),.val B,.val (.list (lost.map .int)),.non]>>=BH)=r->aW c k [gD ps,.tuple (js.map .int)]=r:=fun {r} hr=>by
    unfold aW ed;rw [fK,show ([gD ps,.tuple (js.map .int)].map bh.val++List.replicate (10 - [gD ps,.tuple (js.map .int)].length) bh.non)=[.val (gD ps),.val (.tuple (js.map .int)),.non,.non,.non,.non,.non,.non,.non,.non] from rfl];rw [aL (ρ':=[.val (gD ps),.val (.tuple (js.map .int)),.val (.int h),.non,.non,.non,.non,.non,.non,.non]) (by
      rw [bu,bY,bp,show aC 1 [0] [.val (gD ps),.val (.tuple (js.map .int)),.non,.non,.non,.non,.non,.non,.non,.non]=[.non,.val (gD ps)] from rfl];simp only [bZ,ao,au,R.ok_bind,cQ,cj];rw [if_pos (by rw [List.length_map];exact bG (by omega)),hmarks,hR,R.ok_bind,hmx];rfl)]
    rw [aL (ρ':=[.val (gD ps),.val (.tuple (js.map .int)),.val (.int h),.val (.int w),.non,.non,.non,.non,.non,.non]) (by
      simp only [bu,br,ao,au,bE,R.ok_bind,qp];rw [if_pos (by decide),<- ew];rfl)]
    rw [aL (ρ':=[.val (gD ps),.val (.tuple (js.map .int)),.val (.int h),.val (.int w),.val (.int (1-w)),.non,.non,.non,.non,.non]) (by
      simp only [bu,br,ao,au,bE,R.ok_bind,uB];rfl)]
    rw [aL (ρ':=[.val (gD ps),.val (.tuple (js.map .int)),.val (.int h),.val (.int w),.val (.int (1-w)),.val (.list (tops.map .int)),.non,.non,.non,.non]) (by
      rw [bu,bp,show aC 1 [0,2] [.val (gD ps),.val (.tuple (js.map .int)),.val (.int h),.val (.int w),.val (.int (1-w)),.non,.non,.non,.non,.non]=[.non,.val (gD ps),.val (.int h)] from rfl];simp only [bZ,ao,au,R.ok_bind,cQ,cj];rw [if_pos (by rw [List.length_map];exact bG (by omega)),htops];rfl)]
    rw [aL (ρ':=[.val (gD ps),.val (.tuple (js.map .int)),.val (.int h),.val (.int w),.val (.int (1-w)),.val (.list (tops.map .int)),.val (oT rk ps.length),.non,.non,.non]) (by
      simp only [bu,bd,aN,aS,ao,au,R.ok_bind,h1];rfl)]
    rw [aL (ρ':=[.val (gD ps),.val (.tuple (js.map .int)),.val (.int h),.val (.int w),.val (.int (1-w)),.val (.list (tops.map .int)),.val (oT rk ps.length),.val B,.non,.non]) (by
      simp only [bu,bd,aN,aS,ao,au,R.ok_bind,h2,h3];rw [show (js.filter fun i=>!dc (jg rk ps.length) i)=sub from esub.symm,h4];rfl)]
    rw [aL (ρ':=[.val (gD ps),.val (.tuple (js.map .int)),.val (.int h),.val (.int w),.val (.int (1-w)),.val (.list (tops.map .int)),.val (oT rk ps.length),.val B,.val (.list (lost.map .int)),.non]) (by
      rw [bu,bp,show aC 2 [4] [.val (gD ps),.val (.tuple (js.map .int)),.val (.int h),.val (.int w),.val (.int (1-w)),.val (.list (tops.map .int)),.val (oT rk ps.length),.val B,.non,.non]=[.non,.non,.val (.int (1-w))] from rfl];simp only [jo,br,ao,au,bE,R.ok_bind,hB0,cQ,cj];rw [if_pos (by rw [fL,bK];exact bG (by omega))];rw [show cP 0 (cm (fun i=>oD (lb sub win i)) ps.length)=cP 0 ((ids ps.length).map fun i=>oD (lb sub win i)) from rfl,hlist];rfl)]
    exact hr
  by_cases hl:lost=[]
  · have hall:∀ i∈sub,win i=w:=fun i hi=>by
      by_cases z:win i=1-w
      · have:=(hlost i).mpr ⟨hi,z⟩;rw [hl] at this;cases this
      · have:=I.two i hi;omega
    have S:=wN hj hw hown ew hmax htop A hsub I hmv hne hall;have h6:=me G (who:=w) (s:=.tuple (js.map .int)) (.inl rfl) hj fun i hi _=>hw i hi
    refine ⟨_,pre ?_,S,hj⟩;rw [tX (d:=i8 c ps.length ⟨w,js,eD (eD (mn ps w rk) mv) (fA ps w js)⟩) ?_]
    · rfl
    · rw [dG,cB,br,bY];simp only [ao,au,bE,R.ok_bind,hl,List.map_nil,om,List.length_nil,fW,cZ];rw [if_pos (by decide)];rw [aL (ρ':=[.val (gD ps),.val (.tuple (js.map .int)),.val (.int h),.val (.int w),.val (.int (1-w)),.val (.list (tops.map .int)),.val (oT rk ps.length),.val B,.val (.list []),.val (oT (eD (mn ps w rk) mv) ps.length)]) (by
        simp only [bu,bd,aN,aS,br,bE,ao,au,R.ok_bind,h5,hB1,nr (show ps.length<=1000 by omega)];rfl)]
      unfold si;simp only [cq,bd,aN,aS,ao,au,R.ok_bind,h6,nr (show ps.length<=1000 by omega)];rfl
  · obtain ⟨rk2,erk2⟩:∃ rk2,rk2=rK ps js (1-w) lost:=⟨_,rfl⟩
    have lsub:∀ x∈lost,x∈js:=fun x hx=>((hsub x).mp ((hlost x).mp hx).1).1
    have B2:uC ps js (1-w) lost rk2:=by rw [erk2];exact vP lp.nd lsub hj.nd hj.len
    have g1:=mM G.hl G.hgo G.hp (s:=.tuple (js.map .int)) (g:=.list (lost.map .int)) (.inl rfl) (.inr rfl) hj lp lsub hw (who:=1-w);rw [<- erk2] at g1;have g2:=lZ (f:=rk2) (n:=ps.length) (by omega);have g3:=io G (kr B2);have g4:=rD (f:=mv) (n:=ps.length) (by omega) (s:=.list (lost.map .int)) (js:=lost) (.inr rfl);have S:=uh hj hw hown ew hmax htop A hsub I hmv hlost hl B2 (pl:=jg rk2 ps.length) fun i=>by
      rw [iy];exact ⟨fun z=>z.2,fun ⟨q,hq⟩=>⟨hj.inn i (B2.sub i q hq),q,hq⟩⟩
    have hlen:¬ (lost.length:Int)=0:=by
      have:=List.length_pos_iff.mpr hl;omega
    refine ⟨_,pre ?_,S,n9 _ _⟩;rw [aL (ρ':=[.val (gD ps),.val (.tuple (js.map .int)),.val (.int h),.val (.int w),.val (.int (1-w)),.val (.list (tops.map .int)),.val (oT rk ps.length),.val B,.val (.list (lost.map .int)),.non]) (by
      rw [dG,cB,br,bY];simp only [ao,au,bE,R.ok_bind,om,List.length_map,fW,cZ,decide_eq_false hlen];rfl)]
    rw [aL (ρ':=[.val (gD ps),.val (.tuple (js.map .int)),.val (.int h),.val (.int w),.val (.int (1-w)),.val (.list (tops.map .int)),.val (oT rk2 ps.length),.val B,.val (.list (lost.map .int)),.non]) (by
      simp only [bu,bd,aN,aS,ao,au,R.ok_bind,g1];rfl)]
    rw [aL (ρ':=[.val (gD ps),.val (.tuple (js.map .int)),.val (.int h),.val (.int w),.val (.int (1-w)),.val (.list (tops.map .int)),.val (oT rk2 ps.length),.val B,.val (.list (lost.map .int)),.val (oT (eD (mn ps (1-w) rk2) fun i=>if i∈lost then mv i else none) ps.length)]) (by
      simp only [bu,bd,aN,aS,br,bE,ao,au,R.ok_bind,g3,hB1,g4,nr (show ps.length<=1000 by omega)];rfl)]
    unfold si;simp only [cq,bd,aN,aS,ao,au,R.ok_bind,g2];rfl
end
noncomputable def uR (c:Addr) (k:Nat):Fs:=(aY (bT 4 (aJ (aW c k) (ah (ae 0) (ah (ae 3) aI)))) (aY (cO 2 (ae 4)) (bT 3 (aJ bM (ah (ae 3) (ah (e1 (kM c "places") (ae 4)) aI))))))
noncomputable abbrev lR (ps:List P4) (c:Addr) (s:PyData) (acc:List Sh) (js:List Int) (c4:bh):aQ :=
  [.val (gD ps),.val s,.own (.list (acc.map (i8 c ps.length))),.val (.tuple (js.map .int)),c4]
theorem Bt {ps:List P4} (G:Gr ps) {c:Addr} {kk:Nat} {s0:PyData} {Pm:Int->Prop} (hown:∀ i,Pm i->am ps i=0\/am ps i=1) (hS:∀ js,eh ps.length js->gm ps js->js≠[]->(∀ i∈js,Pm i)->∃ s,aW c kk [gD ps,.tuple (js.map .int)]=.ok (i8 c ps.length s)/\hJ ps js s/\eh ps.length s.pl) :
    ∀ (k n:Nat) (js:List Int) (acc:List Sh) (c4:bh),eh ps.length js->gm ps js->(∀ i∈js,Pm i)->js.length<=k->k+1<=n->acc.length+k<=1000 ->
    ∃ l c4' win mv,de (tE (e2 (gr qf) (e1 dO (ae 3)) (eC (.int 0)))) (uR c kk) n (lR ps c s0 acc js c4)=.ok (.nx (lR ps c s0 (acc++l) [] c4'))/\(∀ f i,mF f l i=if i∈js then some (win i) else f i)/\(∀ m i,(i∈js->m i=none)->sJ m l i=if i∈js then mv i else m i)/\tu ps js win mv/\∀ s∈l,∀ x∈s.pl,0<=x/\x < ps.length
  | k,0,js,acc,c4,_,_,_,_,h,_=>by omega
  | k,n+1,js,acc,c4,hj,hw,hm,hk,hn,hz=>by
    have hp:=G.hp;rw [lr];have ht:tE (e2 (gr qf) (e1 dO (ae 3)) (eC (.int 0))) (lR ps c s0 acc js c4)=.ok (decide (0 < js.length)):=by
      simp only [cB,br,bY,au,ao,bE,R.ok_bind,kz,nY,cZ,List.length_map];congr 1;simp
    rw [ht,R.ok_bind];by_cases h0:js=[]
    · subst h0;refine ⟨[],c4,fun _=>0,fun _=>none,by rw [List.append_nil];rfl,fun f i=>by simp [mF],fun m i _=>by simp [sJ],AL _ _,fun s hs=>by cases hs⟩
    · have hpos:=List.length_pos_iff.mpr h0;rw [if_pos (decide_eq_true hpos)];cases k with
      | zero=>omega
      | succ k =>
        obtain ⟨s,h1,S,sp⟩:=hS js hj hw h0 hm;have hl:(ix js s.pl).length < js.length:=by
          obtain ⟨i,hi⟩:=List.exists_mem_of_ne_nil _ S.ne;refine Nat.lt_of_le_of_ne (List.length_filter_le ..) fun z=>?_
          have:=(h8 _ js).mp z i (S.sub i hi);rw [bU.mpr hi] at this;cases this
        obtain ⟨l,c4',win,mv,e,q1,q2,I,q3⟩:=Bt G hown hS k n (ix js s.pl) (acc++[s]) (.val (i8 c ps.length s)) (hj.filter _) (S.whole hw) (fun i hi=>hm i (bB.mp hi).1) (by omega) (by omega) (by simp;omega);have h2:=oF (s:=.tuple (js.map .int)) (t:=.tuple (s.pl.map .int)) (.inl rfl) (.inl rfl) (by have:=hj.len;omega);have hb:uR c kk (lR ps c s0 acc js c4)=.ok (.nx (lR ps c s0 (acc++[s]) (ix js s.pl) (.val (i8 c ps.length s)))):=by
          unfold uR;rw [aL (ρ':=lR ps c s0 acc js (.val (i8 c ps.length s))) (by
            simp only [bu,bd,aN,aS,ao,au,R.ok_bind,h1];rfl)]
          rw [aL (ρ':=lR ps c s0 (acc++[s]) js (.val (i8 c ps.length s))) (by
            rw [jQ (ds:=acc.map (i8 c ps.length)) (ae 4) rfl (Nat.lt_of_lt_of_le (show _ < 1001 by rw [List.length_map];omega) (by decide))];simp only [ao,au,cj,R.ok_bind];rw [show acc.map (i8 c ps.length)++[i8 c ps.length s]=(acc++[s]).map (i8 c ps.length) by simp];rfl)]
          simp only [bu,bd,aN,aS,bY,ao,au,R.ok_bind,oS,h2];rfl
        refine ⟨s::l,c4',fun i=>if i∈s.pl then s.w else win i,fun i=>if i∈s.pl then s.mv i else mv i,?_,fun f i=>?_,fun m i hmi=>?_,xW (fun i hi=>hown i (hm i hi)) S I,fun t ht' x hx=>?_⟩
        · rw [hb,R.ok_bind,dA,e];simp
        · show mF (ye s f) l i=_;rw [q1];by_cases hi:i∈js
          · rw [if_pos hi];dsimp only;by_cases hs:i∈s.pl
            · rw [if_neg fun z=>(bB.mp z).2 hs,if_pos hs];exact if_pos hs
            · rw [if_pos (bB.mpr ⟨hi,hs⟩),if_neg hs]
          · rw [if_neg fun z=>hi (bB.mp z).1,if_neg hi];exact if_neg fun z=>hi (S.sub i z)
        · show sJ (eD m s.mv) l i=_;rw [q2 (eD m s.mv) i fun z=>by
            obtain ⟨z1,z2⟩:=bB.mp z;show (m i).or _=none;rw [hmi z1,Option.none_or,S.non i (.inl z2)]]
          by_cases hi:i∈js
          · rw [if_pos hi];dsimp only;by_cases hs:i∈s.pl
            · rw [if_neg fun z=>(bB.mp z).2 hs,if_pos hs];show (m i).or _=_;rw [hmi hi,Option.none_or]
            · rw [if_pos (bB.mpr ⟨hi,hs⟩),if_neg hs]
          · rw [if_neg fun z=>hi (bB.mp z).1,if_neg hi];show (m i).or _=_;rw [S.non i (.inl fun z=>hi (S.sub i z)),Option.or_none]
        · rcases List.mem_cons.mp ht' with rfl | z
          · exact sp.inn x hx
          · exact q3 t z x hx
theorem tu.congr {ps:List P4} {js:List Int} {win:Int->Int} {mv mv':Int->Option Int} (h:tu ps js win mv) (e:∀ i∈js,mv' i=mv i):tu ps js win mv':=by
  refine ⟨h.two,fun i hi ho=>by rw [e i hi];exact h.has i hi ho,fun i hi ho=>by rw [e i hi];exact h.non i hi ho,fun i hi g hg=>h.stay i hi g (ki (e i hi) hg),fun i hi hm hp=>h.good i hi hm ?_⟩;exact hp.imp (fun y a b=>⟨ki (e i hi) a,b⟩) fun x y ax a b=>⟨ki (e x ax.1) a,b⟩
theorem pk {ps:List P4} (G:Gr ps) {c:Addr} {k:Nat} {Pm:Int->Prop} (hown:∀ i,Pm i->am ps i=0\/am ps i=1) (hS:∀ js,eh ps.length js->gm ps js->js≠[]->(∀ i∈js,Pm i)->∃ s,aW c k [gD ps,.tuple (js.map .int)]=.ok (i8 c ps.length s)/\hJ ps js s/\eh ps.length s.pl) {js:List Int} (hj:eh ps.length js) (hw:gm ps js) (hm:∀ i∈js,Pm i) :
    ∃ win mv,aG c (k+1) [gD ps,.tuple (js.map .int)]=.ok (.tuple [oT (lb js win) ps.length,oT mv ps.length])/\tu ps js win mv/\∀ i,i∉js->mv i=none:=by
  have hp:=G.hp;have hjl:=hj.len;obtain ⟨l,c4,win,mv,e,q1,q2,I,q3⟩:=Bt G (c:=c) (s0:=.tuple (js.map .int)) hown hS js.length 1000000 js [] .non hj hw hm (Nat.le_refl _) (by omega) (by simp;omega);rw [List.nil_append] at e;have h3:=Es (ps:=ps) (by omega) (c:=c) q3;have e1':oT (mF (fun _=>none) l) ps.length=oT (lb js win) ps.length:=congrArg PyData.tuple (cT fun i _ _=>by rw [q1];rfl);have e2':oT (sJ (fun _=>none) l) ps.length=oT (fun i=>if i∈js then mv i else none) ps.length:=congrArg PyData.tuple (cT fun i _ _=>by rw [q2 _ i fun _=>rfl]);rw [e1',e2'] at h3;refine ⟨win,fun i=>if i∈js then mv i else none,?_,I.congr fun i hi=>if_pos hi,fun i hi=>if_neg hi⟩;show dM 5 (eu (aW c k) (bc c) bM c) _=_;unfold eu;refine eE ?_;rw [show ([gD ps,.tuple (js.map .int)].map bh.val++List.replicate (5 - [gD ps,.tuple (js.map .int)].length) bh.non)=[.val (gD ps),.val (.tuple (js.map .int)),.non,.non,.non] from rfl];rw [aL (ρ':=[.val (gD ps),.val (.tuple (js.map .int)),.own (.list []),.non,.non]) (by rfl)];rw [aL (ρ':=lR ps c (.tuple (js.map .int)) [] js .non) (by rfl)];rw [aL (ρ':=lR ps c (.tuple (js.map .int)) l [] c4) (by
    rw [eO];show mw (de (tE (e2 (gr qf) (e1 dO (ae 3)) (eC (.int 0)))) (uR c k) 1000000 _)=_;rw [e];rfl)]
  unfold EL;show cR _ ((lR ps c (.tuple (js.map .int)) l [] c4).set 2 (.val (.list (l.map (i8 c ps.length)))))=_;simp only [List.set_cons_succ,List.set_cons_zero,cq,bd,aN,aS,ao,au,R.ok_bind,h3]
theorem pW {ps:List P4} (G:Gr ps) {c:Addr}:∀ (k:Nat) (js:List Int),eh ps.length js->gm ps js->(∀ i∈js,(am ps i=0\/am ps i=1)/\0<=aE ps i/\aE ps i < k) ->
    ∃ win mv,aG c (k+1) [gD ps,.tuple (js.map .int)]=.ok (.tuple [oT (lb js win) ps.length,oT mv ps.length])/\tu ps js win mv/\∀ i,i∉js->mv i=none
  | 0,js,hj,hw,hm=>pk G (c:=c) (Pm:=fun i=>(am ps i=0\/am ps i=1)/\0<=aE ps i/\aE ps i < (0:Nat)) (fun i h=>h.1) (fun js' _ _ hne h=>by
      obtain ⟨i,hi⟩:=List.exists_mem_of_ne_nil _ hne;have:=(h i hi).2;omega) hj hw hm
  | k+1,js,hj,hw,hm=>pk G (c:=c) (Pm:=fun i=>(am ps i=0\/am ps i=1)/\0<=aE ps i/\aE ps i < ((k+1:Nat):Int)) (fun i h=>h.1) (fun js' hj' hw' hne h=>yS G hj' hw' hne (fun i hi=>(h i hi).1) fun hh sub sp sw hs ⟨i0,hi0,e0⟩=>pW G k sub sp sw fun i hi=>by
      obtain ⟨a,b⟩:=hs i hi;have h1:=h i a;have h2:=(h i0 hi0).2.2;exact ⟨h1.1,h1.2.1,by omega⟩) hj hw hm
theorem De {ps:List P4} (G:Gr ps) (hw:gm ps (ids ps.length)) {c:Addr} (hm:∀ i∈ids ps.length,(am ps i=0\/am ps i=1)/\0<=aE ps i/\aE ps i < 13) :
    ∃ win mv,kZ c [gD ps]=.ok (.tuple [oT (fun i=>some (win i)) ps.length,oT mv ps.length])/\tu ps (ids ps.length) win mv/\∀ i,i∉ids ps.length->mv i=none:=by
  obtain ⟨win,mv,e,I,q⟩:=pW G (c:=c) 13 (ids ps.length) (eh.ids _) hw hm;refine ⟨win,mv,?_,I,q⟩;have h2:=o9 (ps:=ps) (by have:=G.hp;omega);have e':oT (lb (ids ps.length) win) ps.length=oT (fun i=>some (win i)) ps.length:=congrArg PyData.tuple (cT fun i h0 h1=>by unfold lb;rw [if_pos (bW.mpr ⟨h0,h1⟩)]);rw [e'] at e;unfold kZ zA;refine eE ?_;rw [show ([gD ps].map bh.val++List.replicate (1 - [gD ps].length) bh.non)=[.val (gD ps)] from rfl];simp only [cq,bd,aN,aS,ao,R.ok_bind,h2,e]
theorem oI {d:PyData} (h:noD d):bV [d]=.ok (.bool (Ec d)):=by
  cases d <;> first | rfl | cases h
theorem tS {d:PyData} (h:noD d) (lo hi:Int):cy [d,.int lo,.int hi]=.ok (.bool (sy d lo hi)):=by
  unfold cy iD;rw [fK];cases d with
  | int i =>
    by_cases h1:lo<=i <;> by_cases h2:i<=hi <;> simp [oI h,Ec,h1,h2,sy]
  | dict k=>cases h
  | _=>simp [oI h,Ec,sy]
theorem tx {d:PyData} (hg:ic d) (p:P4):dB [d,p.d]=.ok (.bool (Dl p.ns d)):=by
  unfold dB lX;rw [fK];have hw:=oI hg.noD;cases d with
  | none=>simp [kc,fO,Dl]
  | int i=>simp [kc,fO,Dl,hw,Ec,nV,Dt]
  | dict k=>exact hg.noD.elim
  | _=>simp [kc,fO,Dl,hw,Ec]
theorem n8 (x y:bh):∀ (ds:List PyData) (ps:List P4),(∀ d∈ds,ic d)->bI (df 0 1) (fun _=>.ok true) (aJ dB (ah (ae 0) (ah (ae 1) aI))) [x,y] (gE ds (ps.map P4.d))=.ok ((ds.zip ps).map fun q=>.bool (Dl q.2.ns q.1))
  | [],ps,_=>by unfold gE;simp [cG]
  | d::ds,[],_=>by unfold gE;simp [cG]
  | d::ds,p::ps,h=>by
    have e:gE (d::ds) ((p::ps).map P4.d)=.tuple [d,p.d]::gE ds (ps.map P4.d):=rfl;rw [e,gF,n8 x y ds ps fun z hz=>h z (List.mem_cons_of_mem _ hz)];simp [tx (h d List.mem_cons_self) p]
theorem all_map {α:Type} (p:α->Bool):∀ l:List α,D2.lg (l.map fun a=>.bool (p a))=some (l.all p)
  | []=>rfl
  | a::l=>by simp only [List.map_cons,D2.lg,all_map p l,List.all_cons,Option.map_some]
theorem lE {d:PyData} (hg:ic d) {ps:List P4} (hl:ps.length<=24):cE [d,gD ps]=.ok (.bool (oZ ps d)):=by
  unfold cE jC;rw [fK];cases d with
  | tuple ds =>
    have h:=kI.mp hg;by_cases hq:ds.length=ps.length
    · have hs:(gE ds (ps.map P4.d)).length<=sizeLine:=by rw [jp];exact bG (by omega)
      have hc:=n8 .non .non ds ps h;simp [lf,Dh,sg,hq,bp,hs,aC,List.replicate,hc,mT,all_map,oZ]
    · have hq':¬ ((ds.length:Int)=(ps.length:Int)):=by omega
      simp [lf,Dh,sg,hq',hq,oZ]
  | dict k=>exact hg.noD.elim
  | _=>simp [lf,Dh,oZ]
noncomputable def ja (ps:List P4) (i:Int):PyData:=(ps[i.toNat]?.map P4.d).getD .none
theorem uF (ps:List P4):ps.map P4.d=cm (ja ps) ps.length:=by
  refine List.ext_getElem (by rw [List.length_map,bK]) fun k h1 h2=>?_
  rw [bK] at h2;have e:=gt (f:=ja ps) (n:=ps.length) (i:=(k:Int)) (by omega) (by omega);simp only [Int.toNat_natCast] at e;rw [e,List.getElem_map];unfold ja;rw [List.getElem?_eq_getElem (by omega)];simp
theorem yk {ps:List P4} {i:Int} (h0:0<=i) (h1:i < ps.length):bC (ja ps i) (.int 0)=.ok (.int (am ps i)):=by
  unfold ja;rw [List.getElem?_eq_getElem (show i.toNat < ps.length by omega),gG h0 h1];rfl
theorem rR (f g h:Int->PyData):∀ is:List Int,ge (is.map f) (is.map g) (is.map h)=is.map fun i=>.tuple [f i,g i,h i]
  | []=>rfl
  | i::is=>by rw [List.map_cons,List.map_cons,List.map_cons,List.map_cons,<- rR f g h is];rfl
noncomputable def gM (nx:Int->Int) (s:Int):Nat->Int
  | 0=>s
  | k+1=>nx (gM nx s k)
noncomputable def j8 (nx:Int->Int) (s:Int) (k:Nat):List Int:=(List.range k).map (gM nx s)
theorem dJ (nx:Int->Int) (s:Int) (k:Nat):(j8 nx s k).length=k:=by unfold j8;simp
theorem se (nx:Int->Int) (s:Int) (k:Nat):j8 nx s (k+1)=j8 nx s k++[gM nx s k]:=by
  unfold j8;rw [List.range_succ,List.map_append];rfl
theorem jP {nx:Int->Int} {s:Int} {k j:Nat} (h:j < k):(j8 nx s k)[j]'(by rw [dJ];exact h)=gM nx s j:=by
  unfold j8;simp
theorem jK {nx:Int->Int} {s:Int} {k:Nat} {x:Int}:x∈j8 nx s k<->∃ j,j < k/\gM nx s j=x:=by
  unfold j8;rw [List.mem_map];simp only [List.mem_range]
structure kY (nx:Int->Int) (s:Int) (k e:Nat):Prop where
  lt:e < k
  eq:gM nx s k=gM nx s e
  nd:(j8 nx s k).Nodup
theorem Df {nx:Int->Int} {s:Int} {k:Nat} (nd:(j8 nx s k).Nodup) {a b:Nat} (ha:a < k) (hb:b < k) (e:gM nx s a=gM nx s b):a=b:=by
  have h:=List.pairwise_iff_getElem.mp (show (j8 nx s k).Pairwise (·≠·) from nd);rcases Nat.lt_trichotomy a b with z | z | z
  · exfalso;refine h a b (by rw [dJ];exact ha) (by rw [dJ];exact hb) z ?_;rw [jP ha,jP hb,e]
  · exact z
  · exfalso;refine h b a (by rw [dJ];exact hb) (by rw [dJ];exact ha) z ?_;rw [jP ha,jP hb,e]
theorem vG {nx:Int->Int} {S:Int->Prop} (hn:∀ x,S x->S (nx x)) {s:Int} (hs:S s):∀ k,S (gM nx s k)
  | 0=>hs
  | k+1=>hn _ (vG hn hs k)
theorem qO {n:Nat} {nx:Int->Int} {S:Int->Prop} (hS:∀ x,S x->x∈ids n) (hn:∀ x,S x->S (nx x)) {s:Int} (hs:S s) {k:Nat} (nd:(j8 nx s k).Nodup):k<=n:=by
  have:=jY nd (m:=ids n) fun x hx=>by
    obtain ⟨j,_,rfl⟩:=jK.mp hx;exact hS _ (vG hn hs j)
  rw [dJ,qV] at this;exact this
theorem oP {t:aQ->R Bool} {g:Fs} {V:List Int->Int->aQ} {nx:Int->Int} {S:Int->Prop} {n:Nat} (hS:∀ x,S x->x∈ids n) (hn:∀ x,S x->S (nx x)) (ht:∀ pl x,S x->t (V pl x)=.ok (!dc pl x)) (hg:∀ pl x,S x->pl.length<=n->g (V pl x)=.ok (.nx (V (pl++[x]) (nx x)))) {s:Int} (hs:S s) :
    ∀ (m k:Nat),(j8 nx s k).Nodup->n+2<=m+k->∃ K e,kY nx s K e/\de t g m (V (j8 nx s k) (gM nx s k))=.ok (.nx (V (j8 nx s K) (gM nx s K)))
  | 0,k,nd,h=>by
    have:=qO hS hn hs nd;omega
  | m+1,k,nd,h=>by
    have hx:=vG hn hs k;rw [lr,ht _ _ hx,R.ok_bind];by_cases hm:gM nx s k∈j8 nx s k
    · obtain ⟨e,he,ee⟩:=jK.mp hm;refine ⟨k,e,⟨he,ee.symm,nd⟩,?_⟩;rw [bU.mpr hm];rfl
    · have hb:dc (j8 nx s k) (gM nx s k)=false:=by
        cases z:dc (j8 nx s k) (gM nx s k) with
        | false=>rfl
        | true=>exact (hm (bU.mp z)).elim
      have nd':(j8 nx s (k+1)).Nodup:=by
        rw [se,List.nodup_append];refine ⟨nd,by simp,fun a ha b hb'=>?_⟩;simp at hb';subst hb';rintro rfl;exact hm ha
      obtain ⟨K,e,w,r⟩:=oP hS hn ht hg hs m (k+1) nd' (by omega);refine ⟨K,e,w,?_⟩;rw [hb,if_pos (by rfl),hg _ _ hx (by rw [dJ];exact qO hS hn hs nd),R.ok_bind,dA,<- se];exact r
theorem kY.idx {nx:Int->Int} {s:Int} {k e:Nat} (w:kY nx s k e):(j8 nx s k).idxOf (gM nx s k)=e:=by
  have hm:gM nx s k∈j8 nx s k:=jK.mpr ⟨e,w.lt,w.eq.symm⟩;have h1:=List.idxOf_lt_length_of_mem hm;have h2:=List.getElem_idxOf h1;rw [dJ] at h1;rw [jP h1] at h2;exact Df w.nd h1 w.lt (h2.trans w.eq)
theorem qW {n d e:Nat} (h:e<=n):HT.sIx n d (some (e:Int))=e:=by
  unfold HT.sIx;have h0:¬ ((e:Nat):Int) < 0:=by omega
  simp only [h0,if_false];simp;omega
theorem nK (n d:Nat):HT.sIx n d none=d:=by
  unfold HT.sIx;rfl
theorem yC {ds:List PyData} {e:Nat} (h:e<=ds.length):D2.mU ds none (some (e:Int))=ds.take e:=by
  unfold D2.mU;rw [qW h,nK];simp
theorem xS {ds:List PyData} {e:Nat} (h:e<=ds.length):D2.mU ds (some (e:Int)) none=ds.drop e:=by
  unfold D2.mU;rw [qW h,nK];rw [List.take_of_length_le (by rw [List.length_drop];omega)]
noncomputable def qK (nx:Int->Int) (s:Int) (k e:Nat):List Int:=(j8 nx s k).take e
noncomputable def dI (nx:Int->Int) (s:Int) (k e:Nat):List Int:=(j8 nx s k).drop e
noncomputable abbrev FM (nx:Int->Int) (s:Int) (k e:Nat):PyData:=.tuple [.tuple ((qK nx s k e).map .int),.tuple ((dI nx s k e).map .int)]
theorem eB (nx:Int->Int) (s:Int) (k e:Nat):(dI nx s k e).length=k-e:=by unfold dI;rw [List.length_drop,dJ]
theorem iu {nx:Int->Int} {s:Int} {k e j:Nat} (h:e+j < k):(dI nx s k e)[j]'(by rw [eB];omega)=gM nx s (e+j):=by
  unfold dI;rw [List.getElem_drop,jP h]
theorem pZ {nx:Int->Int} {s:Int} {k e:Nat} {x:Int} (h:x∈dI nx s k e):∃ j,e<=j/\j < k/\gM nx s j=x:=by
  obtain ⟨j,hj,ej⟩:=List.mem_iff_getElem.mp h;rw [eB] at hj;rw [iu (by omega)] at ej;exact ⟨e+j,by omega,by omega,ej⟩
noncomputable def Cg (ps:List P4) (rs:List Int):Prop:=∀ j (h:j < rs.length),rs[(j+1)%rs.length]'(Nat.mod_lt _ (by omega))∈ay ps (rs[j])
theorem kY.ring {ps:List P4} {nx:Int->Int} {s:Int} {k e:Nat} (w:kY nx s k e) (hg:∀ j,nx (gM nx s j)∈ay ps (gM nx s j)):Cg ps (dI nx s k e):=fun j h=>by
  have hl:=w.lt;rw [eB] at h;rw [iu (show e+j < k by omega)];have hn:(dI nx s k e)[(j+1)%(dI nx s k e).length]'(Nat.mod_lt _ (by rw [eB];omega))=gM nx s (e+j+1):=by
    by_cases hj:j+1 < k-e
    · have:(j+1)%(dI nx s k e).length=j+1:=by rw [eB];exact Nat.mod_eq_of_lt hj
      simp only [this];rw [iu (by omega)];rfl
    · have:(j+1)%(dI nx s k e).length=0:=by
        rw [eB,show j+1=k-e by omega];exact Nat.mod_self _
      simp only [this];rw [iu (by omega),show e+j+1=k by omega,w.eq];rfl
  rw [hn];exact hg (e+j)
theorem pJ {d:PyData} (h:noD d) (ps:List P4):aB [d,gD ps]=.ok (.bool (sy d 0 ((ps.length:Int)-1))):=by
  unfold aB dU;refine eE ?_;rw [show ([d,gD ps].map bh.val++List.replicate (2 - [d,gD ps].length) bh.non)=[.val d,.val (gD ps)] from rfl];simp only [cq,bd,aN,aS,bY,br,ao,au,bE,R.ok_bind,kz,List.length_map,uB,tS h]
noncomputable def eN (ps:List P4) (z o:Int->Option Int) (i:Int):Option Int:=if am ps i=0 then z i else o i
theorem B4 {ps:List P4} (hp:ps.length<=24) (ho:∀ i∈ids ps.length,am ps i=0\/am ps i=1) (z o:Int->Option Int):bz [gD ps,oT z ps.length,oT o ps.length]=.ok (oT (eN ps z o) ps.length):=by
  have hc:=oU (fe:=e2 bC (e2 bC (ae 2) (e2 bC (ae 1) (eC (.int 0)))) (ae 0)) (ρ:=[.val (.tuple [oT z ps.length,oT o ps.length])]) (g:=ja ps) (h:=fun i=>oD (eN ps z o i)) ps.length 0 fun j _ h2=>by
    have j0:(0:Int)<=(j:Int):=by omega
    have j1:(j:Int) < ps.length:=by omega
    simp only [br,au,ao,bE,R.ok_bind,yk j0 j1];rcases ho j (bW.mpr ⟨j0,j1⟩) with w | w
    · rw [w,show bC (.tuple [oT z ps.length,oT o ps.length]) (.int 0)=.ok (oT z ps.length) from rfl,R.ok_bind,mI j0 j1];unfold eN;rw [if_pos w]
    · rw [w,show bC (.tuple [oT z ps.length,oT o ps.length]) (.int 1)=.ok (oT o ps.length) from rfl,R.ok_bind,mI j0 j1];unfold eN;rw [if_neg (by omega)]
  rw [jN] at hc;unfold bz fy;refine eE ?_;rw [show ([gD ps,oT z ps.length,oT o ps.length].map bh.val++List.replicate (4 - [gD ps,oT z ps.length,oT o ps.length].length) bh.non)=[.val (gD ps),.val (oT z ps.length),.val (oT o ps.length),.non] from rfl];rw [aL (ρ':=[.val (gD ps),.val (oT z ps.length),.val (oT o ps.length),.val (.tuple [oT z ps.length,oT o ps.length])]) (by
    rw [bu,nC];simp only [aN,aS,au,ao,R.ok_bind];rw [if_pos (by show 2<=_;decide)];rfl)]
  rw [cq,bY,bp,show aC 2 [3] [.val (gD ps),.val (oT z ps.length),.val (oT o ps.length),.val (.tuple [oT z ps.length,oT o ps.length])]=[.non,.non,.val (.tuple [oT z ps.length,oT o ps.length])] from rfl];simp only [jo,ao,R.ok_bind,cQ,cj];rw [if_pos (by rw [fL,List.length_map];exact bG (by omega)),uF];rw [show cP 0 (cm (ja ps) ps.length)=cP 0 ((ids ps.length).map (ja ps)) from rfl,hc];rfl
theorem zZ (f:Int->Option Int) (n:Nat):ni false .none (oT f n)=.ok (.bool ((ids n).any fun i=>(f i).isNone)):=by
  have hf:=re f n;have hi:mW (cm (fun i=>oD (f i)) n) .none=true:=by
    unfold mW;rw [lw fun x hx=>(hf x hx).1,hf.dep];simp [PyData.canLay0]
  show (if mW (cm (fun i=>oD (f i)) n) .none=true then R.ok (PyData.bool ((cm (fun i=>oD (f i)) n).any fun y=>PyData.eqv y .none)) else .no)=_;rw [if_pos hi];unfold cm;rw [List.any_map];congr 3;funext i;show PyData.eqv (oD (f i)) .none=_;cases f i <;> simp [oD,PyData.eqv]
theorem mD:∀ {ns:List Int},(∀ x∈ns,0<=x/\x < 1000)->PyData.weightAll (ns.map .int)<=12*ns.length
  | [],_=>by simp [PyData.weightAll]
  | n::ns,h=>by
    have ih:=mD fun x hx=>h x (List.mem_cons_of_mem _ hx)
    have hn:=h n List.mem_cons_self;have h1:PyData.weight (.int n)<=11:=by
      simp only [PyData.weight];split
      · omega
      · rename_i hz;have h2:n.natAbs≠0:=by
          intro z;apply hz;have:n=0:=by omega
          rw [this];rfl
        have:=(Nat.log2_lt h2 (k:=10)).mpr (by omega);omega
    simp only [List.map_cons,PyData.weightAll,List.length_cons];omega
theorem yT {ns:List Int} (h:ns.length<=1000) (hb:∀ x∈ns,0<=x/\x < 1000):PyData.layable0 (.list (ns.map .int))=true:=by
  have hw:=mD hb;have e1:(PyData.list (ns.map .int)).canLay0=true:=by simp only [PyData.canLay0];exact oq ns
  have e2:(PyData.list (ns.map .int)).depth<=64:=by simp only [PyData.depth,je];omega
  have e3:(PyData.list (ns.map .int)).weight<=2 ^ 20:=by simp only [PyData.weight];omega
  unfold PyData.layable0;rw [e1,decide_eq_true e2,decide_eq_true e3];rfl
theorem uo {ns:List Int} {k:Int} (h:ns.length<=1000) (hb:∀ x∈ns,0<=x/\x < 1000) (hk:k∈ns):jm (.list (ns.map .int)) (.int k)=.ok (.int (ns.idxOf k:Nat)):=by
  show (match cr (ns.map .int) with | some ns'=>if PyData.layable0 (.list (ns.map .int))=true/\k∈ns' then R.ok (PyData.int (ns'.idxOf k:Nat)) else .no | none=>.no)=_;rw [gY];exact if_pos ⟨yT h hb,hk⟩
theorem yu {n:Nat} {s:Int} (hs:s∈ids n):sy (.int s) 0 ((n:Int)-1)=true:=by
  obtain ⟨h0,h1⟩:=bW.mp hs;show (decide _&&decide _)=true;rw [decide_eq_true h0,decide_eq_true (by omega)];rfl
noncomputable def gL (ps:List P4) (z o:Int->Option Int) (i:Int):Int:=(eN ps z o i).getD 0
noncomputable def rB:Fs:=(aY (cO 5 (ae 6)) (bT 6 (e2 bC (ae 4) (ae 6))))
noncomputable abbrev rV (ps:List P4) (z o:Int->Option Int) (s:Int) (pl:List Int) (x:Int):aQ:=[.val (gD ps),.val (oT z ps.length),.val (oT o ps.length),.val (.int s),.val (oT (eN ps z o) ps.length),.own (.list (pl.map .int)),.val (.int x),.non]
section
variable {ps:List P4} (G:Gr ps) (hw:∀ i∈ids ps.length,am ps i=0\/am ps i=1) {z o:Int->Option Int} (hz:∀ i g,z i=some g->g∈ay ps i) (ho:∀ i g,o i=some g->g∈ay ps i) (hall:∀ i∈ids ps.length,∃ g,eN ps z o i=some g)
include hz ho in
theorem tf {i g:Int} (h:eN ps z o i=some g):g∈ay ps i:=by
  unfold eN at h;split at h
  · exact hz i g h
  · exact ho i g h
include hz ho hall in
theorem oX {i:Int} (hi:i∈ids ps.length):gL ps z o i∈ay ps i:=by
  obtain ⟨g,hg⟩:=hall i hi;unfold gL;rw [hg];exact tf hz ho hg
include G hz ho hall in
theorem qt {i:Int} (hi:i∈ids ps.length):gL ps z o i∈ids ps.length:=bW.mpr (G.goals (oX hz ho hall hi))
include hall in
theorem AA {i:Int} (hi:i∈ids ps.length):bC (oT (eN ps z o) ps.length) (.int i)=.ok (.int (gL ps z o i)):=by
  obtain ⟨h0,h1⟩:=bW.mp hi;obtain ⟨g,hg⟩:=hall i hi;rw [mI h0 h1];unfold gL;rw [hg];rfl
include G hz ho hall in
theorem Ee {s:Int} (hs:s∈ids ps.length):∃ K e,kY (gL ps z o) s K e/\de (tE (e2 (ni true) (ae 6) (dt 5))) rB 1000000 (rV ps z o s [] s)=.ok (.nx (rV ps z o s (j8 (gL ps z o) s K) (gM (gL ps z o) s K))):=by
  have hp:=G.hp;refine oP (V:=rV ps z o s) (S:=fun x=>x∈ids ps.length) (n:=ps.length) (fun _ h=>h) (fun x h=>qt G hz ho hall h) (fun pl x _=>?_) (fun pl x hx hl=>?_) hs 1000000 0 (by unfold j8;simp) (by omega)
  · simp only [cB,br,au,ao,gW,gT,R.ok_bind,DO,cZ];rfl
  · unfold rB;rw [aL (ρ':=rV ps z o s (pl++[x]) x) (by
      rw [jQ (ds:=pl.map .int) (ae 6) rfl (Nat.lt_of_lt_of_le (show _ < 1001 by rw [List.length_map];omega) (by decide))];simp only [ao,au,cj,R.ok_bind];rw [show pl.map PyData.int++[PyData.int x]=(pl++[x]).map .int by simp];rfl)]
    simp only [bu,br,ao,au,R.ok_bind,AA hall hx];rfl
include G hw hz ho hall in
theorem tw {s:Int} (hs:s∈ids ps.length):∃ K e,kY (gL ps z o) s K e/\dD [gD ps,oT z ps.length,oT o ps.length,.int s]=.ok (FM (gL ps z o) s K e):=by
  have hp:=G.hp;obtain ⟨K,e,w,hl⟩:=Ee G hz ho hall hs;refine ⟨K,e,w,?_⟩;have hK:=qO (S:=fun x=>x∈ids ps.length) (fun _ h=>h) (fun x h=>qt G hz ho hall h) hs w.nd;have m1:=lE (vx z ps.length) (ps:=ps) hp;have m2:=lE (vx o ps.length) (ps:=ps) hp;rw [pP hz] at m1;rw [pP ho] at m2;have m3:=B4 hp hw z o;have m4:=zZ (eN ps z o) ps.length;have m5:((ids ps.length).any fun i=>(eN ps z o i).isNone)=false:=by
    rw [List.any_eq_false];intro i hi;obtain ⟨g,hg⟩:=hall i hi;rw [hg];simp
  rw [m5] at m4;have m6:=pJ (d:=.int s) True.intro ps;rw [yu hs] at m6;have hm:gM (gL ps z o) s K∈j8 (gL ps z o) s K:=jK.mpr ⟨e,w.lt,w.eq.symm⟩;have m7:=uo (by rw [dJ];omega) (fun x hx=>by
    obtain ⟨j,_,rfl⟩:=jK.mp hx;have:=bW.mp (vG (nx:=gL ps z o) (S:=fun x=>x∈ids ps.length) (fun x h=>qt G hz ho hall h) hs j);omega) hm
  rw [w.idx] at m7;have he:=w.lt;unfold dD lH;refine eE ?_;rw [show ([gD ps,oT z ps.length,oT o ps.length,.int s].map bh.val++List.replicate (8 - [gD ps,oT z ps.length,oT o ps.length,.int s].length) bh.non)=[.val (gD ps),.val (oT z ps.length),.val (oT o ps.length),.val (.int s),.non,.non,.non,.non] from rfl];rw [aL (ρ':=[.val (gD ps),.val (oT z ps.length),.val (oT o ps.length),.val (.int s),.non,.non,.non,.non]) (by
    simp only [dG,jZ,fS,cB,bd,aN,aS,ao,au,R.ok_bind,m1,m2,cZ];rfl)]
  rw [aL (ρ':=[.val (gD ps),.val (oT z ps.length),.val (oT o ps.length),.val (.int s),.val (oT (eN ps z o) ps.length),.non,.non,.non]) (by
    simp only [bu,bd,aN,aS,ao,au,R.ok_bind,m3];rfl)]
  rw [aL (ρ':=[.val (gD ps),.val (oT z ps.length),.val (oT o ps.length),.val (.int s),.val (oT (eN ps z o) ps.length),.non,.non,.non]) (by
    simp only [dG,cB,br,bE,ao,au,R.ok_bind,m4,cZ];rfl)]
  rw [aL (ρ':=[.val (gD ps),.val (oT z ps.length),.val (oT o ps.length),.val (.int s),.val (oT (eN ps z o) ps.length),.non,.non,.non]) (by
    simp only [dG,fS,cB,bd,aN,aS,ao,au,R.ok_bind,m6,cZ];rfl)]
  rw [aL (ρ':=[.val (gD ps),.val (oT z ps.length),.val (oT o ps.length),.val (.int s),.val (oT (eN ps z o) ps.length),.own (.list []),.non,.non]) (by rfl)];rw [aL (ρ':=rV ps z o s [] s) (by rfl)];rw [aL (ρ':=rV ps z o s (j8 (gL ps z o) s K) (gM (gL ps z o) s K)) (by
    rw [eO];show mw (de (tE (e2 (ni true) (ae 6) (dt 5))) rB 1000000 _)=_;rw [hl];rfl)]
  rw [aL (ρ':=[.val (gD ps),.val (oT z ps.length),.val (oT o ps.length),.val (.int s),.val (oT (eN ps z o) ps.length),.own (.list ((j8 (gL ps z o) s K).map .int)),.val (.int (gM (gL ps z o) s K)),.val (.int (e:Nat))]) (by
    rw [bu];unfold uP;simp only [gW,gT,au,ao,R.ok_bind,Cn,m7];rfl)]
  simp only [cq,nC,aN,aS,bY,yD,gW,gT,sP,rm,au,ao,R.ok_bind,BE,Ek,jB];rw [yC (by rw [List.length_map,dJ];omega),xS (by rw [List.length_map,dJ];omega),if_pos (by show 2<=_;decide),R.ok_bind];unfold FM qK dI;rw [List.map_take,List.map_drop]
end
theorem sQ {fe:Fe} {ρ:aQ} {p:Int->Int->Bool}:∀ (rs ss:List Int),(∀ q∈rs.zip ss,fe (.val (.int q.1)::.val (.int q.2)::ρ)=.ok (.bool (p q.1 q.2)))->bI (df 0 1) (fun _=>.ok true) fe (.non::.non::ρ) (gE (rs.map .int) (ss.map .int))=.ok ((rs.zip ss).map fun q=>.bool (p q.1 q.2))
  | [],ss,_=>by unfold gE;simp [cG]
  | r::rs,[],_=>by unfold gE;simp [cG]
  | r::rs,s::ss,h=>by
    have e:gE ((r::rs).map .int) ((s::ss).map .int)=.tuple [.int r,.int s]::gE (rs.map .int) (ss.map .int):=rfl;have h1:=h (r,s) (by simp);rw [e,gF,sQ rs ss fun q hq=>h q (by rw [List.zip_cons_cons];exact List.mem_cons_of_mem _ hq)];simp only [List.set_cons_zero,List.set_cons_succ,R.ok_bind,if_true,h1];rfl
noncomputable def Ch (ps:List P4) (rs:List Int):Bool:=(rs.zip (rs.drop 1++rs.take 1)).all fun q=>dc (ay ps q.1) q.2
theorem yt {ps:List P4} {rs:List Int}:Ch ps rs=true<->Cg ps rs:=by
  have hl:(rs.drop 1++rs.take 1).length=rs.length:=by
    rw [List.length_append,List.length_drop,List.length_take];omega
  have hg:∀ j (h:j < rs.length),(rs.drop 1++rs.take 1)[j]'(by rw [hl];exact h)=rs[(j+1)%rs.length]'(Nat.mod_lt _ (by omega)):=fun j h=>by
    by_cases hj:j+1 < rs.length
    · rw [List.getElem_append_left (by rw [List.length_drop];omega),List.getElem_drop];simp only [Nat.mod_eq_of_lt hj,Nat.add_comm]
    · rw [List.getElem_append_right (by rw [List.length_drop];omega),List.getElem_take];have e1:j-(rs.drop 1).length=0:=by rw [List.length_drop];omega
      have e2:(j+1)%rs.length=0:=by rw [show j+1=rs.length by omega];exact Nat.mod_self _
      simp only [e1,e2]
  unfold Ch;rw [List.all_eq_true];constructor
  · intro h j hj;have:=h (rs[j],(rs.drop 1++rs.take 1)[j]'(by rw [hl];exact hj)) (List.mem_iff_getElem.mpr ⟨j,by rw [List.length_zip,hl];omega,by rw [List.getElem_zip]⟩);rw [bU] at this;dsimp only at this;rw [hg j hj] at this;exact this
  · intro h q hq;obtain ⟨j,hj,e⟩:=List.mem_iff_getElem.mp hq;rw [List.length_zip,hl,Nat.min_self] at hj;rw [List.getElem_zip] at e;subst e;rw [bU];dsimp only;rw [hg j hj];exact h j hj
noncomputable def zY (n:Nat):PyData->Bool
  | .tuple ds=>ds.isEmpty||!(ds.all fun d=>sy d 0 ((n:Int)-1))
  | _=>true
theorem p9 {ps:List P4} {ds:List PyData} (h:∀ d∈ds,noD d):bI (aX 0) (fun _=>.ok true) (aJ aB (ah (ae 0) (ah (ae 1) aI))) [.non,.val (gD ps)] ds=.ok (ds.map fun d=>.bool (sy d 0 ((ps.length:Int)-1))) :=
  e8 _ _ 0 (fun d=>.bool (sy d 0 ((ps.length:Int)-1))) ds fun d hd=>by
    simp only [List.set_cons_zero,bd,aN,aS,ao,au,R.ok_bind,pJ (h d hd)]
theorem Ew {ps:List P4} {d:PyData} (hg:ic d) (hl:∀ ds,d=.tuple ds->ds.length<=1000) (hb:zY ps.length d=true):di [d,gD ps]=.ok (.bool false):=by
  unfold di jX;refine eE ?_;rw [show ([d,gD ps].map bh.val++List.replicate (3 - [d,gD ps].length) bh.non)=[.val d,.val (gD ps),.non] from rfl];cases d with
  | tuple ds =>
    have h0:=kI.mp hg;cases ds with
    | nil=>rfl
    | cons d0 ds =>
      rw [aL (ρ':=[.val (.tuple (d0::ds)),.val (gD ps),.non]) (by
        have:¬ (((d0::ds).length:Nat):Int)=0:=by rw [List.length_cons];omega
        simp only [dG,jZ,fS,cB,bY,br,bE,ao,R.ok_bind,show lf .tuple (.tuple (d0::ds))=.ok (.bool true) from rfl,cZ,kz,fW,decide_eq_false this];rfl)]
      refine tX ?_;have hc:=p9 (ps:=ps) (ds:=d0::ds) fun x hx=>(h0 x hx).noD
      have ha:((d0::ds).all fun d=>sy d 0 ((ps.length:Int)-1))=false:=by
        have:(false||!((d0::ds).all fun d=>sy d 0 ((ps.length:Int)-1)))=true:=hb;rw [Bool.false_or,Bool.not_eq_true'] at this;exact this
      have hd:mT (.list ((d0::ds).map fun d=>.bool (sy d 0 ((ps.length:Int)-1))))=.ok (.bool false):=by
        show (match D2.lg ((d0::ds).map fun d=>PyData.bool (sy d 0 ((ps.length:Int)-1))) with | some k=>R.ok (PyData.bool k) | none=>.no)=_;rw [nB (fun d=>sy d 0 ((ps.length:Int)-1)),ha]
      rw [dG,fS,cB,bY,bp,show aC 1 [1] [.val (.tuple (d0::ds)),.val (gD ps),.non]=[.non,.val (gD ps)] from rfl];simp only [bZ,ao,R.ok_bind,cQ,cj];rw [if_pos (bG (hl _ rfl)),hc,hR,R.ok_bind,hd];rfl
  | dict k=>exact hg.noD.elim
  | _=>rfl
theorem xb {ps:List P4} {rs:List Int} (hl:rs.length<=1000) (hne:rs≠[]) (hb:∀ x∈rs,x∈ids ps.length):di [.tuple (rs.map .int),gD ps]=.ok (.bool (Ch ps rs)):=by
  unfold di jX;refine eE ?_;rw [show ([.tuple (rs.map .int),gD ps].map bh.val++List.replicate (3 - [.tuple (rs.map .int),gD ps].length) bh.non)=[.val (.tuple (rs.map .int)),.val (gD ps),.non] from rfl];have hpos:0 < rs.length:=List.length_pos_iff.mpr hne;rw [aL (ρ':=[.val (.tuple (rs.map .int)),.val (gD ps),.non]) (by
    have:¬ ((rs.length:Nat):Int)=0:=by omega
    simp only [dG,jZ,fS,cB,bY,br,bE,ao,R.ok_bind,show lf .tuple (.tuple (rs.map .int))=.ok (.bool true) from rfl,cZ,kz,List.length_map,fW,decide_eq_false this];rfl)]
  have hc:=p9 (ps:=ps) (ds:=rs.map .int) fun x hx=>by
    obtain ⟨i,_,rfl⟩:=List.mem_map.mp hx;exact True.intro
  have ha:((rs.map PyData.int).all fun d=>sy d 0 ((ps.length:Int)-1))=true:=by
    rw [List.all_eq_true];intro x hx;obtain ⟨i,hi,rfl⟩:=List.mem_map.mp hx;exact yu (hb i hi)
  have hd:mT (.list ((rs.map PyData.int).map fun d=>.bool (sy d 0 ((ps.length:Int)-1))))=.ok (.bool true):=by
    show (match D2.lg ((rs.map PyData.int).map fun d=>PyData.bool (sy d 0 ((ps.length:Int)-1))) with | some k=>R.ok (PyData.bool k) | none=>.no)=_;rw [nB (fun d=>sy d 0 ((ps.length:Int)-1)),ha]
  rw [aL (ρ':=[.val (.tuple (rs.map .int)),.val (gD ps),.non]) (by
    rw [dG,fS,cB,bY,bp,show aC 1 [1] [.val (.tuple (rs.map .int)),.val (gD ps),.non]=[.non,.val (gD ps)] from rfl];simp only [bZ,ao,R.ok_bind,cQ,cj];rw [if_pos (by rw [List.length_map];exact bG hl),hc,hR,R.ok_bind,hd];rfl)]
  rw [aL (ρ':=[.val (.tuple (rs.map .int)),.val (gD ps),.val (.tuple ((rs.drop 1++rs.take 1).map .int))]) (by
    simp only [bu,br,yD,sP,rm,bE,ao,R.ok_bind,BE,Ex];rw [show (some (1:Int))=some ((1:Nat):Int) from rfl,yC (by rw [List.length_map];omega),xS (by rw [List.length_map];omega),zh];rw [if_pos (by rw [List.length_drop,List.length_take,List.length_map];exact bG (by omega)),<- List.map_drop,<- List.map_take,<- List.map_append];rfl)]
  have hz:=sQ (fe:=e2 (ni false) (ae 1) (e2 bC (e2 bC (ae 2) (ae 0)) (eC (.int 3)))) (ρ:=[.val (gD ps)]) (p:=fun a b=>dc (ay ps a) b) rs (rs.drop 1++rs.take 1) fun q hq=>by
    obtain ⟨h0,h1⟩:=bW.mp (hb q.1 (List.of_mem_zip hq).1);simp only [br,au,ao,bE,R.ok_bind,lB h0 h1,nV,CB];rw [<- dS h0 h1];rfl
  rw [cq,bY,bp,show aC 2 [1] [.val (.tuple (rs.map .int)),.val (gD ps),.val (.tuple ((rs.drop 1++rs.take 1).map .int))]=[.non,.non,.val (gD ps)] from rfl];simp only [uX,ao,au,R.ok_bind,cQ,cj];rw [if_pos (by rw [jp,List.length_map];exact bG (by omega)),hz,hR,R.ok_bind];show ((match D2.lg ((rs.zip (rs.drop 1++rs.take 1)).map fun q=>PyData.bool (dc (ay ps q.1) q.2)) with | some k=>R.ok (PyData.bool k) | none=>.no)>>=fun d=>R.ok (xm.rt d))=_;rw [all_map (fun q:Int×Int=>dc (ay ps q.1) q.2)];rfl
theorem wV {ps:List P4} {rs:List Int} (hl:rs.length<=1000) (hne:rs≠[]) (hb:∀ x∈rs,x∈ids ps.length) (hr:Cg ps rs):∃ h,eK [gD ps,.tuple (rs.map .int)]=.ok (.int (h%2))/\pL (.list ((rs.map (aE ps)).map .int))=.ok (.int h)/\(∃ i∈rs,aE ps i=h)/\∀ i∈rs,aE ps i<=h:=by
  obtain ⟨h,h1,h2,h3⟩:=pD (ps:=ps) hne;refine ⟨h,?_,h1,h2,h3⟩;have hring:=xb hl hne hb;rw [yt.mpr hr] at hring;unfold eK nZ;refine eE ?_;rw [show ([gD ps,.tuple (rs.map .int)].map bh.val++List.replicate (2 - [gD ps,.tuple (rs.map .int)].length) bh.non)=[.val (gD ps),.val (.tuple (rs.map .int))] from rfl];rw [aL (ρ':=[.val (gD ps),.val (.tuple (rs.map .int))]) (by
    simp only [dG,fS,cB,bd,aN,aS,ao,au,R.ok_bind,hring,cZ];rfl)]
  have hc:bI (aX 0) (fun _=>.ok true) (e2 bC (e2 bC (ae 1) (ae 0)) (eC (.int 1))) [.non,.val (gD ps)] (rs.map .int)=.ok ((rs.map (aE ps)).map .int):=by
    have:=e8 (e2 bC (e2 bC (ae 1) (ae 0)) (eC (.int 1))) [.non,.val (gD ps)] 0 (fun d=>match d with | .int i=>.int (aE ps i) | d=>d) (rs.map .int) fun d hd=>by
      obtain ⟨i,hi,rfl⟩:=List.mem_map.mp hd;obtain ⟨i0,i1⟩:=bW.mp (hb i hi);simp only [List.set_cons_zero,br,ao,au,bE,R.ok_bind,lB i0 i1,uk];rw [jS i0 i1]
    rw [this,List.map_map,List.map_map];rfl
  rw [cq,br,bY,bp,show aC 1 [0] [.val (gD ps),.val (.tuple (rs.map .int))]=[.non,.val (gD ps)] from rfl];simp only [bZ,ao,au,R.ok_bind,cQ,cj];rw [if_pos (by rw [List.length_map];exact bG hl),hc,hR,R.ok_bind,h1,R.ok_bind,bE,R.ok_bind,qp,if_pos (by decide)];rfl
theorem yX (k m:Nat):j9 k (m+1)=j9 k m++[((k+m:Nat):Int)]:=by
  unfold j9;rw [List.range_succ,List.map_append];rfl
noncomputable def tM (ps:List P4) (who:Int) (dr:Int->Int) (share:Int) (i:Int):Option Int:=if am ps i≠who\/(0 < share/\dr i%share=0) then none else (ay ps i)[(dr i / 7%((ay ps i).length:Int)).toNat]?
noncomputable def EK:Fs:=(aY (bT 7 (aJ aA (ah (ae 2) (ah (ae 5) aI)))) (lK (oa (tE (e2 (xp) (e2 bC (ae 6) (eC (.int 0))) (ae 1))) (oM (tE (e2 (gr qf) (ae 3) (eC (.int 0)))) (tE (e2 (jb) (e2 fY (ae 7) (ae 3)) (eC (.int 0)))))) (cO 4 (eC .none)) (cO 4 (e2 bC (e2 bC (ae 6) (eC (.int 3))) (e2 fY (e2 md (ae 7) (eC (.int 7))) (e1 dO (e2 bC (ae 6) (eC (.int 3)))))))))
theorem Em {ps:List P4} {i:Int} (h0:0<=i) (h1:i < ps.length):bC (ja ps i) (.int 3)=.ok (.tuple ((ay ps i).map .int)):=by
  unfold ja;rw [List.getElem?_eq_getElem (show i.toNat < ps.length by omega),dS h0 h1];rfl
noncomputable abbrev w5 (ps:List P4) (who num share:Int) (acc:List PyData) (c5 c6 c7:bh):aQ:=[.val (gD ps),.val (.int who),.val (.int num),.val (.int share),.own (.list acc),c5,c6,c7]
section
variable {ps:List P4} (hne:∀ i∈ids ps.length,ay ps i≠[]) {who num share:Int} {dr:Int->Int} (hdr:∀ k,aA [.int num,.int k]=.ok (.int (dr k)))
include hne hdr
theorem CW {acc:List PyData} (ha:acc.length<=1000) {i:Int} (h0:0<=i) (h1:i < ps.length) (c7:bh) :
    EK (w5 ps who num share acc (.val (.int i)) (.val (ja ps i)) c7)=.ok (.nx (w5 ps who num share (acc++[oD (tM ps who dr share i)]) (.val (.int i)) (.val (ja ps i)) (.val (.int (dr i))))):=by
  have hg:=hne i (bW.mpr ⟨h0,h1⟩);have hpos:0 < ((ay ps i).length:Int):=by
    have:=List.length_pos_iff.mpr hg;omega
  have a0:=Int.emod_nonneg (dr i / 7) (show ((ay ps i).length:Int)≠0 by omega);have a1:=Int.emod_lt_of_pos (dr i / 7) hpos;have hz:acc.length < sizeLine:=Nat.lt_of_lt_of_le (show acc.length < 1001 by omega) (by decide);unfold EK;rw [aL (ρ':=w5 ps who num share acc (.val (.int i)) (.val (ja ps i)) (.val (.int (dr i)))) (by
    simp only [bu,bd,aN,aS,au,ao,R.ok_bind,hdr];rfl)]
  have ap:∀ f d,f (w5 ps who num share acc (.val (.int i)) (.val (ja ps i)) (.val (.int (dr i))))=.ok d->cO 4 f (w5 ps who num share acc (.val (.int i)) (.val (ja ps i)) (.val (.int (dr i))))=.ok (.nx (w5 ps who num share (acc++[d]) (.val (.int i)) (.val (ja ps i)) (.val (.int (dr i))))):=fun f d e=>by
    rw [jQ (ds:=acc) f rfl hz,e];rfl
  have hix:=vy (xs:=(ay ps i).map PyData.int) (i:=dr i / 7%((ay ps i).length:Int)) a0 (by simpa using a1);have hv:(e2 bC (e2 bC (ae 6) (eC (.int 3))) (e2 fY (e2 md (ae 7) (eC (.int 7))) (e1 dO (e2 bC (ae 6) (eC (.int 3)))))) (w5 ps who num share acc (.val (.int i)) (.val (ja ps i)) (.val (.int (dr i))))=.ok (.int ((ay ps i)[(dr i / 7%((ay ps i).length:Int)).toNat]'(by omega))):=by
    simp only [bY,br,au,ao,bE,R.ok_bind,Em h0 h1,kz,List.length_map,CI];rw [if_pos (by decide),R.ok_bind,qp,if_pos hpos,R.ok_bind,hix];simp
  unfold tM;rw [dG];simp only [jZ,sA,cB,br,au,ao,bE,R.ok_bind,yk h0 h1,sg,cZ,nY];by_cases ho:am ps i=who
  · rw [decide_eq_true ho];by_cases hs:0 < share
    · simp only [Bool.not_true,if_false,Bool.false_eq_true];rw [show qf share 0=true from decide_eq_true hs,if_pos rfl,qp,if_pos hs,R.ok_bind,fW,R.ok_bind,cZ,R.ok_bind];by_cases hd:dr i%share=0
      · rw [decide_eq_true hd,if_pos rfl,if_pos (.inr ⟨hs,hd⟩)];exact ap _ _ rfl
      · rw [decide_eq_false hd,if_neg (by simp),if_neg (by rintro (z | z);exact z ho;exact hd z.2),List.getElem?_eq_getElem (by omega)];exact ap _ _ hv
    · simp only [Bool.not_true,if_false,Bool.false_eq_true];rw [show qf share 0=false from decide_eq_false hs,if_neg (by simp),R.ok_bind,if_neg (by simp),if_neg (by rintro (z | z);exact z ho;exact hs z.1),List.getElem?_eq_getElem (by omega)];exact ap _ _ hv
  · rw [decide_eq_false ho,if_pos (show am ps i≠who\/(0 < share/\dr i%share=0) from .inl ho)];simp only [Bool.not_false,if_true,R.ok_bind];exact ap _ _ rfl
theorem vj (hp:ps.length<=24):∀ (m k:Nat) (c5 c6 c7:bh),k+m=ps.length ->
    ∃ c5' c6' c7',fg (df 5 6) EK (cP k ((j9 k m).map (ja ps))) (w5 ps who num share ((j9 0 k).map fun i=>oD (tM ps who dr share i)) c5 c6 c7)=.ok (.nx (w5 ps who num share ((j9 0 (k+m)).map fun i=>oD (tM ps who dr share i)) c5' c6' c7'))
  | 0,k,c5,c6,c7,_=>⟨c5,c6,c7,by rw [show j9 k 0=[] from rfl];simp [cP]⟩
  | m+1,k,c5,c6,c7,hk=>by
    have e:=CW hne hdr (who:=who) (share:=share) (acc:=(j9 0 k).map fun i=>oD (tM ps who dr share i)) (by rw [List.length_map];unfold j9;rw [List.length_map,List.length_range];omega) (i:=(k:Int)) (by omega) (by omega) c7;obtain ⟨c5',c6',c7',e'⟩:=vj hp m (k+1) (.val (.int k)) (.val (ja ps k)) (.val (.int (dr k))) (by omega);refine ⟨c5',c6',c7',?_⟩;rw [nT,List.map_cons];rw [show cP k (ja ps k::(j9 (k+1) m).map (ja ps))=.tuple [.int k,ja ps k]::cP (k+1) ((j9 (k+1) m).map (ja ps)) from rfl,wj];rw [show ((w5 ps who num share ((j9 0 k).map fun i=>oD (tM ps who dr share i)) c5 c6 c7).set 5 (.val (.int k))).set 6 (.val (ja ps k))=w5 ps who num share ((j9 0 k).map fun i=>oD (tM ps who dr share i)) (.val (.int k)) (.val (ja ps k)) c7 from rfl];rw [e,R.ok_bind,dA];rw [show ((j9 0 k).map fun i=>oD (tM ps who dr share i))++[oD (tM ps who dr share k)]=(j9 0 (k+1)).map fun i=>oD (tM ps who dr share i) by
      rw [yX,List.map_append];simp]
    rw [e',show k+1+m=k+(m+1) by omega]
end
theorem pH {ps:List P4} (hp:ps.length<=24) (hne:∀ i∈ids ps.length,ay ps i≠[]) (who num share:Int):∃ f:Int->Option Int,ci [gD ps,.int who,.int num,.int share]=.ok (oT f ps.length)/\(∀ i g,f i=some g->g∈ay ps i)/\(∀ i,am ps i≠who->f i=none)/\(share=0->∀ i∈ids ps.length,am ps i=who->∃ g,f i=some g):=by
  have hx:∀ k:Int,∃ v,aA [.int num,.int k]=.ok (.int v):=fun k=>let ⟨v,h,_⟩:=kO num k;⟨v,h⟩
  obtain ⟨dr,hdr⟩:∃ dr:Int->Int,∀ k,aA [.int num,.int k]=.ok (.int (dr k)):=⟨fun k=>(hx k).choose,fun k=>(hx k).choose_spec⟩
  refine ⟨tM ps who dr share,?_,fun i g h=>?_,fun i h=>if_pos (.inl h),fun hs i hi ho=>?_⟩
  · obtain ⟨c5,c6,c7,e⟩:=vj hne hdr (who:=who) (share:=share) hp ps.length 0 .non .non .non (by omega);unfold ci iV;refine eE ?_;rw [show ([gD ps,.int who,.int num,.int share].map bh.val++List.replicate (8 - [gD ps,.int who,.int num,.int share].length) bh.non)=[.val (gD ps),.val (.int who),.val (.int num),.val (.int share),.non,.non,.non,.non] from rfl];rw [aL (ρ':=w5 ps who num share [] .non .non .non) (by rfl)];rw [aL (ρ':=w5 ps who num share ((j9 0 (0+ps.length)).map fun i=>oD (tM ps who dr share i)) c5 c6 c7) (by
      rw [eO,fP,jo];simp only [ao,R.ok_bind,cQ];rw [uF,show cm (ja ps) ps.length=(j9 0 ps.length).map (ja ps) by rw [jN];rfl];unfold EK at e;rw [show (j9 0 0).map (fun i=>oD (tM ps who dr share i))=[] from rfl] at e;rw [e];rfl)]
    rw [cq,bY];simp only [gW,gT,R.ok_bind,jB];rw [Nat.zero_add,jN];rfl
  · unfold tM at h;split at h
    · cases h
    · exact List.mem_of_getElem? h
  · have hg:=hne i hi;have hpos:0 < ((ay ps i).length:Int):=by
      have:=List.length_pos_iff.mpr hg;omega
    have a1:=Int.emod_lt_of_pos (dr i / 7) hpos;have a0:=Int.emod_nonneg (dr i / 7) (show ((ay ps i).length:Int)≠0 by omega);refine ⟨(ay ps i)[(dr i / 7%((ay ps i).length:Int)).toNat]'(by omega),?_⟩;unfold tM;rw [if_neg (by rintro (z | z);exact z ho;omega)];exact List.getElem?_eq_getElem (by omega)
theorem kY.per {nx:Int->Int} {s:Int} {k e:Nat} (w:kY nx s k e):∀ d,gM nx s (k+d)=gM nx s (e+d)
  | 0=>w.eq
  | d+1=>by
    show nx (gM nx s (k+d))=nx (gM nx s (e+d));rw [w.per d]
theorem kY.back {nx:Int->Int} {s:Int} {k e:Nat} (w:kY nx s k e):∀ d,∃ j,e<=j/\j < k/\gM nx s (e+d)=gM nx s j
  | 0=>⟨e,Nat.le_refl _,w.lt,rfl⟩
  | d+1=>by
    obtain ⟨j,j1,j2,ej⟩:=w.back d;have e1:gM nx s (e+(d+1))=gM nx s (j+1):=by
      show nx (gM nx s (e+d))=nx (gM nx s j);rw [ej]
    by_cases h:j+1 < k
    · exact ⟨j+1,by omega,h,e1⟩
    · refine ⟨e,Nat.le_refl _,w.lt,?_⟩;rw [e1,show j+1=k by omega,w.eq]
theorem yY {nx:Int->Int} {s:Int} {al:Int->Prop} {a:Nat} (h:∀ d,al (gM nx s (a+d))):∀ d,pS (fun x y=>y=nx x/\al x) al (gM nx s a) (gM nx s (a+d+1))
  | 0=>.one ⟨rfl,h 0⟩ (h 1)
  | d+1=>.more (yY h d) ⟨rfl,h (d+1)⟩ (h (d+2))
theorem kY.ringPth {nx:Int->Int} {s:Int} {k e:Nat} (w:kY nx s k e) {al:Int->Prop} (h:∀ j,e<=j->j < k->al (gM nx s j)) {j:Nat} (h1:e<=j) (h2:j < k):pS (fun x y=>y=nx x/\al x) al (gM nx s j) (gM nx s j):=by
  have hall:∀ d,al (gM nx s (j+d)):=fun d=>by
    obtain ⟨i,i1,i2,ei⟩:=w.back (j-e+d);rw [show e+(j-e+d)=j+d by omega] at ei;rw [ei];exact h i i1 i2
  have p:=yY hall (k-e-1);have hl:=w.lt;rw [show j+(k-e-1)+1=k+(j-e) by omega,w.per,show e+(j-e)=j by omega] at p;exact p
noncomputable def gz (ps:List P4) (w:Int) (mv f:Int->Option Int) (i:Int):Option Int:=if mv i=none\/am ps i≠w then f i else mv i
structure Ea (ps:List P4) (win:Int->Int) (w:Int) (mv z o:Int->Option Int):Prop where
  zg:∀ i g,z i=some g->g∈ay ps i
  og:∀ i g,o i=some g->g∈ay ps i
  all:∀ i∈ids ps.length,∃ g,eN ps z o i=some g
  own:∀ i∈ids ps.length,win i=w->am ps i=w->eN ps z o i=mv i
section
variable {ps:List P4} (G:Gr ps) (hw:∀ i∈ids ps.length,am ps i=0\/am ps i=1) {win:Int->Int} {mv:Int->Option Int} (I:tu ps (ids ps.length) win mv) (hn:∀ i,i∉ids ps.length->mv i=none)
include I hn in
theorem Aq {i g:Int} (h:mv i=some g):g∈ay ps i:=by
  by_cases hi:i∈ids ps.length
  · by_cases ho:am ps i=win i
    · obtain ⟨g',h1,h2⟩:=I.has i hi ho;rw [h1] at h;cases h;exact h2
    · rw [I.non i hi ho] at h;cases h
  · rw [hn i hi] at h;cases h
include G hw I hn in
theorem A5 {w:Int} (w01:w=0\/w=1) {f0 f1:Int->Option Int} (g0:∀ i g,f0 i=some g->g∈ay ps i) (g1:∀ i g,f1 i=some g->g∈ay ps i) (a0:∀ i∈ids ps.length,am ps i=0->∃ g,f0 i=some g) (a1:∀ i∈ids ps.length,am ps i=1->∃ g,f1 i=some g) :
    Ea ps win w mv (if w=1 then f0 else gz ps w mv f0) (if w=1 then gz ps w mv f1 else f1):=by
  have mg:∀ f:Int->Option Int,(∀ i g,f i=some g->g∈ay ps i)->∀ i g,gz ps w mv f i=some g->g∈ay ps i:=fun f hf i g h=>by
    unfold gz at h;split at h
    · exact hf i g h
    · exact Aq I hn h
  have ma:∀ f:Int->Option Int,∀ i∈ids ps.length,(∃ g,f i=some g)->∃ g,gz ps w mv f i=some g:=fun f i hi ⟨g,hg⟩=>by
    unfold gz;split
    · exact ⟨g,hg⟩
    · rename_i z;cases hm:mv i with
      | none=>exact (z (.inl hm)).elim
      | some g=>exact ⟨g,rfl⟩
  have mo:∀ f:Int->Option Int,∀ i∈ids ps.length,win i=w->am ps i=w->gz ps w mv f i=mv i:=fun f i hi h1 h2=>by
    obtain ⟨g,hg,_⟩:=I.has i hi (h2.trans h1.symm);unfold gz;rw [if_neg (by rintro (z | z);rw [hg] at z;cases z;exact z h2)]
  refine ⟨fun i g h=>?_,fun i g h=>?_,fun i hi=>?_,fun i hi h1 h2=>?_⟩
  · split at h
    · exact g0 i g h
    · exact mg f0 g0 i g h
  · split at h
    · exact mg f1 g1 i g h
    · exact g1 i g h
  · unfold eN;rcases hw i hi with ho | ho
    · rw [if_pos ho];split
      · exact a0 i hi ho
      · exact ma f0 i hi (a0 i hi ho)
    · rw [if_neg (by omega)];split
      · exact ma f1 i hi (a1 i hi ho)
      · exact a1 i hi ho
  · unfold eN;rcases w01 with e | e
    · rw [if_pos (by omega),if_neg (by omega)];exact mo f0 i hi h1 h2
    · rw [if_neg (by omega),if_pos e];exact mo f1 i hi h1 h2
include G I in
theorem xU {w:Int} {z o:Int->Option Int} (D:Ea ps win w mv z o) {s:Int} (hs:s∈ids ps.length) (hws:win s=w) {K e:Nat} (wk:kY (gL ps z o) s K e) :
    (∀ j,gM (gL ps z o) s j∈ids ps.length/\win (gM (gL ps z o) s j)=w)/\∀ h,(∃ i∈dI (gL ps z o) s K e,aE ps i=h)->(∀ i∈dI (gL ps z o) s K e,aE ps i<=h)->h%2=w:=by
  have step:∀ i,i∈ids ps.length->win i=w->Wy ps (ids ps.length) w mv i (gL ps z o i):=fun i hi hwi=>by
    obtain ⟨g,hg⟩:=D.all i hi;have en:gL ps z o i=g:=by unfold gL;rw [hg];rfl
    by_cases ho:am ps i=w
    · refine .inl ⟨ho,?_⟩;rw [<- D.own i hi hwi ho,hg,en]
    · refine .inr ⟨ho,?_⟩;have:=oX D.zg D.og D.all hi;exact iQ this (bW.mpr (G.goals this))
  have all:∀ j,gM (gL ps z o) s j∈ids ps.length/\win (gM (gL ps z o) s j)=w:=fun j=>by
    induction j with
    | zero=>exact ⟨hs,hws⟩
    | succ j ih =>
      have q:=I.stay _ ih.1 _ (by rw [ih.2];exact step _ ih.1 ih.2);exact ⟨q.1,q.2.trans ih.2⟩
  refine ⟨all,fun h ⟨i,hi,ei⟩ hmax=>?_⟩;by_cases hh:h%2=w
  · exact hh
  · exfalso;obtain ⟨j,j1,j2,ej⟩:=pZ hi;have hij:=(all j)
    rw [ej] at hij;refine I.good i hij.1 (by rw [ei,hij.2];exact hh) ?_;have p:=wk.ringPth (al:=fun x=>(x∈ids ps.length/\win x=w)/\aE ps x<=h) (fun j a b=>⟨all j,hmax _ (by
      refine List.mem_iff_getElem.mpr ⟨j-e,by rw [eB];omega,?_⟩;rw [iu (by omega),show e+(j-e)=j by omega])⟩) j1 j2
    rw [ej] at p;rw [hij.2,ei];exact p.imp (fun y ⟨a,b⟩ c=>⟨by rw [a];exact step _ b.1.1 b.1.2,c.1.1,c.1.2,c.2⟩) fun x y _ ⟨a,b⟩ c=>⟨by rw [a];exact step _ b.1.1 b.1.2,c.1.1,c.1.2,c.2⟩
end
noncomputable def D3:Fs:=(lK (oa (tE (e2 (kc) (ae 10) (eC .none))) (tE (e2 (xp) (e2 bC (ae 9) (eC (.int 0))) (ae 7)))) (cO 8 (ae 11)) (cO 8 (ae 10)))
noncomputable abbrev kV (a:PyData) (ps:List P4) (win:Int->Int) (mv:Int->Option Int) (k4 d5:PyData) (s:Int) (c7 c8 c9 c10 c11 c12 c13 c14:bh):aQ :=
  [.val a,.val (gD ps),.val (oT (fun i=>some (win i)) ps.length),.val (oT mv ps.length),.val k4,.val d5,.val (.int s),c7,c8,c9,c10,c11,c12,c13,c14]
theorem vB {a k4 d5:PyData} {ps:List P4} {win:Int->Int} {mv f:Int->Option Int} {s w:Int} {c12 c13 c14:bh}:∀ (is:List Int) (acc:List PyData) (c9 c10 c11:bh),(∀ x∈is,0<=x/\x < ps.length)->acc.length+is.length<=1000 ->
    ∃ c9' c10' c11',fg (t5 9 10 11) D3 (is.map fun i=>.tuple [ja ps i,oD (mv i),oD (f i)]) (kV a ps win mv k4 d5 s (.val (.int w)) (.own (.list acc)) c9 c10 c11 c12 c13 c14)=.ok (.nx (kV a ps win mv k4 d5 s (.val (.int w)) (.own (.list (acc++is.map fun i=>oD (gz ps w mv f i)))) c9' c10' c11' c12 c13 c14))
  | [],acc,c9,c10,c11,_,_=>⟨c9,c10,c11,by simp⟩
  | i::is,acc,c9,c10,c11,hb,hl=>by
    obtain ⟨h0,h1⟩:=hb i List.mem_cons_self;rw [List.length_cons] at hl;have hz:acc.length < sizeLine:=Nat.lt_of_lt_of_le (show acc.length < 1001 by omega) (by decide);obtain ⟨c9',c10',c11',e⟩:=vB (a:=a) (k4:=k4) (d5:=d5) (ps:=ps) (win:=win) (mv:=mv) (f:=f) (s:=s) (w:=w) (c12:=c12) (c13:=c13) (c14:=c14) is (acc++[oD (gz ps w mv f i)]) (.val (ja ps i)) (.val (oD (mv i))) (.val (oD (f i))) (fun x hx=>hb x (List.mem_cons_of_mem _ hx)) (by simp;omega);refine ⟨c9',c10',c11',?_⟩;rw [List.map_cons,yn];rw [show (((kV a ps win mv k4 d5 s (.val (.int w)) (.own (.list acc)) c9 c10 c11 c12 c13 c14).set 9 (.val (ja ps i))).set 10 (.val (oD (mv i)))).set 11 (.val (oD (f i)))=kV a ps win mv k4 d5 s (.val (.int w)) (.own (.list acc)) (.val (ja ps i)) (.val (oD (mv i))) (.val (oD (f i))) c12 c13 c14 from rfl];have hb1:D3 (kV a ps win mv k4 d5 s (.val (.int w)) (.own (.list acc)) (.val (ja ps i)) (.val (oD (mv i))) (.val (oD (f i))) c12 c13 c14)=.ok (.nx (kV a ps win mv k4 d5 s (.val (.int w)) (.own (.list (acc++[oD (gz ps w mv f i)]))) (.val (ja ps i)) (.val (oD (mv i))) (.val (oD (f i))) c12 c13 c14)):=by
      have ap:∀ g d,g (kV a ps win mv k4 d5 s (.val (.int w)) (.own (.list acc)) (.val (ja ps i)) (.val (oD (mv i))) (.val (oD (f i))) c12 c13 c14)=.ok d->cO 8 g (kV a ps win mv k4 d5 s (.val (.int w)) (.own (.list acc)) (.val (ja ps i)) (.val (oD (mv i))) (.val (oD (f i))) c12 c13 c14)=.ok (.nx (kV a ps win mv k4 d5 s (.val (.int w)) (.own (.list (acc++[d]))) (.val (ja ps i)) (.val (oD (mv i))) (.val (oD (f i))) c12 c13 c14)):=fun g d e=>by
        rw [jQ (ds:=acc) g rfl hz,e];rfl
      unfold D3 gz;rw [dG];simp only [jZ,cB,br,au,ao,bE,R.ok_bind,tP,yk h0 h1,sg,cZ];cases hm:mv i with
      | none =>
        rw [if_pos (show (none:Option Int).isNone=true from rfl),R.ok_bind,if_pos rfl,if_pos (.inl rfl),<- hm];exact ap _ _ (by rw [hm];rfl)
      | some g =>
        rw [if_neg (by simp),R.ok_bind];by_cases ho:am ps i=w
        · rw [decide_eq_true ho,if_neg (by simp),if_neg (by rintro (z | z);cases z;exact z ho),<- hm];exact ap _ _ (by rw [hm];rfl)
        · rw [decide_eq_false ho,if_pos (by rfl),if_pos (.inr ho),<- hm];exact ap _ _ (by rw [hm];rfl)
    rw [hb1,R.ok_bind,dA,e,List.append_assoc];rfl
noncomputable def DW:Fs:=(aY (bT 7 (e2 bC (ae 2) (ae 6))) (aY (gP 8 (l8 aI)) (aY (iA (ji (sV (ae 1) (ae 3) (e2 bC (ae 5) (ae 7))) (t5 9 10 11) D3)) (aY (bT 12 (l8 (ah (e1 cM (dt 8)) (ah (e2 bC (ae 5) (eC (.int 1))) aI)))) (aY (lK (tE (e2 (jb) (ae 7) (eC (.int 1)))) (bT 12 (l8 (ah (e2 bC (ae 5) (eC (.int 0))) (ah (e1 cM (dt 8)) aI)))) dX) (aY (wL (df 13 14) (aJ dD (ah (ae 1) (ah (e2 bC (ae 12) (eC (.int 0))) (ah (e2 bC (ae 12) (eC (.int 1))) (ah (ae 6) aI)))))) (lK (oa (i6 (tE (e1 mT (bO (eS (e2 gj (ae 13) (ae 14))) 1 [2,7] (aX 0) (fun _=>.ok true) (e2 (jb) (e2 bC (ae 1) (ae 0)) (ae 2)))))) (tE (e2 (xp) (aJ eK (ah (ae 1) (ah (ae 14) aI))) (ae 7)))) (cR (eC (.bool false))) dX)))))))
section
variable {a k4:PyData} {ps:List P4} (G:Gr ps) (hw:∀ i∈ids ps.length,am ps i=0\/am ps i=1) {win:Int->Int} {mv:Int->Option Int} (I:tu ps (ids ps.length) win mv) (hn:∀ i,i∉ids ps.length->mv i=none)
  {f0 f1:Int->Option Int} (g0:∀ i g,f0 i=some g->g∈ay ps i) (g1:∀ i g,f1 i=some g->g∈ay ps i) (a0:∀ i∈ids ps.length,am ps i=0->∃ g,f0 i=some g) (a1:∀ i∈ids ps.length,am ps i=1->∃ g,f1 i=some g)
include G hw I hn g0 g1 a0 a1
theorem CH {s:Int} (hs:s∈ids ps.length) (c7 c8 c9 c10 c11 c12 c13 c14:bh) :
    ∃ c7' c8' c9' c10' c11' c12' c13' c14',DW (kV a ps win mv k4 (.list [oT f0 ps.length,oT f1 ps.length]) s c7 c8 c9 c10 c11 c12 c13 c14)=.ok (.nx (kV a ps win mv k4 (.list [oT f0 ps.length,oT f1 ps.length]) s c7' c8' c9' c10' c11' c12' c13' c14')):=by
  have hp:=G.hp;obtain ⟨s0,s1⟩:=bW.mp hs;obtain ⟨w,ew⟩:∃ w,w=win s:=⟨_,rfl⟩
  have w01:=I.two s hs;rw [<- ew] at w01;obtain ⟨f,ef⟩:∃ f:Int->Option Int,f=if w=1 then f1 else f0:=⟨_,rfl⟩
  obtain ⟨d5,e5⟩:∃ d5:PyData,d5=.list [oT f0 ps.length,oT f1 ps.length]:=⟨_,rfl⟩
  have x0:bC d5 (.int 0)=.ok (oT f0 ps.length):=by rw [e5];rfl
  have x1:bC d5 (.int 1)=.ok (oT f1 ps.length):=by rw [e5];rfl
  have xw:bC d5 (.int w)=.ok (oT f ps.length):=by
    rcases w01 with z | z
    · rw [z,x0,ef,if_neg (by omega)]
    · rw [z,x1,ef,if_pos z]
  rw [<- e5];obtain ⟨m,em⟩:∃ m,m=gz ps w mv f:=⟨_,rfl⟩
  have D:=A5 G hw I hn w01 g0 g1 a0 a1;obtain ⟨z,ez⟩:∃ z:Int->Option Int,z=if w=1 then f0 else gz ps w mv f0:=⟨_,rfl⟩
  obtain ⟨o,eo⟩:∃ o:Int->Option Int,o=if w=1 then gz ps w mv f1 else f1:=⟨_,rfl⟩
  rw [<- ez,<- eo] at D;obtain ⟨K,e,wk,hring⟩:=tw G hw D.zg D.og D.all hs;obtain ⟨hin,hmark⟩:=xU G I D hs ew.symm wk;have hK:=qO (S:=fun x=>x∈ids ps.length) (fun _ h=>h) (fun x h=>qt G D.zg D.og D.all h) hs wk.nd;have he:=wk.lt;have hrl:(dI (gL ps z o) s K e).length<=1000:=by rw [eB];omega
  have hrn:dI (gL ps z o) s K e≠[]:=by
    intro q;have:=eB (gL ps z o) s K e;rw [q] at this;simp at this;omega
  have hri:∀ x∈dI (gL ps z o) s K e,x∈ids ps.length:=fun x hx=>by
    obtain ⟨j,_,_,ej⟩:=pZ hx;rw [<- ej];exact (hin j).1
  obtain ⟨h,hj,_,hj2,hj3⟩:=wV hrl hrn hri (wk.ring fun j=>oX D.zg D.og D.all (hin j).1);have hpar:=hmark h hj2 hj3;rw [hpar] at hj;obtain ⟨c9',c10',c11',hmn⟩:=vB (a:=a) (k4:=k4) (d5:=d5) (ps:=ps) (win:=win) (mv:=mv) (f:=f) (s:=s) (w:=w) (c12:=c12) (c13:=c13) (c14:=c14) (ids ps.length) [] c9 c10 c11 (fun x hx=>bW.mp hx) (by rw [qV];simp;omega);rw [<- em,List.nil_append] at hmn;have hz3:ge (ps.map P4.d) (cm (fun i=>oD (mv i)) ps.length) (cm (fun i=>oD (f i)) ps.length)=(ids ps.length).map fun i=>.tuple [ja ps i,oD (mv i),oD (f i)]:=by
    rw [uF];exact rR _ _ _ _
  obtain ⟨d12,e12⟩:∃ d12:PyData,d12=.list [oT z ps.length,oT o ps.length]:=⟨_,rfl⟩
  refine ⟨.val (.int w),.own (.list (cm (fun i=>oD (m i)) ps.length)),c9',c10',c11',.val d12,.val (.tuple ((qK (gL ps z o) s K e).map .int)),.val (.tuple ((dI (gL ps z o) s K e).map .int)),?_⟩;unfold DW;rw [aL (ρ':=kV a ps win mv k4 d5 s (.val (.int w)) c8 c9 c10 c11 c12 c13 c14) (by
    simp only [bu,br,au,ao,R.ok_bind,mI s0 s1,oD];rw [<- ew];rfl)]
  rw [aL (ρ':=kV a ps win mv k4 d5 s (.val (.int w)) (.own (.list [])) c9 c10 c11 c12 c13 c14) (by rfl)];rw [aL (ρ':=kV a ps win mv k4 d5 s (.val (.int w)) (.own (.list (cm (fun i=>oD (m i)) ps.length))) c9' c10' c11' c12 c13 c14) (by
    rw [eO,fP,yF];simp only [br,au,ao,R.ok_bind,xw,B6,hz3];rw [hmn];rfl)]
  have hfin:(lK (tE (e2 (jb) (ae 7) (eC (.int 1)))) (bT 12 (l8 (ah (e2 bC (ae 5) (eC (.int 0))) (ah (e1 cM (dt 8)) aI)))) dX) (kV a ps win mv k4 d5 s (.val (.int w)) (.own (.list (cm (fun i=>oD (m i)) ps.length))) c9' c10' c11' (.val (.list [oT m ps.length,oT f1 ps.length])) c13 c14)=.ok (.nx (kV a ps win mv k4 d5 s (.val (.int w)) (.own (.list (cm (fun i=>oD (m i)) ps.length))) c9' c10' c11' (.val d12) c13 c14)):=by
    simp only [dG,cB,br,au,ao,bE,R.ok_bind,fW,cZ];rcases w01 with q | q
    · rw [decide_eq_false (by omega),if_neg (by simp),e12,ez,eo,em,ef,if_neg (show ¬ w=1 by omega),if_neg (show ¬ w=1 by omega),if_neg (show ¬ w=1 by omega)];rfl
    · rw [decide_eq_true q,if_pos rfl];simp only [bu,vF,aN,aS,bY,br,gW,gT,au,ao,bE,R.ok_bind,x0,jB];rw [if_pos (by show 2<=_;decide),e12,ez,eo,em,ef,if_pos q,if_pos q,if_pos q];rfl
  rw [aL (ρ':=kV a ps win mv k4 d5 s (.val (.int w)) (.own (.list (cm (fun i=>oD (m i)) ps.length))) c9' c10' c11' (.val (.list [oT m ps.length,oT f1 ps.length])) c13 c14) (by
    simp only [bu,vF,aN,aS,bY,br,gW,gT,au,ao,bE,R.ok_bind,x1,jB];rw [if_pos (by show 2<=_;decide)];rfl)]
  rw [aL hfin];rw [aL (ρ':=kV a ps win mv k4 d5 s (.val (.int w)) (.own (.list (cm (fun i=>oD (m i)) ps.length))) c9' c10' c11' (.val d12) (.val (.tuple ((qK (gL ps z o) s K e).map .int))) (.val (.tuple ((dI (gL ps z o) s K e).map .int)))) (by
    have y0:bC d12 (.int 0)=.ok (oT z ps.length):=by rw [e12];rfl
    have y1:bC d12 (.int 1)=.ok (oT o ps.length):=by rw [e12];rfl
    rw [p8 _ _ _ _ (.tuple ((qK (gL ps z o) s K e).map .int)) (.tuple ((dI (gL ps z o) s K e).map .int)) (by
      simp only [bd,aN,aS,br,au,ao,bE,R.ok_bind,y0,y1,hring])]
    rfl)]
  have hpl:(qK (gL ps z o) s K e).map PyData.int++(dI (gL ps z o) s K e).map .int=(j8 (gL ps z o) s K).map .int:=by
    rw [<- List.map_append];unfold qK dI;rw [List.take_append_drop]
  have hc:=e8 (e2 (jb) (e2 bC (ae 1) (ae 0)) (ae 2)) [.non,.val (oT (fun i=>some (win i)) ps.length),.val (.int w)] 0 (fun _=>.bool true) ((j8 (gL ps z o) s K).map .int) fun d hd=>by
    obtain ⟨i,hi,rfl⟩:=List.mem_map.mp hd;obtain ⟨j,_,ej⟩:=jK.mp hi;obtain ⟨q1,q2⟩:=hin j;rw [ej] at q1 q2;obtain ⟨i0,i1⟩:=bW.mp q1;simp only [List.set_cons_zero,br,ao,au,R.ok_bind,mI i0 i1,oD,fW,decide_eq_true q2]
  have hd:mT (.list (((j8 (gL ps z o) s K).map PyData.int).map fun _=>.bool true))=.ok (.bool true):=by
    show (match D2.lg (((j8 (gL ps z o) s K).map PyData.int).map fun _=>PyData.bool true) with | some k=>R.ok (PyData.bool k) | none=>.no)=_;rw [nB (fun _=>true)];simp
  have hcond:(i6 (tE (e1 mT (bO (eS (e2 gj (ae 13) (ae 14))) 1 [2,7] (aX 0) (fun _=>.ok true) (e2 (jb) (e2 bC (ae 1) (ae 0)) (ae 2)))))) (kV a ps win mv k4 d5 s (.val (.int w)) (.own (.list (cm (fun i=>oD (m i)) ps.length))) c9' c10' c11' (.val d12) (.val (.tuple ((qK (gL ps z o) s K e).map .int))) (.val (.tuple ((dI (gL ps z o) s K e).map .int))))=.ok false:=by
    rw [fS,cB,bY,bp];simp only [bZ,br,au,ao,R.ok_bind,zh];rw [if_pos (by rw [<- List.length_append,hpl,List.length_map,dJ];exact bG (by omega)),hpl];simp only [R.ok_bind,cQ,cj];rw [if_pos (by rw [List.length_map,dJ];exact bG (by omega))];rw [show aC 1 [2,7] (kV a ps win mv k4 d5 s (.val (.int w)) (.own (.list (cm (fun i=>oD (m i)) ps.length))) c9' c10' c11' (.val d12) (.val (.tuple ((qK (gL ps z o) s K e).map .int))) (.val (.tuple ((dI (gL ps z o) s K e).map .int))))=[.non,.val (oT (fun i=>some (win i)) ps.length),.val (.int w)] from rfl];rw [hc,hR,R.ok_bind,hd];rfl
  rw [dG,jZ,hcond,R.ok_bind];simp only [Bool.false_eq_true,if_false,cB,br,bd,aN,aS,au,ao,R.ok_bind,hj,sg,cZ,decide_true];rfl
theorem vq:∀ (is:List Int) (c6 c7 c8 c9 c10 c11 c12 c13 c14:bh),(∀ x∈is,x∈ids ps.length) ->
    ∃ c6' c7' c8' c9' c10' c11' c12' c13' c14',fg (aX 6) DW (is.map .int) [.val a,.val (gD ps),.val (oT (fun i=>some (win i)) ps.length),.val (oT mv ps.length),.val k4,.val (.list [oT f0 ps.length,oT f1 ps.length]),c6,c7,c8,c9,c10,c11,c12,c13,c14]=.ok (.nx [.val a,.val (gD ps),.val (oT (fun i=>some (win i)) ps.length),.val (oT mv ps.length),.val k4,.val (.list [oT f0 ps.length,oT f1 ps.length]),c6',c7',c8',c9',c10',c11',c12',c13',c14'])
  | [],c6,c7,c8,c9,c10,c11,c12,c13,c14,_=>⟨c6,c7,c8,c9,c10,c11,c12,c13,c14,by rw [List.map_nil,fT]⟩
  | i::is,c6,c7,c8,c9,c10,c11,c12,c13,c14,hb=>by
    obtain ⟨d7,d8,d9,d10,d11,d12,d13,d14,e⟩:=CH (a:=a) (k4:=k4) G hw I hn g0 g1 a0 a1 (hb i List.mem_cons_self) c7 c8 c9 c10 c11 c12 c13 c14;obtain ⟨c6',c7',c8',c9',c10',c11',c12',c13',c14',e'⟩:=vq is (.val (.int i)) d7 d8 d9 d10 d11 d12 d13 d14 fun x hx=>hb x (List.mem_cons_of_mem _ hx)
    refine ⟨c6',c7',c8',c9',c10',c11',c12',c13',c14',?_⟩;rw [List.map_cons,e9];rw [show (([.val a,.val (gD ps),.val (oT (fun i=>some (win i)) ps.length),.val (oT mv ps.length),.val k4,.val (.list [oT f0 ps.length,oT f1 ps.length]),c6,c7,c8,c9,c10,c11,c12,c13,c14]:aQ).set 6 (.val (.int i)))=kV a ps win mv k4 (.list [oT f0 ps.length,oT f1 ps.length]) i c7 c8 c9 c10 c11 c12 c13 c14 from rfl];rw [e,R.ok_bind,dA,e']
end
noncomputable def EI:Fs:=(aY (bT 5 (bO (eS (sj (ah (eC (.int 0)) (ah (eC (.int 1)) aI)))) 1 [1,0,4] (aX 0) (fun _=>.ok true) (aJ ci (ah (ae 1) (ah (ae 0) (ah (aJ aA (ah (aJ bn (ah (ae 2) (ah (eC (.int 1)) aI))) (ah (ae 3) aI))) (ah (eC (.int 0)) aI))))))) (iA (ji (iO (ah (e1 dO (ae 1)) aI)) (aX 6) DW)))
theorem vN {ns:List Int} {ps:List P4} (G:Gr ps) (hw:∀ i∈ids ps.length,am ps i=0\/am ps i=1) {win:Int->Int} {mv:Int->Option Int} (I:tu ps (ids ps.length) win mv) (hn:∀ i,i∉ids ps.length->mv i=none):∀ (is:List Int) (c4 c5 c6 c7 c8 c9 c10 c11 c12 c13 c14:bh),
    ∃ ρ,fg (aX 4) EI (is.map .int) [.val (rc ns),.val (gD ps),.val (oT (fun i=>some (win i)) ps.length),.val (oT mv ps.length),c4,c5,c6,c7,c8,c9,c10,c11,c12,c13,c14]=.ok (.nx ρ)
  | [],c4,c5,c6,c7,c8,c9,c10,c11,c12,c13,c14=>⟨_,by rw [List.map_nil,fT]⟩
  | k::is,c4,c5,c6,c7,c8,c9,c10,c11,c12,c13,c14=>by
    have hp:=G.hp;have hne:∀ i∈ids ps.length,ay ps i≠[]:=fun i hi z=>by
      obtain ⟨h0,h1⟩:=bW.mp hi;obtain ⟨g,hg⟩:=G.gne h0 h1;rw [z] at hg;cases hg
    obtain ⟨v1,hv1,_,_⟩:=nL ns (k:=1) (by omega);obtain ⟨v2,hv2,_,_⟩:=kO v1 k;obtain ⟨f0,e0,g0,_,a0⟩:=pH hp hne 0 v2 0;obtain ⟨f1,e1',g1,_,a1⟩:=pH hp hne 1 v2 0;have hlen:dO (gD ps)=.ok (.int ps.length):=by simp
    have hr1:pd [.int (ps.length:Int)]=.ok (bJ 0 ps.length):=by rw [Bx (by omega) (by omega),Int.toNat_natCast]
    have hrm:bJ 0 ps.length=(ids ps.length).map .int:=kH _;obtain ⟨d6,d7,d8,d9,d10,d11,d12,d13,d14,e⟩:=vq (a:=rc ns) (k4:=.int k) G hw I hn g0 g1 (a0 rfl) (a1 rfl) (ids ps.length) c6 c7 c8 c9 c10 c11 c12 c13 c14 fun x hx=>hx
    obtain ⟨ρ,e'⟩:=vN (ns:=ns) G hw I hn is (.val (.int k)) (.val (.list [oT f0 ps.length,oT f1 ps.length])) d6 d7 d8 d9 d10 d11 d12 d13 d14;refine ⟨ρ,?_⟩;rw [List.map_cons,e9];rw [show (([.val (rc ns),.val (gD ps),.val (oT (fun i=>some (win i)) ps.length),.val (oT mv ps.length),c4,c5,c6,c7,c8,c9,c10,c11,c12,c13,c14]:aQ).set 4 (.val (.int k)))=[.val (rc ns),.val (gD ps),.val (oT (fun i=>some (win i)) ps.length),.val (oT mv ps.length),.val (.int k),c5,c6,c7,c8,c9,c10,c11,c12,c13,c14] from rfl];have hb1:EI [.val (rc ns),.val (gD ps),.val (oT (fun i=>some (win i)) ps.length),.val (oT mv ps.length),.val (.int k),c5,c6,c7,c8,c9,c10,c11,c12,c13,c14]=.ok (.nx [.val (rc ns),.val (gD ps),.val (oT (fun i=>some (win i)) ps.length),.val (oT mv ps.length),.val (.int k),.val (.list [oT f0 ps.length,oT f1 ps.length]),d6,d7,d8,d9,d10,d11,d12,d13,d14]):=by
      unfold EI;rw [aL (ρ':=[.val (rc ns),.val (gD ps),.val (oT (fun i=>some (win i)) ps.length),.val (oT mv ps.length),.val (.int k),.val (.list [oT f0 ps.length,oT f1 ps.length]),c6,c7,c8,c9,c10,c11,c12,c13,c14]) (by
        rw [bu,bp,show aC 1 [1,0,4] [.val (rc ns),.val (gD ps),.val (oT (fun i=>some (win i)) ps.length),.val (oT mv ps.length),.val (.int k),c5,c6,c7,c8,c9,c10,c11,c12,c13,c14]=[.non,.val (gD ps),.val (rc ns),.val (.int k)] from rfl];simp only [bZ,nC,aN,aS,bE,R.ok_bind];rw [if_pos (by show 2<=_;decide),R.ok_bind,cQ,cj,R.ok_bind,if_pos (by show 2<=_;decide),eR,eR,cG];simp only [List.set_cons_zero,bd,aN,aS,ao,au,bE,R.ok_bind,if_true,hv1,hv2,e0,e1',hR];rfl)]
      rw [eO,fP,lS];simp only [aN,aS,bY,au,ao,R.ok_bind,hlen,hr1,hrm];rw [e];rfl
    rw [hb1,R.ok_bind,dA,e']
theorem yL (c:Addr):xt (vD c):=by
  intro ns hns;obtain ⟨ps,hi,hgr,hpl,hp1,hp24,hi0,hi12⟩:=uu ns (most:=24) (by omega) (by omega);have G:Gr ps:=DZ hpl hp24;have hp:=G.hp;have hw:=v4 G;have hall:∀ i∈ids ps.length,(am ps i=0\/am ps i=1)/\0<=aE ps i/\aE ps i < 13:=fun i hi'=>by
    obtain ⟨h0,h1⟩:=bW.mp hi';have P:=hpl _ (List.getElem_mem (show i.toNat < ps.length by omega));rw [gG h0 h1,jS h0 h1];have:=P.w0;have:=P.w1;have:=P.m0;have:=P.m1;omega
  obtain ⟨win,mv,hwon,I,hn⟩:=De G hw (c:=c) hall;obtain ⟨ρ,hloop⟩:=vN (ns:=ns) G (fun i h=>(hall i h).1) I hn [0,1,2,3] .non .non .non .non .non .non .non .non .non .non .non;have hr4:pd [.int 4]=.ok ([(0:Int),1,2,3].map .int):=rfl;unfold vD yq;refine eE ?_;rw [show ([rc ns].map bh.val++List.replicate (15 - [rc ns].length) bh.non)=[.val (rc ns),.non,.non,.non,.non,.non,.non,.non,.non,.non,.non,.non,.non,.non,.non] from rfl];rw [aL (ρ':=[.val (rc ns),.val (gD ps),.non,.non,.non,.non,.non,.non,.non,.non,.non,.non,.non,.non,.non]) (by
    simp only [bu,bd,aN,aS,ao,bE,R.ok_bind,hgr];rfl)]
  rw [aL (ρ':=[.val (rc ns),.val (gD ps),.val (oT (fun i=>some (win i)) ps.length),.val (oT mv ps.length),.non,.non,.non,.non,.non,.non,.non,.non,.non,.non,.non]) (by
    rw [p8 _ _ _ _ (oT (fun i=>some (win i)) ps.length) (oT mv ps.length) (by simp only [bd,aN,aS,ao,au,R.ok_bind,hwon])];rfl)]
  rw [aL (ρ':=ρ) (by
    rw [eO,fP,lS];simp only [aN,aS,bE,R.ok_bind,hr4];unfold EI DW D3 at hloop;rw [hloop];rfl)]
  rfl
noncomputable def DK:List Stmt:=PySem.Challenge.pw_duelground_k51_whole_plays.main.body
noncomputable abbrev top (i:Nat):Stmt:=DK.getD i (.Pass ⟨0,0,0,0⟩)
noncomputable abbrev jF:Stmt:=top 40
noncomputable abbrev iT:Stmt:=top 45
noncomputable abbrev ia:Stmt:=top 38
noncomputable abbrev jk:Stmt:=top 39
noncomputable abbrev ju:Stmt:=top 41
noncomputable abbrev jd:Stmt:=top 42
noncomputable abbrev gq:Stmt:=top 43
noncomputable abbrev kC:Stmt:=top 8
noncomputable abbrev iC:Stmt:=top 9
noncomputable abbrev dR:Stmt:=top 13
noncomputable abbrev iw:Stmt:=top 16
noncomputable abbrev lF:Stmt:=top 17
noncomputable abbrev lW:Stmt:=top 10
noncomputable abbrev hW:Stmt:=top 11
noncomputable abbrev dL:Stmt:=top 14
noncomputable abbrev lJ:Stmt:=top 15
noncomputable abbrev iR:Stmt:=top 20
noncomputable abbrev iF:Stmt:=top 25
noncomputable abbrev eQ:Stmt:=top 24
noncomputable abbrev kS:Stmt:=top 31
noncomputable abbrev dw:Stmt:=top 32
noncomputable abbrev lA:Stmt:=top 21
noncomputable abbrev gS:Stmt:=top 29
noncomputable abbrev eU:Stmt:=top 30
noncomputable abbrev iP:Stmt:=top 23
noncomputable abbrev gh:Stmt:=top 26
noncomputable abbrev jL:Stmt:=top 22
noncomputable abbrev cI:Stmt:=top 34
noncomputable abbrev dh:Stmt:=top 27
noncomputable abbrev fM:Stmt:=top 35
noncomputable abbrev x5:Stmt:=top 36
noncomputable abbrev jH:Stmt:=top 46
section
variable {P:Program} {w:World} {K:PySem.W.Frag} {mg:Str->Option Value} {base:Heap} {f:Addr} {fd:FuncData} {k:Nat}
noncomputable abbrev jW:Stmt:=AT (top 19) 0
theorem AE:aV ["self","who","places","moves"] ["self","who","places","moves"] (ai jW):=⟨rfl,rfl,rfl,by decide +kernel,rfl,by decide +kernel,by decide +kernel⟩
theorem zO {P:Program} {w:World} {K:PySem.W.Frag} {mg:Str->Option Value} {base:Heap} {f C:Addr} {fd:FuncData} (F:gN K "__init__" "Share.__init__" jW f fd) (cl:xq K C) (n0:eI K C "who") (n1:eI K C "places") (n2:eI K C "moves") :
    bg P w K mg base (cU P w mg) 1 f fd ["self","who","places","moves"] (EH C ["who","places","moves"]):=by
  obtain ⟨oc,od,kV,doc,pm,an,cdv,ct,osl,rfl,lk,hcd⟩:=F.ex;refine yl (k:=0) lk hcd AE (fun vs H Q E h=>?_) fun A outer s H vs Q E hr h=>?_
  · obtain ⟨x,dx,ws,rfl,_,hl,_⟩:=h;rw [List.length_cons,hl];rfl
  · obtain ⟨x,dx,ws,rfl,hx,hl,k⟩:=h
    match ws,hl with
    | [w1,w2,w3],_ =>
      refine ⟨_,nN (uE (pv 0) (pv 1) rfl) (nN (uE (pv 0) (pv 2) rfl) (uZ (uE (pv 0) (pv 3) rfl))),?_⟩;refine ⟨_,rfl,_,rfl,x,C,dx,[],rfl,hx,cl,n0,(by show 0 < 1000;decide),_,rfl,_,rfl,x,C,dx,_,rfl,bi,cl,n1,(by show 1 < 1000;decide),_,rfl,_,rfl,x,C,dx,_,rfl,bi,cl,n2,(by refine Nat.lt_of_le_of_lt (gZ _ _ _) ?_;exact Nat.lt_of_le_of_lt (Nat.succ_le_succ (gZ _ _ _)) (by show 2 < 1000;decide)),?_⟩;refine k _ (by rw [bi,EE (by decide +kernel) (by decide +kernel) (by decide +kernel)];rfl) fun b hb=>?_
      rw [av hb,av hb,av hb]
theorem rM:aV ["_law_number","_law_k","_law_drawn_here"] ["_law_number","_law_k"] (ai jF):=⟨rfl,rfl,rfl,by decide +kernel,rfl,by decide +kernel,by decide +kernel⟩
theorem sU (W:gN K "_law_drawn" "_law_drawn" jF f fd) :
    bg P w K mg base (cU P w mg) (k+1) f fd ["_law_number","_law_k"] (du (dM 3 (jn)) 2):=by
  refine aH W rM (G:=[]) (by decide +kernel) fun cdv A outer s H E hr T=>?_
  exact (aj (aR T 2 rfl (cc (ad (fj (ad (cN (ad (cN (ad (aa T 0 rfl)) (ad (fj (ad ak) (ad (aa T 1 rfl)))))) (ad ak))) (ad ak))) (ad ak)))
      (ar (aO (cc (ad (cN (ad (cN (ad (fj (ad (aa T 2 rfl)) (ad (aa T 2 rfl)))) (ad (fj (ad ak) (ad (aa T 2 rfl)))))) (ad (aa T 1 rfl)))) (ad ak)))))
theorem qx:aV ["_law_ground_here","_law_who","_law_number","_law_share","_law_found","_law_k","_law_place_here","_law_drawn_here"] ["_law_ground_here","_law_who","_law_number","_law_share"] (ai iT):=⟨rfl,rfl,rfl,by decide +kernel,rfl,by decide +kernel,by decide +kernel⟩
theorem qH (W:gN K "_law_choice" "_law_choice" iT f fd) {f26:Addr} {d26:FuncData} {aA:gO} (C26:hV P w K mg base k "_law_drawn" ["_law_number","_law_k"] aA f26 d26) (b_enumerate:mg "enumerate" = none) (b_len:mg "len" = none) (b_tuple:mg "tuple" = none) :
    bg P w K mg base (cU P w mg) (k+1) f fd ["_law_ground_here","_law_who","_law_number","_law_share"] (du (dM 8 (iV aA)) 4):=by
  refine aH W qx (G:=["enumerate","_law_drawn","len","tuple"]) (by decide +kernel) fun cdv A outer s H E hr T=>?_
  exact (aj (gB T 4 rfl (fH aq))
      (aj (cJ (have T:=T.nox;eL PassesOwn.never T.calm (ir T 0 rfl b_enumerate (aa T 0 rfl)) (dF T 5 6 rfl rfl) (aj (aR T 7 rfl (az C26 hr T 1 rfl (af (aa T 2 rfl) (af (aa T 5 rfl) aq)) rfl (ag (ag aw))))
      (ar (cX (hZ (ik (kT T.hu (ad (aM T.hu (ad (aa T 6 rfl)) (ad ak) (fun _ _=>rfl))) (ad (aa T 1 rfl))) (gw (hZ (pO (kR (ad (aa T 3 rfl)) (ad ak)) (o2 (dQ T.hu (ad (cc (ad (aa T 7 rfl)) (ad (aa T 3 rfl)))) (ad ak)))))))) (ar (eY T 4 rfl cH)) (ar (eY T 4 rfl (aM T.hu (ad (aM T.hu (ad (aa T 6 rfl)) (ad ak) (fun _ _=>rfl))) (ad (cc (ad (gC (ad (aa T 7 rfl)) (ad ak))) (ad (cv T 2 rfl b_len (ad (aM T.hu (ad (aa T 6 rfl)) (ad ak) (fun _ _=>rfl))))))) (fun _ _=>rfl)))))))))
      (ar (aO (bw T 3 rfl b_tuple (ce T 4 rfl))))))
theorem pc:aV ["_law_script","_law_k"] ["_law_script","_law_k"] (ai ia):=⟨rfl,rfl,rfl,by decide +kernel,rfl,by decide +kernel,by decide +kernel⟩
theorem o7 (W:gN K "_law_cell_at" "_law_cell_at" ia f fd) (b_len:mg "len" = none) :
    bg P w K mg base (cU P w mg) (k+1) f fd ["_law_script","_law_k"] (du (dM 2 (h7)) 2):=by
  refine aH W pc (G:=["len"]) (by decide +kernel) fun cdv A outer s H E hr T=>?_
  exact (aj (cX (xX (ad (aa T 1 rfl)) (ad (cv T 0 rfl b_len (ad (aa T 0 rfl))))) (ar (aO (aM T.hu (ad (aa T 0 rfl)) (ad (aa T 1 rfl)) (fun _ _=>rfl)))) cK)
      (ar (aO ak)))
theorem rQ:aV ["_law_script","_law_k","_law_drawn_here"] ["_law_script","_law_k"] (ai jk):=⟨rfl,rfl,rfl,by decide +kernel,rfl,by decide +kernel,by decide +kernel⟩
theorem r8 (W:gN K "_law_mixed" "_law_mixed" jk f fd) {f24:Addr} {d24:FuncData} {cg:gO} (C24:hV P w K mg base k "_law_cell_at" ["_law_script","_law_k"] cg f24 d24) :
    bg P w K mg base (cU P w mg) (k+1) f fd ["_law_script","_law_k"] (du (dM 3 (jt cg)) 2):=by
  refine aH W rQ (G:=["_law_cell_at"]) (by decide +kernel) fun cdv A outer s H E hr T=>?_
  exact (aj (aR T 2 rfl (cc (ad (fj (ad (cN (ad (cN (ad (az C24 hr T 0 rfl (af (aa T 0 rfl) (af (aa T 1 rfl) aq)) rfl (ag (ag aw)))) (ad (fj (ad ak) (ad (aa T 1 rfl)))))) (ad ak))) (ad ak))) (ad ak)))
      (ar (aO (cc (ad (cN (ad (cN (ad (fj (ad (aa T 2 rfl)) (ad (aa T 2 rfl)))) (ad (fj (ad ak) (ad (aa T 2 rfl)))))) (ad (aa T 1 rfl)))) (ad ak)))))
theorem rT:aV ["_law_number","_law_count","_law_found","_law_k"] ["_law_number","_law_count"] (ai ju):=⟨rfl,rfl,rfl,by decide +kernel,rfl,by decide +kernel,by decide +kernel⟩
theorem rX (W:gN K "_law_goals" "_law_goals" ju f fd) {f26:Addr} {d26:FuncData} {aA:gO} (C26:hV P w K mg base k "_law_drawn" ["_law_number","_law_k"] aA f26 d26) (b_int:mg "int" = none) (b_range:mg "range" = none) (b_sorted:mg "sorted" = none) (b_tuple:mg "tuple" = none) :
    bg P w K mg base (cU P w mg) (k+1) f fd ["_law_number","_law_count"] (du (dM 4 (jr aA)) 2):=by
  refine aH W rT (G:=["range","int","_law_drawn","tuple","sorted"]) (by decide +kernel) fun cdv A outer s H E hr T=>?_
  exact (aj (gB T 2 rfl sL)
      (aj (cJ (have T:=T.nox;eL PassesOwn.never T.calm (fR T 0 rfl b_range (af (cN (ad (cN (ad ak) (ad (cc (ad (aa T 0 rfl)) (ad ak))))) (ad (fj (ad ak) (ad (wr T 1 rfl b_int (ad (qM T.hu (ad (cc (ad (gC (ad (aa T 0 rfl)) (ad ak))) (ad ak))) (ad ak)))))))) aq) (ag aw)) (ba T 3 rfl) (ar (yj T 2 rfl (cc (ad (az C26 hr T 2 rfl (af (aa T 0 rfl) (af (aa T 3 rfl) aq)) rfl (ag (ag aw)))) (ad (aa T 1 rfl))) gx))))
      (ar (aO (bw T 3 rfl b_tuple (cW (qm T 4 rfl b_sorted (ce T 2 rfl))))))))
theorem r0:aV ["_law_number","_law_count","_law_high","_law_gain"] ["_law_number","_law_count","_law_high"] (ai jd):=⟨rfl,rfl,rfl,by decide +kernel,rfl,by decide +kernel,by decide +kernel⟩
theorem sf (W:gN K "_law_place" "_law_place" jd f fd) {f26:Addr} {d26:FuncData} {aA:gO} (C26:hV P w K mg base k "_law_drawn" ["_law_number","_law_k"] aA f26 d26) {f27:Addr} {d27:FuncData} {cY:gO} (C27:hV P w K mg base k "_law_goals" ["_law_number","_law_count"] cY f27 d27) :
    bg P w K mg base (cU P w mg) (k+1) f fd ["_law_number","_law_count","_law_high"] (du (dM 4 (jl aA cY)) 3):=by
  refine aH W r0 (G:=["_law_goals","_law_drawn"]) (by decide +kernel) fun cdv A outer s H E hr T=>?_
  exact (aj (aR T 3 rfl (jv (ad (cc (ad (gC (ad (aa T 0 rfl)) (ad ak))) (ad ak))) (ad ak)))
      (aj (cX (dQ T.hu (ad (cc (ad (gC (ad (aa T 0 rfl)) (ad ak))) (ad ak))) (ad ak)) (ar (aR T 3 rfl (jv (ad (cc (ad (gC (ad (aa T 0 rfl)) (ad ak))) (ad ak))) (ad ak)))) cK)
      (ar (aO (jf (af (cc (ad (aa T 0 rfl)) (ad ak)) (af (cc (ad (gC (ad (aa T 0 rfl)) (ad ak))) (ad (cN (ad (aa T 2 rfl)) (ad ak)))) (af (aa T 3 rfl) (af (az C27 hr T 0 rfl (af (az C26 hr T 1 rfl (af (aa T 0 rfl) (af ak aq)) rfl (ag (ag aw))) (af (aa T 1 rfl) aq)) rfl (ag (ag aw))) aq)))))))))
theorem qD:aV ["_law_script","_law_most","_law_number","_law_count","_law_high"] ["_law_script","_law_most"] (ai gq):=⟨rfl,rfl,rfl,by decide +kernel,rfl,by decide +kernel,by decide +kernel⟩
theorem qQ (W:gN K "_law_ground" "_law_ground" gq f fd) {f25:Addr} {d25:FuncData} {bn:gO} (C25:hV P w K mg base k "_law_mixed" ["_law_script","_law_k"] bn f25 d25) {f28:Addr} {d28:FuncData} {cF:gO} (C28:hV P w K mg base k "_law_place" ["_law_number","_law_count","_law_high"] cF f28 d28) (b_len:mg "len" = none) (b_max:mg "max" = none) (b_min:mg "min" = none) (b_range:mg "range" = none) (b_tuple:mg "tuple" = none) :
    bg P w K mg base (cU P w mg) (k+1) f fd ["_law_script","_law_most"] (du (dM 5 (iM bn cF)) 2):=by
  refine aH W qD (G:=["_law_mixed","min","max","len","tuple","range"]) (by decide +kernel) fun cdv A outer s H E hr T=>?_
  exact (aj (aR T 2 rfl (az C25 hr T 0 rfl (af (aa T 0 rfl) (af ak aq)) rfl (ag (ag aw))))
      (aj (aR T 3 rfl (cN (ad ak) (ad (cc (ad (aa T 2 rfl)) (ad (xY T 1 rfl b_min (ad (aa T 1 rfl)) (ad (yR T 2 rfl b_max (ad ak) (ad (cv T 3 rfl b_len (ad (aa T 0 rfl))))))))))))
      (aj (aR T 4 rfl (aM T.hu (cW (fH (af ak (af ak (af ak (af ak (af ak (af ak aq)))))))) (ad (cc (ad (gC (ad (aa T 2 rfl)) (ad ak))) (ad ak))) (fun _ _=>rfl)))
      (ar (aO (bw T 4 rfl b_tuple (cW (bq (N:=["_law_k","_law_script","_law_count","_law_high"]) (own:=1) (G:=["_law_place","_law_mixed"]) (fr:=[0,3,4]) T rfl rfl (oN:=["_law_script","_law_most","_law_number","_law_count","_law_high"]) (on:=(ai gq).names) (by decide +kernel) (fR T 5 rfl b_range (af (aa T 3 rfl) aq) (ag aw)) (bL (by decide)) (fun cl C s' H' fp E' T=>⟨(ba T 0 rfl),cu,(az C28 hr T 0 rfl (af (az C25 hr T 1 rfl (af (aa T 1 rfl) (af (cN (ad ak) (ad (aa T 0 rfl))) aq)) rfl (ag (ag aw))) (af (aa T 2 rfl) (af (aa T 3 rfl) aq))) rfl (ag (ag (ag aw))))⟩)))))))))
theorem ug:aV ["thing"] ["thing"] (ai kC):=⟨rfl,rfl,rfl,by decide +kernel,rfl,by decide +kernel,by decide +kernel⟩
theorem tJ (W:gN K "is_whole" "is_whole" kC f fd) (b_bool:mg "bool" = none) (b_int:mg "int" = none) (b_isinstance:mg "isinstance" = none) :
    bg P w K mg base (cU P w mg) (k+1) f fd ["thing"] (du (dM 1 (nS)) 1):=by
  refine aH W ug (G:=["isinstance","int","bool"]) (by decide +kernel) fun cdv A outer s H E hr T=>?_
  exact (ar (aO (o4 (qP T 0 rfl b_isinstance T 1 rfl b_int (ad (aa T 0 rfl))) (lu (xT (pf T 0 rfl b_isinstance T 2 rfl b_bool (ad (aa T 0 rfl))))))))
theorem qy:aV ["thing","low","high"] ["thing","low","high"] (ai iC):=⟨rfl,rfl,rfl,by decide +kernel,rfl,by decide +kernel,by decide +kernel⟩
theorem qv (W:gN K "is_between" "is_between" iC f fd) {f0:Addr} {d0:FuncData} {bV:gO} (C0:hV P w K mg base k "is_whole" ["thing"] bV f0 d0) :
    bg P w K mg base (cU P w mg) (k+1) f fd ["thing","low","high"] (du (dM 3 (iD bV)) 3):=by
  refine aH W qy (G:=["is_whole"]) (by decide +kernel) fun cdv A outer s H E hr T=>?_
  exact (ar (aO (o4 (az C0 hr T 0 rfl (af (aa T 0 rfl) aq) rfl (ag aw)) (lu (tK Bp oH Bp oH (ad (aa T 1 rfl)) (ad (aa T 0 rfl)) (ad (aa T 2 rfl)))))))
theorem jh:aV ["thing","ground"] ["thing","ground"] (ai dR):=⟨rfl,rfl,rfl,by decide +kernel,rfl,by decide +kernel,by decide +kernel⟩
theorem jy (W:gN K "is_number_of_place" "is_number_of_place" dR f fd) {f1:Addr} {d1:FuncData} {cy:gO} (C1:hV P w K mg base k "is_between" ["thing","low","high"] cy f1 d1) (b_len:mg "len" = none) :
    bg P w K mg base (cU P w mg) (k+1) f fd ["thing","ground"] (du (dM 2 (dU cy)) 2):=by
  refine aH W jh (G:=["is_between","len"]) (by decide +kernel) fun cdv A outer s H E hr T=>?_
  exact (ar (aO (az C1 hr T 0 rfl (af (aa T 0 rfl) (af ak (af (jv (ad (cv T 1 rfl b_len (ad (aa T 1 rfl)))) (ad ak)) aq))) rfl (ag (ag (ag aw))))))
theorem wS:aV ["thing","ground","following"] ["thing","ground"] (ai iw):=⟨rfl,rfl,rfl,by decide +kernel,rfl,by decide +kernel,by decide +kernel⟩
theorem vY (W:gN K "is_ring" "is_ring" iw f fd) {f4:Addr} {d4:FuncData} {aB:gO} (C4:hV P w K mg base k "is_number_of_place" ["thing","ground"] aB f4 d4) {t_GOALS:Tok} (g_GOALS:mg "GOALS" = some (.int 3 t_GOALS)) (b_all:mg "all" = none) (b_isinstance:mg "isinstance" = none) (b_len:mg "len" = none) (b_tuple:mg "tuple" = none) (b_zip:mg "zip" = none) :
    bg P w K mg base (cU P w mg) (k+1) f fd ["thing","ground"] (du (dM 3 (jX aB)) 2):=by
  refine aH W wS (G:=["isinstance","tuple","len","all","zip"]) (by decide +kernel) fun cdv A outer s H E hr T=>?_
  exact (aj (cX (hZ (ik (eX (eA (jG T 0 rfl b_isinstance T 1 rfl b_tuple (ad (aa T 0 rfl))))) (gw (dQ T.hu (ad (cv T 2 rfl b_len (ad (aa T 0 rfl)))) (ad ak))))) (ar (aO gx)) cK)
      (aj (cX (eX (eA (lc T 3 rfl b_all (cW (bq (N:=["number","ground"]) (own:=1) (G:=["is_number_of_place"]) (fr:=[1]) T rfl rfl (oN:=["thing","ground","following"]) (on:=(ai iw).names) (by decide +kernel) (bN (aa T 0 rfl)) (bL (by decide)) (fun cl C s' H' fp E' T=>⟨(ba T 0 rfl),cu,(az C4 hr T 0 rfl (af (aa T 0 rfl) (af (aa T 1 rfl) aq)) rfl (ag (ag aw)))⟩)))))) (ar (aO gx)) cK)
      (aj (aR T 2 rfl (cN (ad (iJ (ad (aa T 0 rfl)) (jM ak) jT)) (ad (iJ (ad (aa T 0 rfl)) jT (jM ak)))))
      (ar (aO (lc T 3 rfl b_all (cW (bq (N:=["number","goal","ground"]) (own:=2) (G:=["GOALS"]) (fr:=[1]) T rfl rfl (oN:=["thing","ground","following"]) (on:=(ai iw).names) (by decide +kernel) (oh T 4 rfl b_zip (aa T 0 rfl) (aa T 2 rfl)) (fJ (by decide) (by decide)) (fun cl C s' H' fp E' T=>⟨(dF T 0 1 rfl rfl),cu,(u7 T.hu (ad (aa T 1 rfl)) (ad (aM T.hu (ad (aM T.hu (ad (aa T 2 rfl)) (ad (aa T 0 rfl)) (fun _ _=>rfl))) (ad (cS T 0 rfl g_GOALS)) (fun _ _=>rfl))) (by with_unfolding_all rfl))⟩)))))))))
theorem zB:aV ["ground","ring"] ["ground","ring"] (ai lF):=⟨rfl,rfl,rfl,by decide +kernel,rfl,by decide +kernel,by decide +kernel⟩
theorem zC (W:gN K "judged" "judged" lF f fd) {f7:Addr} {d7:FuncData} {di:gO} (C7:hV P w K mg base k "is_ring" ["thing","ground"] di f7 d7) {t_MARK:Tok} (g_MARK:mg "MARK" = some (.int 1 t_MARK)) (b_max:mg "max" = none) {c_NoPart:Addr} (m_NoPart:mg "NoPart" = some (.ref c_NoPart)) (q_NoPart:PySem.W.excIn K c_NoPart Bl Av=true) :
    bg P w K mg base (cU P w mg) (k+1) f fd ["ground","ring"] (du (dM 2 (nZ di)) 2):=by
  refine aH W zB (G:=["is_ring","NoPart","max"]) (by decide +kernel) fun cdv A outer s H E hr T=>?_
  exact (aj (cX (eX (eA (az C7 hr T 0 rfl (af (aa T 1 rfl) (af (aa T 0 rfl) aq)) rfl (ag (ag aw))))) (ar (iU T 1 rfl m_NoPart q_NoPart (have T:=T.nox;kU))) cK)
      (ar (aO (cc (ad (pF T 2 rfl b_max (cW (bq (N:=["number","ground"]) (own:=1) (G:=["MARK"]) (fr:=[0]) T rfl rfl (oN:=["ground","ring"]) (on:=(ai lF).names) (by decide +kernel) (bN (aa T 1 rfl)) (bL (by decide)) (fun cl C s' H' fp E' T=>⟨(ba T 0 rfl),cu,(aM T.hu (ad (aM T.hu (ad (aa T 1 rfl)) (ad (aa T 0 rfl)) (fun _ _=>rfl))) (ad (cS T 0 rfl g_MARK)) (fun _ _=>rfl))⟩))))) (ad ak)))))
theorem vX:aV ["thing","place"] ["thing","place"] (ai lW):=⟨rfl,rfl,rfl,by decide +kernel,rfl,by decide +kernel,by decide +kernel⟩
theorem wQ (W:gN K "is_move" "is_move" lW f fd) {f0:Addr} {d0:FuncData} {bV:gO} (C0:hV P w K mg base k "is_whole" ["thing"] bV f0 d0) {t_GOALS:Tok} (g_GOALS:mg "GOALS" = some (.int 3 t_GOALS)) :
    bg P w K mg base (cU P w mg) (k+1) f fd ["thing","place"] (du (dM 2 (lX bV)) 2):=by
  refine aH W vX (G:=["is_whole","GOALS"]) (by decide +kernel) fun cdv A outer s H E hr T=>?_
  exact (ar (aO (An (yQ (ad (aa T 0 rfl)) (ad cH)) (lu (o4 (az C0 hr T 0 rfl (af (aa T 0 rfl) aq) rfl (ag aw)) (lu (u7 T.hu (ad (aa T 0 rfl)) (ad (aM T.hu (ad (aa T 1 rfl)) (ad (cS T 1 rfl g_GOALS)) (fun _ _=>rfl))) (by with_unfolding_all rfl))))))))
theorem su:aV ["thing","ground"] ["thing","ground"] (ai hW):=⟨rfl,rfl,rfl,by decide +kernel,rfl,by decide +kernel,by decide +kernel⟩
theorem rZ (W:gN K "are_moves" "are_moves" hW f fd) {f2:Addr} {d2:FuncData} {dB:gO} (C2:hV P w K mg base k "is_move" ["thing","place"] dB f2 d2) (b_all:mg "all" = none) (b_isinstance:mg "isinstance" = none) (b_len:mg "len" = none) (b_tuple:mg "tuple" = none) (b_zip:mg "zip" = none) :
    bg P w K mg base (cU P w mg) (k+1) f fd ["thing","ground"] (du (dM 2 (jC dB)) 2):=by
  refine aH W su (G:=["isinstance","tuple","len","all","zip"]) (by decide +kernel) fun cdv A outer s H E hr T=>?_
  exact (aj (cX (hZ (ik (eX (eA (jG T 0 rfl b_isinstance T 1 rfl b_tuple (ad (aa T 0 rfl))))) (gw (kT T.hu (ad (cv T 2 rfl b_len (ad (aa T 0 rfl)))) (ad (cv T 2 rfl b_len (ad (aa T 1 rfl)))))))) (ar (aO gx)) cK)
      (ar (aO (lc T 3 rfl b_all (cW (bq (N:=["move","place"]) (own:=2) (G:=["is_move"]) (fr:=[]) T rfl rfl (oN:=["thing","ground"]) (on:=(ai hW).names) (by decide +kernel) (oh T 4 rfl b_zip (aa T 0 rfl) (aa T 1 rfl)) (fJ (by decide) (by decide)) (fun cl C s' H' fp E' T=>⟨(dF T 0 1 rfl rfl),cu,(az C2 hr T 0 rfl (af (aa T 0 rfl) (af (aa T 1 rfl) aq)) rfl (ag (ag aw)))⟩)))))))
theorem la:aV ["ground","zero","one","both"] ["ground","zero","one"] (ai dL):=⟨rfl,rfl,rfl,by decide +kernel,rfl,by decide +kernel,by decide +kernel⟩
theorem kW (W:gN K "moves_by_owners" "moves_by_owners" dL f fd) {t_WHO:Tok} (g_WHO:mg "WHO" = some (.int 0 t_WHO)) (b_enumerate:mg "enumerate" = none) (b_tuple:mg "tuple" = none) :
    bg P w K mg base (cU P w mg) (k+1) f fd ["ground","zero","one"] (du (dM 4 (fy)) 3):=by
  refine aH W la (G:=["tuple","enumerate"]) (by decide +kernel) fun cdv A outer s H E hr T=>?_
  exact (aj (aR T 3 rfl (jf (af (aa T 1 rfl) (af (aa T 2 rfl) aq))))
      (ar (aO (bw T 0 rfl b_tuple (cW (bq (N:=["number","place","both"]) (own:=2) (G:=["WHO"]) (fr:=[3]) T rfl rfl (oN:=["ground","zero","one","both"]) (on:=(ai dL).names) (by decide +kernel) (ir T 1 rfl b_enumerate (aa T 0 rfl)) (fJ (by decide) (by decide)) (fun cl C s' H' fp E' T=>⟨(dF T 0 1 rfl rfl),cu,(aM T.hu (ad (aM T.hu (ad (aa T 2 rfl)) (ad (aM T.hu (ad (aa T 1 rfl)) (ad (cS T 0 rfl g_WHO)) (fun _ _=>rfl))) (fun _ _=>rfl))) (ad (aa T 0 rfl)) (fun _ _=>rfl))⟩)))))))
theorem xi:aV ["ground","zero","one","start","moves","play","number","entered"] ["ground","zero","one","start"] (ai lJ):=⟨rfl,rfl,rfl,by decide +kernel,rfl,by decide +kernel,by decide +kernel⟩
theorem vT (W:gN K "ring_of" "ring_of" lJ f fd) {f3:Addr} {d3:FuncData} {cE:gO} (C3:hV P w K mg base k "are_moves" ["thing","ground"] cE f3 d3) {f4:Addr} {d4:FuncData} {aB:gO} (C4:hV P w K mg base k "is_number_of_place" ["thing","ground"] aB f4 d4) {f5:Addr} {d5:FuncData} {bz:gO} (C5:hV P w K mg base k "moves_by_owners" ["ground","zero","one"] bz f5 d5) (b_tuple:mg "tuple" = none) {c_NoMoves:Addr} (m_NoMoves:mg "NoMoves" = some (.ref c_NoMoves)) (q_NoMoves:PySem.W.excIn K c_NoMoves Bl Av=true) {c_NoPart:Addr} (m_NoPart:mg "NoPart" = some (.ref c_NoPart)) (q_NoPart:PySem.W.excIn K c_NoPart Bl Av=true) :
    bg P w K mg base (cU P w mg) (k+1) f fd ["ground","zero","one","start"] (du (dM 8 (lH cE aB bz)) 4):=by
  refine aH W xi (G:=["are_moves","NoMoves","moves_by_owners","is_number_of_place","NoPart","tuple"]) (by decide +kernel) fun cdv A outer s H E hr T=>?_
  exact (aj (cX (hZ (ik (eX (eA (az C3 hr T 0 rfl (af (aa T 1 rfl) (af (aa T 0 rfl) aq)) rfl (ag (ag aw))))) (gw (eX (eA (az C3 hr T 0 rfl (af (aa T 2 rfl) (af (aa T 0 rfl) aq)) rfl (ag (ag aw)))))))) (ar (iU T 1 rfl m_NoMoves q_NoMoves (have T:=T.nox;kU))) cK)
      (aj (aR T 4 rfl (az C5 hr T 2 rfl (af (aa T 0 rfl) (af (aa T 1 rfl) (af (aa T 2 rfl) aq))) rfl (ag (ag (ag aw)))))
      (aj (cX (ln T.hu (ad cH) (ad (aa T 4 rfl)) (by with_unfolding_all rfl)) (ar (iU T 1 rfl m_NoMoves q_NoMoves (have T:=T.nox;kU))) cK)
      (aj (cX (eX (eA (az C4 hr T 3 rfl (af (aa T 3 rfl) (af (aa T 0 rfl) aq)) rfl (ag (ag aw))))) (ar (iU T 4 rfl m_NoPart q_NoPart (have T:=T.nox;kU))) cK)
      (aj (gB T 5 rfl (fH aq))
      (aj (aR T 6 rfl (aa T 3 rfl))
      (aj (cJ (have T:=T.nox;kD 1000000 PassesOwn.never (mr T.hu (ad (aa T 6 rfl)) (ce T 5 rfl) (by with_unfolding_all rfl)) (aj (eY T 5 rfl (aa T 6 rfl))
      (ar (aR T 6 rfl (aM T.hu (ad (aa T 4 rfl)) (ad (aa T 6 rfl)) (fun _ _=>rfl)))))))
      (aj (aR T 7 rfl (ut (ce T 5 rfl) (aa T 6 rfl)))
      (ar (aO (jf (af (bw T 5 rfl b_tuple (ad (iJ (ce T 5 rfl) jT (jM (aa T 7 rfl))))) (af (bw T 5 rfl b_tuple (ad (iJ (ce T 5 rfl) (jM (aa T 7 rfl)) jT))) aq)))))))))))))
theorem qe:aV ["ground"] ["ground"] (ai iR):=⟨rfl,rfl,rfl,by decide +kernel,rfl,by decide +kernel,by decide +kernel⟩
theorem qu (W:gN K "all_places" "all_places" iR f fd) (b_len:mg "len" = none) (b_range:mg "range" = none) (b_tuple:mg "tuple" = none) :
    bg P w K mg base (cU P w mg) (k+1) f fd ["ground"] (du (dM 1 (iS)) 1):=by
  refine aH W qe (G:=["tuple","range","len"]) (by decide +kernel) fun cdv A outer s H E hr T=>?_
  exact (ar (aO (xc T 0 rfl b_tuple 1 rfl b_range (af (cv T 2 rfl b_len (ad (aa T 0 rfl))) aq))))
theorem tz:aV ["moves","places"] ["moves","places"] (ai iF):=⟨rfl,rfl,rfl,by decide +kernel,rfl,by decide +kernel,by decide +kernel⟩
theorem uA (W:gN K "moves_at" "moves_at" iF f fd) (b_enumerate:mg "enumerate" = none) (b_tuple:mg "tuple" = none) :
    bg P w K mg base (cU P w mg) (k+1) f fd ["moves","places"] (du (dM 2 (kJ)) 2):=by
  refine aH W tz (G:=["tuple","enumerate"]) (by decide +kernel) fun cdv A outer s H E hr T=>?_
  exact (ar (aO (bw T 0 rfl b_tuple (cW (bq (N:=["number","move","places"]) (own:=2) (G:=[]) (fr:=[1]) T rfl rfl (oN:=["moves","places"]) (on:=(ai iF).names) (by decide +kernel) (ir T 1 rfl b_enumerate (aa T 0 rfl)) (fJ (by decide) (by decide)) (fun cl C s' H' fp E' T=>⟨(dF T 0 1 rfl rfl),cu,(kA (ln T.hu (ad (aa T 0 rfl)) (ad (aa T 2 rfl)) (by with_unfolding_all rfl)) (aa T 1 rfl) cH)⟩))))))
theorem mS:aV ["moves","others"] ["moves","others"] (ai eQ):=⟨rfl,rfl,rfl,by decide +kernel,rfl,by decide +kernel,by decide +kernel⟩
theorem nh (W:gN K "moves_of_both" "moves_of_both" eQ f fd) (b_tuple:mg "tuple" = none) (b_zip:mg "zip" = none) :
    bg P w K mg base (cU P w mg) (k+1) f fd ["moves","others"] (du (dM 2 (gg)) 2):=by
  refine aH W mS (G:=["tuple","zip"]) (by decide +kernel) fun cdv A outer s H E hr T=>?_
  exact (ar (aO (bw T 0 rfl b_tuple (cW (bq (N:=["move","other"]) (own:=2) (G:=[]) (fr:=[]) T rfl rfl (oN:=["moves","others"]) (on:=(ai eQ).names) (by decide +kernel) (oh T 1 rfl b_zip (aa T 0 rfl) (aa T 1 rfl)) (fJ (by decide) (by decide)) (fun cl C s' H' fp E' T=>⟨(dF T 0 1 rfl rfl),cu,(kA (lO (ad (aa T 0 rfl)) (ad cH)) (aa T 1 rfl) (aa T 0 rfl))⟩))))))
theorem xz:aV ["ranks"] ["ranks"] (ai kS):=⟨rfl,rfl,rfl,by decide +kernel,rfl,by decide +kernel,by decide +kernel⟩
theorem xH (W:gN K "ranked" "ranked" kS f fd) (b_enumerate:mg "enumerate" = none) (b_tuple:mg "tuple" = none) :
    bg P w K mg base (cU P w mg) (k+1) f fd ["ranks"] (du (dM 1 (nJ)) 1):=by
  refine aH W xz (G:=["tuple","enumerate"]) (by decide +kernel) fun cdv A outer s H E hr T=>?_
  exact (ar (aO (bw T 0 rfl b_tuple (cW (bq (N:=["number","rank"]) (own:=2) (G:=[]) (fr:=[]) T rfl rfl (oN:=["ranks"]) (on:=(ai kS).names) (by decide +kernel) (ir T 1 rfl b_enumerate (aa T 0 rfl)) (fJ (by decide) (by decide)) (fun cl C s' H' fp E' T=>⟨(dF T 0 1 rfl rfl),(fq (oQ (ad (aa T 1 rfl)) (ad cH))),(aa T 0 rfl)⟩))))))
theorem mV:aV ["ground","who","ranks","moves","number"] ["ground","who","ranks"] (ai dw):=⟨rfl,rfl,rfl,by decide +kernel,rfl,by decide +kernel,by decide +kernel⟩
theorem nq (W:gN K "pulling_moves" "pulling_moves" dw f fd) {f19:Addr} {d19:FuncData} {ca:gO} (C19:hV P w K mg base k "ranked" ["ranks"] ca f19 d19) {t_GOALS:Tok} (g_GOALS:mg "GOALS" = some (.int 3 t_GOALS)) {t_WHO:Tok} (g_WHO:mg "WHO" = some (.int 0 t_WHO)) (b_tuple:mg "tuple" = none) :
    bg P w K mg base (cU P w mg) (k+1) f fd ["ground","who","ranks"] (du (dM 5 (gk ca)) 3):=by
  refine aH W mV (G:=["ranked","WHO","GOALS","tuple"]) (by decide +kernel) fun cdv A outer s H E hr T=>?_
  exact (aj (eZ 3 rfl (N:=["rank"]) (own:=1) (G:=[]) (fr:=[]) T rfl rfl (oN:=["ground","who","ranks","moves","number"]) (on:=(ai dw).names) (by decide +kernel) (bN (aa T 2 rfl)) (bL (by decide)) (fun cl C s' H' fp E' T=>⟨(ba T 0 rfl),cu,cH⟩))
      (aj (cJ (have T:=T.nox;eL PassesOwn.never T.calm (bN (az C19 hr T 0 rfl (af (aa T 2 rfl) aq) rfl (ag aw))) (ba T 4 rfl) (ar (cX (hZ (pO (dQ T.hu (ad (aM T.hu (ad (aM T.hu (ad (aa T 0 rfl)) (ad (aa T 4 rfl)) (fun _ _=>rfl))) (ad (cS T 1 rfl g_WHO)) (fun _ _=>rfl))) (ad (aa T 1 rfl))) (o2 (kR (ad (aM T.hu (ad (aa T 2 rfl)) (ad (aa T 4 rfl)) (fun _ _=>rfl))) (ad ak))))) (ar (jR T 3 rfl (have T:=T.nox;(aa T 4 rfl)) (aM T.hu (cW (bq (N:=["goal","ranks","number"]) (own:=1) (G:=[]) (fr:=[2,4]) T rfl rfl (oN:=["ground","who","ranks","moves","number"]) (on:=(ai dw).names) (by decide +kernel) (bN (aM T.hu (ad (aM T.hu (ad (aa T 0 rfl)) (ad (aa T 4 rfl)) (fun _ _=>rfl))) (ad (cS T 2 rfl g_GOALS)) (fun _ _=>rfl))) (bL (by decide)) (fun cl C s' H' fp E' T=>⟨(ba T 0 rfl),(fq (dQ T.hu (ad (aM T.hu (ad (aa T 1 rfl)) (ad (aa T 0 rfl)) (fun _ _=>rfl))) (ad (jv (ad (aM T.hu (ad (aa T 1 rfl)) (ad (aa T 2 rfl)) (fun _ _=>rfl))) (ad ak))))),(aa T 0 rfl)⟩))) (ad ak) (fun _ _=>rfl)))) cK))))
      (ar (aO (bw T 3 rfl b_tuple (ce T 3 rfl))))))
theorem zj:aV ["some","others"] ["some","others"] (ai lA):=⟨rfl,rfl,rfl,by decide +kernel,rfl,by decide +kernel,by decide +kernel⟩
theorem yE (W:gN K "common" "common" lA f fd) (b_tuple:mg "tuple" = none) :
    bg P w K mg base (cU P w mg) (k+1) f fd ["some","others"] (du (dM 2 (nI)) 2):=by
  refine aH W zj (G:=["tuple"]) (by decide +kernel) fun cdv A outer s H E hr T=>?_
  exact (ar (aO (bw T 0 rfl b_tuple (cW (bq (N:=["number","others"]) (own:=1) (G:=[]) (fr:=[1]) T rfl rfl (oN:=["some","others"]) (on:=(ai lA).names) (by decide +kernel) (bN (aa T 0 rfl)) (bL (by decide)) (fun cl C s' H' fp E' T=>⟨(ba T 0 rfl),(fq (ln T.hu (ad (aa T 0 rfl)) (ad (aa T 1 rfl)) (by with_unfolding_all rfl))),(aa T 0 rfl)⟩))))))
theorem rP:aV ["place","ways","who","ranks","known"] ["place","ways","who","ranks"] (ai gS):=⟨rfl,rfl,rfl,by decide +kernel,rfl,by decide +kernel,by decide +kernel⟩
theorem rl (W:gN K "is_forced" "is_forced" gS f fd) {t_WHO:Tok} (g_WHO:mg "WHO" = some (.int 0 t_WHO)) (b_len:mg "len" = none) :
    bg P w K mg base (cU P w mg) (k+1) f fd ["place","ways","who","ranks"] (du (dM 5 (jI)) 4):=by
  refine aH W rP (G:=["WHO","len"]) (by decide +kernel) fun cdv A outer s H E hr T=>?_
  exact (aj (ip (eZ 4 rfl (N:=["goal","ranks"]) (own:=1) (G:=[]) (fr:=[3]) T rfl rfl (oN:=["place","ways","who","ranks","known"]) (on:=(ai gS).names) (by decide +kernel) (bN (aa T 1 rfl)) (bL (by decide)) (fun cl C s' H' fp E' T=>⟨(ba T 0 rfl),(fq (oQ (ad (aM T.hu (ad (aa T 1 rfl)) (ad (aa T 0 rfl)) (fun _ _=>rfl))) (ad cH))),(aa T 0 rfl)⟩)) (show 4 < 5 by decide))
      (aj (cX (dQ T.hu (ad (aM T.hu (ad (aa T 0 rfl)) (ad (cS T 0 rfl g_WHO)) (fun _ _=>rfl))) (ad (aa T 2 rfl))) (ar (aO (zN (ad (cv T 1 rfl b_len (ad (aa T 4 rfl)))) (ad ak)))) cK)
      (ar (aO (qM T.hu (ad (cv T 1 rfl b_len (ad (aa T 4 rfl)))) (ad (cv T 1 rfl b_len (ad (aa T 1 rfl)))))))))
theorem uH:aV ["ground","inside","who","goals","ways","ranks","rank","found","unranked","number"] ["ground","inside","who","goals"] (ai eU):=⟨rfl,rfl,rfl,by decide +kernel,rfl,by decide +kernel,by decide +kernel⟩
theorem t6 (W:gN K "ranks_to" "ranks_to" eU f fd) {f10:Addr} {d10:FuncData} {cb:gO} (C10:hV P w K mg base k "common" ["some","others"] cb f10 d10) {f17:Addr} {d17:FuncData} {bQ:gO} (C17:hV P w K mg base k "is_forced" ["place","ways","who","ranks"] bQ f17 d17) {t_GOALS:Tok} (g_GOALS:mg "GOALS" = some (.int 3 t_GOALS)) (b_len:mg "len" = none) (b_list:mg "list" = none) (b_range:mg "range" = none) (b_tuple:mg "tuple" = none) :
    bg P w K mg base (cU P w mg) (k+1) f fd ["ground","inside","who","goals"] (du (dM 10 (kF cb bQ)) 4):=by
  refine aH W uH (G:=["range","len","list","tuple"]) (by decide +kernel) fun cdv A outer s H E hr T=>?_
  exact (aj (aR T 4 rfl (nz (bq (N:=["place","inside"]) (own:=1) (G:=["common","GOALS"]) (fr:=[1]) T rfl rfl (oN:=["ground","inside","who","goals","ways","ranks","rank","found","unranked","number"]) (on:=(ai eU).names) (by decide +kernel) (bN (aa T 0 rfl)) (bL (by decide)) (fun cl C s' H' fp E' T=>⟨(ba T 0 rfl),cu,(az C10 hr T 0 rfl (af (aM T.hu (ad (aa T 0 rfl)) (ad (cS T 1 rfl g_GOALS)) (fun _ _=>rfl)) (af (aa T 1 rfl) aq)) rfl (ag (ag aw)))⟩))))
      (aj (gB T 5 rfl (bq (N:=["number","goals"]) (own:=1) (G:=[]) (fr:=[3]) T rfl rfl (oN:=["ground","inside","who","goals","ways","ranks","rank","found","unranked","number"]) (on:=(ai eU).names) (by decide +kernel) (fR T 0 rfl b_range (af (cv T 1 rfl b_len (ad (aa T 0 rfl))) aq) (ag aw)) (bL (by decide)) (fun cl C s' H' fp E' T=>⟨(ba T 0 rfl),cu,(kA (ln T.hu (ad (aa T 0 rfl)) (ad (aa T 1 rfl)) (by with_unfolding_all rfl)) ak cH)⟩)))
      (aj (aR T 6 rfl ak)
      (aj (aR T 7 rfl (nz (nH T 2 rfl b_list (ad (aa T 3 rfl)))))
      (aj (cJ (have T:=T.nox;kD 1000000 PassesOwn.never (kR (ad (cv T 1 rfl b_len (ad (aa T 7 rfl)))) (ad ak)) (aj (wX T 6 rfl ak)
      (aj (ip (eZ 8 rfl (N:=["number","ranks"]) (own:=1) (G:=[]) (fr:=[5]) T rfl rfl (oN:=["ground","inside","who","goals","ways","ranks","rank","found","unranked","number"]) (on:=(ai eU).names) (by decide +kernel) (bN (aa T 1 rfl)) (bL (by decide)) (fun cl C s' H' fp E' T=>⟨(ba T 0 rfl),(fq (lO (ad (aM T.hu (ce T 1 rfl) (ad (aa T 0 rfl)) (fun _ _=>rfl))) (ad cH))),(aa T 0 rfl)⟩)) (show 8 < 10 by decide))
      (aj (ip (eZ 7 rfl (N:=["number","ground","ways","who","ranks"]) (own:=1) (G:=["is_forced"]) (fr:=[0,4,2,5]) T rfl rfl (oN:=["ground","inside","who","goals","ways","ranks","rank","found","unranked","number"]) (on:=(ai eU).names) (by decide +kernel) (bN (aa T 8 rfl)) (bL (by decide)) (fun cl C s' H' fp E' T=>⟨(ba T 0 rfl),(fq (eA (tQ 4 (az C17 hr T 0 rfl (af (aM T.hu (ad (aa T 1 rfl)) (ad (aa T 0 rfl)) (fun _ _=>rfl)) (af (aM T.hu (ad (aa T 2 rfl)) (ad (aa T 0 rfl)) (fun _ _=>rfl)) (af (aa T 3 rfl) (af (aa T 4 rfl) aq)))) rfl (ag (ag (ag (ag aw)))))))),(aa T 0 rfl)⟩)) (show 7 < 10 by decide))
      (ar (cJ (have T:=T.nox;eL PassesOwn.never T.calm (bN (aa T 7 rfl)) (ba T 9 rfl) (ar (jR T 5 rfl (have T:=T.nox;(aa T 9 rfl)) (aa T 6 rfl)))))))))))
      (ar (aO (bw T 3 rfl b_tuple (ce T 5 rfl)))))))))
theorem tG:aV ["ground"] ["ground"] (ai iP):=⟨rfl,rfl,rfl,by decide +kernel,rfl,by decide +kernel,by decide +kernel⟩
theorem tZ (W:gN K "no_moves" "no_moves" iP f fd) (b_tuple:mg "tuple" = none) :
    bg P w K mg base (cU P w mg) (k+1) f fd ["ground"] (du (dM 1 (kK)) 1):=by
  refine aH W tG (G:=["tuple"]) (by decide +kernel) fun cdv A outer s H E hr T=>?_
  exact (ar (aO (bw T 0 rfl b_tuple (cW (bq (N:=["place"]) (own:=1) (G:=[]) (fr:=[]) T rfl rfl (oN:=["ground"]) (on:=(ai iP).names) (by decide +kernel) (bN (aa T 0 rfl)) (bL (by decide)) (fun cl C s' H' fp E' T=>⟨(ba T 0 rfl),cu,cH⟩))))))
theorem mO:aV ["ground","who","part","moves","number"] ["ground","who","part"] (ai gh):=⟨rfl,rfl,rfl,by decide +kernel,rfl,by decide +kernel,by decide +kernel⟩
theorem mZ (W:gN K "staying_moves" "staying_moves" gh f fd) {f10:Addr} {d10:FuncData} {cb:gO} (C10:hV P w K mg base k "common" ["some","others"] cb f10 d10) {f12:Addr} {d12:FuncData} {bP:gO} (C12:hV P w K mg base k "no_moves" ["ground"] bP f12 d12) {t_GOALS:Tok} (g_GOALS:mg "GOALS" = some (.int 3 t_GOALS)) {t_WHO:Tok} (g_WHO:mg "WHO" = some (.int 0 t_WHO)) (b_list:mg "list" = none) (b_tuple:mg "tuple" = none) :
    bg P w K mg base (cU P w mg) (k+1) f fd ["ground","who","part"] (du (dM 5 (gi cb bP)) 3):=by
  refine aH W mO (G:=["list","no_moves","WHO","common","GOALS","tuple"]) (by decide +kernel) fun cdv A outer s H E hr T=>?_
  exact (aj (gB T 3 rfl (nH T 0 rfl b_list (ad (az C12 hr T 1 rfl (af (aa T 0 rfl) aq) rfl (ag aw)))))
      (aj (cJ (have T:=T.nox;eL PassesOwn.never T.calm (bN (aa T 2 rfl)) (ba T 4 rfl) (ar (cX (dQ T.hu (ad (aM T.hu (ad (aM T.hu (ad (aa T 0 rfl)) (ad (aa T 4 rfl)) (fun _ _=>rfl))) (ad (cS T 2 rfl g_WHO)) (fun _ _=>rfl))) (ad (aa T 1 rfl))) (ar (jR T 3 rfl (have T:=T.nox;(aa T 4 rfl)) (aM T.hu (ad (az C10 hr T 3 rfl (af (aM T.hu (ad (aM T.hu (ad (aa T 0 rfl)) (ad (aa T 4 rfl)) (fun _ _=>rfl))) (ad (cS T 4 rfl g_GOALS)) (fun _ _=>rfl)) (af (aa T 2 rfl) aq)) rfl (ag (ag aw)))) (ad ak) (fun _ _=>rfl)))) cK))))
      (ar (aO (bw T 5 rfl b_tuple (ce T 3 rfl))))))
theorem wE:aV ["some","others"] ["some","others"] (ai jL):=⟨rfl,rfl,rfl,by decide +kernel,rfl,by decide +kernel,by decide +kernel⟩
theorem xj (W:gN K "without" "without" jL f fd) (b_tuple:mg "tuple" = none) :
    bg P w K mg base (cU P w mg) (k+1) f fd ["some","others"] (du (dM 2 (mm)) 2):=by
  refine aH W wE (G:=["tuple"]) (by decide +kernel) fun cdv A outer s H E hr T=>?_
  exact (ar (aO (bw T 0 rfl b_tuple (cW (bq (N:=["number","others"]) (own:=1) (G:=[]) (fr:=[1]) T rfl rfl (oN:=["some","others"]) (on:=(ai jL).names) (by decide +kernel) (bN (aa T 0 rfl)) (bL (by decide)) (fun cl C s' H' fp E' T=>⟨(ba T 0 rfl),(fq (mr T.hu (ad (aa T 0 rfl)) (ad (aa T 1 rfl)) (by with_unfolding_all rfl))),(aa T 0 rfl)⟩))))))
theorem lU:aV ["ground","inside","highest","who","other","tops","ranks","below","lost","moves"] ["ground","inside"] (ai cI):=⟨rfl,rfl,rfl,by decide +kernel,rfl,by decide +kernel,by decide +kernel⟩
theorem lI (W:gN K "share_by_marks" "share_by_marks" cI f fd) {f14:Addr} {d14:FuncData} {cL:gO} (C14:hV P w K mg base k "moves_at" ["moves","places"] cL f14 d14) {f13:Addr} {d13:FuncData} {aD:gO} (C13:hV P w K mg base k "moves_of_both" ["moves","others"] aD f13 d13) {f20:Addr} {d20:FuncData} {bf:gO} (C20:hV P w K mg base k "pulling_moves" ["ground","who","ranks"] bf f20 d20) {f19:Addr} {d19:FuncData} {ca:gO} (C19:hV P w K mg base k "ranked" ["ranks"] ca f19 d19) {f18:Addr} {d18:FuncData} {cs:gO} (C18:hV P w K mg base k "ranks_to" ["ground","inside","who","goals"] cs f18 d18) {f15:Addr} {d15:FuncData} {bt:gO} (C15:hV P w K mg base k "staying_moves" ["ground","who","part"] bt f15 d15) {f22:Addr} {d22:FuncData} {aG:gO} (C22:hV P w K mg base k "winners_within" ["ground","inside"] aG f22 d22) {f11:Addr} {d11:FuncData} {bM:gO} (C11:hV P w K mg base k "without" ["some","others"] bM f11 d11) {t_MARK:Tok} (g_MARK:mg "MARK" = some (.int 1 t_MARK)) (b_enumerate:mg "enumerate" = none) (b_len:mg "len" = none) (b_max:mg "max" = none) {c_Share:Addr} (cl_Share:xq K c_Share) (n_Share_moves:eI K c_Share "moves") (n_Share_places:eI K c_Share "places") (n_Share_who:eI K c_Share "who") (m_Share:mg "Share" = some (.ref c_Share)) {fi_Share:Addr} {di_Share:FuncData} (MK_Share:Mk K c_Share fi_Share) (I_Share:bg P w K mg base (cU P w mg) 1 fi_Share di_Share ["self","who","places","moves"] (EH c_Share ["who","places","moves"])) (B_Share:bF K di_Share ["self","who","places","moves"] []) (hk:2<=k) :
    bg P w K mg base (cU P w mg) (k+1) f fd ["ground","inside"] (du (dM 10 (ed cL aD bf ca cs bt aG bM c_Share)) 2):=by
  refine aH W lU (G:=["max","ranks_to","winners_within","without","ranked","enumerate","len","moves_of_both","pulling_moves","Share","staying_moves","moves_at"]) (by decide +kernel) fun cdv A outer s H E hr T=>?_
  exact (aj (aR T 2 rfl (pF T 0 rfl b_max (cW (bq (N:=["number","ground"]) (own:=1) (G:=["MARK"]) (fr:=[0]) T rfl rfl (oN:=["ground","inside","highest","who","other","tops","ranks","below","lost","moves"]) (on:=(ai cI).names) (by decide +kernel) (bN (aa T 1 rfl)) (bL (by decide)) (fun cl C s' H' fp E' T=>⟨(ba T 0 rfl),cu,(aM T.hu (ad (aM T.hu (ad (aa T 1 rfl)) (ad (aa T 0 rfl)) (fun _ _=>rfl))) (ad (cS T 0 rfl g_MARK)) (fun _ _=>rfl))⟩)))))
      (aj (aR T 3 rfl (cc (ad (aa T 2 rfl)) (ad ak)))
      (aj (aR T 4 rfl (jv (ad ak) (ad (aa T 3 rfl))))
      (aj (ip (eZ 5 rfl (N:=["number","ground","highest"]) (own:=1) (G:=["MARK"]) (fr:=[0,2]) T rfl rfl (oN:=["ground","inside","highest","who","other","tops","ranks","below","lost","moves"]) (on:=(ai cI).names) (by decide +kernel) (bN (aa T 1 rfl)) (bL (by decide)) (fun cl C s' H' fp E' T=>⟨(ba T 0 rfl),(fq (dQ T.hu (ad (aM T.hu (ad (aM T.hu (ad (aa T 1 rfl)) (ad (aa T 0 rfl)) (fun _ _=>rfl))) (ad (cS T 0 rfl g_MARK)) (fun _ _=>rfl))) (ad (aa T 2 rfl)))),(aa T 0 rfl)⟩)) (show 5 < 10 by decide))
      (aj (aR T 6 rfl (az C18 hr T 1 rfl (af (aa T 0 rfl) (af (aa T 1 rfl) (af (aa T 3 rfl) (af (aa T 5 rfl) aq)))) rfl (ag (ag (ag (ag aw))))))
      (aj (aR T 7 rfl (az C22 hr T 2 rfl (af (aa T 0 rfl) (af (az C11 hr T 3 rfl (af (aa T 1 rfl) (af (az C19 hr T 4 rfl (af (aa T 6 rfl) aq) rfl (ag aw)) aq)) rfl (ag (ag aw))) aq)) rfl (ag (ag aw))))
      (aj (ip (eZ 8 rfl (N:=["number","winner","other"]) (own:=2) (G:=[]) (fr:=[4]) T rfl rfl (oN:=["ground","inside","highest","who","other","tops","ranks","below","lost","moves"]) (on:=(ai cI).names) (by decide +kernel) (ir T 5 rfl b_enumerate (aM T.hu (ad (aa T 7 rfl)) (ad ak) (fun _ _=>rfl))) (fJ (by decide) (by decide)) (fun cl C s' H' fp E' T=>⟨(dF T 0 1 rfl rfl),(fq (dQ T.hu (ad (aa T 1 rfl)) (ad (aa T 2 rfl)))),(aa T 0 rfl)⟩)) (show 8 < 10 by decide))
      (aj (cX (dQ T.hu (ad (cv T 6 rfl b_len (ad (aa T 8 rfl)))) (ad ak)) (aj (aR T 9 rfl (az C13 hr T 7 rfl (af (az C20 hr T 8 rfl (af (aa T 0 rfl) (af (aa T 3 rfl) (af (aa T 6 rfl) aq))) rfl (ag (ag (ag aw)))) (af (aM T.hu (ad (aa T 7 rfl)) (ad ak) (fun _ _=>rfl)) aq)) rfl (ag (ag aw))))
      (ar (aO (rY MK_Share I_Share (hr.mono hk) T 9 rfl m_Share B_Share (af (aa T 3 rfl) (af (aa T 1 rfl) (af (az C13 hr T 7 rfl (af (aa T 9 rfl) (af (az C15 hr T 10 rfl (af (aa T 0 rfl) (af (aa T 3 rfl) (af (aa T 1 rfl) aq))) rfl (ag (ag (ag aw)))) aq)) rfl (ag (ag aw))) aq))) (ag (ag (ag aw))))))) cK)
      (aj (aR T 6 rfl (az C18 hr T 1 rfl (af (aa T 0 rfl) (af (aa T 1 rfl) (af (aa T 4 rfl) (af (aa T 8 rfl) aq)))) rfl (ag (ag (ag (ag aw))))))
      (aj (aR T 9 rfl (az C13 hr T 7 rfl (af (az C20 hr T 8 rfl (af (aa T 0 rfl) (af (aa T 4 rfl) (af (aa T 6 rfl) aq))) rfl (ag (ag (ag aw)))) (af (az C14 hr T 11 rfl (af (aM T.hu (ad (aa T 7 rfl)) (ad ak) (fun _ _=>rfl)) (af (aa T 8 rfl) aq)) rfl (ag (ag aw))) aq)) rfl (ag (ag aw))))
      (ar (aO (rY MK_Share I_Share (hr.mono hk) T 9 rfl m_Share B_Share (af (aa T 4 rfl) (af (az C19 hr T 4 rfl (af (aa T 6 rfl) aq) rfl (ag aw)) (af (aa T 9 rfl) aq))) (ag (ag (ag aw))))))))))))))))
theorem kg:aV ["ground","shares","winners","moves","share","number"] ["ground","shares"] (ai dh):=⟨rfl,rfl,rfl,by decide +kernel,rfl,by decide +kernel,by decide +kernel⟩
theorem ke (W:gN K "winners_and_moves" "winners_and_moves" dh f fd) {f13:Addr} {d13:FuncData} {aD:gO} (C13:hV P w K mg base k "moves_of_both" ["moves","others"] aD f13 d13) {f12:Addr} {d12:FuncData} {bP:gO} (C12:hV P w K mg base k "no_moves" ["ground"] bP f12 d12) (b_tuple:mg "tuple" = none) {c_Share:Addr} (cl_Share:xq K c_Share) (n_Share_moves:eI K c_Share "moves") (n_Share_places:eI K c_Share "places") (n_Share_who:eI K c_Share "who") :
    bg P w K mg base (cU P w mg) (k+1) f fd ["ground","shares"] (du (dM 6 (eF aD bP c_Share)) 2):=by
  refine aH W kg (G:=["no_moves","moves_of_both","tuple"]) (by decide +kernel) fun cdv A outer s H E hr T=>?_
  exact (aj (eZ 2 rfl (N:=["place"]) (own:=1) (G:=[]) (fr:=[]) T rfl rfl (oN:=["ground","shares","winners","moves","share","number"]) (on:=(ai dh).names) (by decide +kernel) (bN (aa T 0 rfl)) (bL (by decide)) (fun cl C s' H' fp E' T=>⟨(ba T 0 rfl),cu,cH⟩))
      (aj (aR T 3 rfl (az C12 hr T 0 rfl (af (aa T 0 rfl) aq) rfl (ag aw)))
      (aj (cJ (have T:=T.nox;eL PassesOwn.never T.calm (bN (aa T 1 rfl)) (ba T 4 rfl) (aj (cJ (have T:=T.nox;eL PassesOwn.never T.calm (bN (lv cl_Share n_Share_places (aa T 4 rfl))) (ba T 5 rfl) (ar (jR T 2 rfl (have T:=T.nox;(aa T 5 rfl)) (lv cl_Share n_Share_who (aa T 4 rfl))))))
      (ar (aR T 3 rfl (az C13 hr T 1 rfl (af (aa T 3 rfl) (af (lv cl_Share n_Share_moves (aa T 4 rfl)) aq)) rfl (ag (ag aw))))))))
      (ar (aO (jf (af (bw T 2 rfl b_tuple (ce T 2 rfl)) (af (aa T 3 rfl) aq))))))))
theorem l5:aV ["ground","inside","shares","left","share"] ["ground","inside"] (ai fM):=⟨rfl,rfl,rfl,by decide +kernel,rfl,by decide +kernel,by decide +kernel⟩
theorem l9 (W:gN K "winners_within" "winners_within" fM f fd) {f21:Addr} {d21:FuncData} {aW:gO} (C21:hV P w K mg base k "share_by_marks" ["ground","inside"] aW f21 d21) {f16:Addr} {d16:FuncData} {bc:gO} (C16:hV P w K mg base k "winners_and_moves" ["ground","shares"] bc f16 d16) {f11:Addr} {d11:FuncData} {bM:gO} (C11:hV P w K mg base k "without" ["some","others"] bM f11 d11) (b_len:mg "len" = none) {c_Share:Addr} (cl_Share:xq K c_Share) (n_Share_places:eI K c_Share "places") :
    bg P w K mg base (cU P w mg) (k+1) f fd ["ground","inside"] (du (dM 5 (eu aW bc bM c_Share)) 2):=by
  refine aH W l5 (G:=["len","share_by_marks","without","winners_and_moves"]) (by decide +kernel) fun cdv A outer s H E hr T=>?_
  exact (aj (gB T 2 rfl (fH aq))
      (aj (aR T 3 rfl (aa T 1 rfl))
      (aj (cJ (have T:=T.nox;kD 1000000 PassesOwn.never (kR (ad (cv T 0 rfl b_len (ad (aa T 3 rfl)))) (ad ak)) (aj (aR T 4 rfl (az C21 hr T 1 rfl (af (aa T 0 rfl) (af (aa T 3 rfl) aq)) rfl (ag (ag aw))))
      (aj (eY T 2 rfl (aa T 4 rfl))
      (ar (aR T 3 rfl (az C11 hr T 2 rfl (af (aa T 3 rfl) (af (lv cl_Share n_Share_places (aa T 4 rfl)) aq)) rfl (ag (ag aw)))))))))
      (ar (AM 2 (aO (az C16 hr T 3 rfl (af (aa T 0 rfl) (af (aa T 2 rfl) aq)) rfl (ag (ag aw)))))))))
theorem DL:aV ["ground"] ["ground"] (ai x5):=⟨rfl,rfl,rfl,by decide +kernel,rfl,by decide +kernel,by decide +kernel⟩
theorem Ev (W:gN K "won" "won" x5 f fd) {f9:Addr} {d9:FuncData} {cA:gO} (C9:hV P w K mg base k "all_places" ["ground"] cA f9 d9) {f22:Addr} {d22:FuncData} {aG:gO} (C22:hV P w K mg base k "winners_within" ["ground","inside"] aG f22 d22) :
    bg P w K mg base (cU P w mg) (k+1) f fd ["ground"] (du (dM 1 (zA cA aG)) 1):=by
  refine aH W DL (G:=["winners_within","all_places"]) (by decide +kernel) fun cdv A outer s H E hr T=>?_
  exact (ar (aO (az C22 hr T 0 rfl (af (aa T 0 rfl) (af (az C9 hr T 1 rfl (af (aa T 0 rfl) aq) rfl (ag aw)) aq)) rfl (ag (ag aw)))))
theorem DP:aV ["_law_script","_law_ground_here","_law_winners","_law_told","_law_k","_law_drawn_here","_law_start","_law_who","_law_mine","_law_place_here","_law_move","_law_other","_law_moves","_law_way","_law_ring"] ["_law_script"] (ai jH):=⟨rfl,rfl,rfl,by decide +kernel,rfl,by decide +kernel,by decide +kernel⟩
theorem DG (W:gN K "law" "law" jH f fd) {f31:Addr} {d31:FuncData} {ci:gO} (C31:hV P w K mg base k "_law_choice" ["_law_ground_here","_law_who","_law_number","_law_share"] ci f31 d31) {f26:Addr} {d26:FuncData} {aA:gO} (C26:hV P w K mg base k "_law_drawn" ["_law_number","_law_k"] aA f26 d26) {f29:Addr} {d29:FuncData} {cz:gO} (C29:hV P w K mg base k "_law_ground" ["_law_script","_law_most"] cz f29 d29) {f25:Addr} {d25:FuncData} {bn:gO} (C25:hV P w K mg base k "_law_mixed" ["_law_script","_law_k"] bn f25 d25) {f8:Addr} {d8:FuncData} {eK:gO} (C8:hV P w K mg base k "judged" ["ground","ring"] eK f8 d8) {f6:Addr} {d6:FuncData} {dD:gO} (C6:hV P w K mg base k "ring_of" ["ground","zero","one","start"] dD f6 d6) {f23:Addr} {d23:FuncData} {kZ:gO} (C23:hV P w K mg base k "won" ["ground"] kZ f23 d23) (b_all:mg "all" = none) (b_len:mg "len" = none) (b_range:mg "range" = none) (b_tuple:mg "tuple" = none) (b_zip:mg "zip" = none) :
    bg P w K mg base (cU P w mg) (k+1) f fd ["_law_script"] (du (dM 15 (yq ci aA cz bn eK dD kZ)) 1):=by
  refine aH W DP (G:=["_law_ground","won","range","len","zip","tuple","ring_of","all","judged"]) (by decide +kernel) fun cdv A outer s H E hr T=>?_
  exact (aj (aR T 1 rfl (az C29 hr T 0 rfl (af (aa T 0 rfl) (af ak aq)) rfl (ag (ag aw))))
      (aj (rO (az C23 hr T 1 rfl (af (aa T 1 rfl) aq) rfl (ag aw)) (dF T 2 3 rfl rfl))
      (aj (cJ (have T:=T.nox;eL PassesOwn.never T.calm (fR T 2 rfl b_range (af ak aq) (ag aw)) (ba T 4 rfl) (aj (ip (eZ 5 rfl (N:=["_law_who","_law_ground_here","_law_script","_law_k"]) (own:=1) (G:=["_law_choice","_law_drawn","_law_mixed"]) (fr:=[1,0,4]) T rfl rfl (oN:=["_law_script","_law_ground_here","_law_winners","_law_told","_law_k","_law_drawn_here","_law_start","_law_who","_law_mine","_law_place_here","_law_move","_law_other","_law_moves","_law_way","_law_ring"]) (on:=(ai jH).names) (by decide +kernel) (bN (jf (af ak (af ak aq)))) (bL (by decide)) (fun cl C s' H' fp E' T=>⟨(ba T 0 rfl),cu,(az C31 hr T 0 rfl (af (aa T 1 rfl) (af (aa T 0 rfl) (af (az C26 hr T 1 rfl (af (az C25 hr T 2 rfl (af (aa T 2 rfl) (af ak aq)) rfl (ag (ag aw))) (af (aa T 3 rfl) aq)) rfl (ag (ag aw))) (af ak aq)))) rfl (ag (ag (ag (ag aw)))))⟩)) (show 5 < 15 by decide))
      (ar (cJ (have T:=T.nox;eL PassesOwn.never T.calm (fR T 2 rfl b_range (af (cv T 3 rfl b_len (ad (aa T 1 rfl))) aq) (ag aw)) (ba T 6 rfl) (aj (aR T 7 rfl (aM T.hu (ad (aa T 2 rfl)) (ad (aa T 6 rfl)) (fun _ _=>rfl)))
      (aj (gB T 8 rfl (fH aq))
      (aj (cJ (have T:=T.nox;eL PassesOwn.never T.calm (wF T 4 rfl b_zip (aa T 1 rfl) (aa T 3 rfl) (aM T.hu (ad (aa T 5 rfl)) (ad (aa T 7 rfl)) (fun _ _=>rfl))) (yc T 9 10 11 rfl rfl rfl) (ar (cX (hZ (ik (lO (ad (aa T 10 rfl)) (ad cH)) (gw (kT T.hu (ad (aM T.hu (ad (aa T 9 rfl)) (ad ak) (fun _ _=>rfl))) (ad (aa T 7 rfl)))))) (ar (eY T 8 rfl (aa T 11 rfl))) (ar (eY T 8 rfl (aa T 10 rfl)))))))
      (aj (aR T 12 rfl (nz (fH (af (bw T 5 rfl b_tuple (ce T 8 rfl)) (af (aM T.hu (ad (aa T 5 rfl)) (ad ak) (fun _ _=>rfl)) aq)))))
      (aj (cX (dQ T.hu (ad (aa T 7 rfl)) (ad ak)) (ar (aR T 12 rfl (nz (fH (af (aM T.hu (ad (aa T 5 rfl)) (ad ak) (fun _ _=>rfl)) (af (bw T 5 rfl b_tuple (ce T 8 rfl)) aq)))))) cK)
      (aj (rO (az C6 hr T 6 rfl (af (aa T 1 rfl) (af (aM T.hu (ad (aa T 12 rfl)) (ad ak) (fun _ _=>rfl)) (af (aM T.hu (ad (aa T 12 rfl)) (ad ak) (fun _ _=>rfl)) (af (aa T 6 rfl) aq)))) rfl (ag (ag (ag (ag aw))))) (dF T 13 14 rfl rfl))
      (ar (cX (hZ (ik (eX (eA (lc T 7 rfl b_all (cW (bq (N:=["_law_place_here","_law_winners","_law_who"]) (own:=1) (G:=[]) (fr:=[2,7]) T rfl rfl (oN:=["_law_script","_law_ground_here","_law_winners","_law_told","_law_k","_law_drawn_here","_law_start","_law_who","_law_mine","_law_place_here","_law_move","_law_other","_law_moves","_law_way","_law_ring"]) (on:=(ai jH).names) (by decide +kernel) (bN (cN (ad (aa T 13 rfl)) (ad (aa T 14 rfl)))) (bL (by decide)) (fun cl C s' H' fp E' T=>⟨(ba T 0 rfl),cu,(qM T.hu (ad (aM T.hu (ad (aa T 1 rfl)) (ad (aa T 0 rfl)) (fun _ _=>rfl))) (ad (aa T 2 rfl)))⟩)))))) (gw (kT T.hu (ad (az C8 hr T 8 rfl (af (aa T 1 rfl) (af (aa T 14 rfl) aq)) rfl (ag (ag aw)))) (ad (aa T 7 rfl)))))) (ar (aO gx)) cK))))))))))))))
      (ar (aO gx)))))
end
noncomputable def F0:List PyData->R PyData:=fun ds=>open Classical in if ∃ ns:List Int,ns.length<=63/\ds=[.list (ns.map .int)] then .ok (.bool true) else .no
theorem u9:xt F0:=fun ns h=>if_pos ⟨ns,h,rfl⟩
theorem DF {c_Share:Addr} (vs:List V) (H:Hp) (Q:VK) (E:XK) (h:du F0 1 vs H Q E):du (vD c_Share) 1 vs H Q E:=by
  obtain ⟨ds,r,hl,q⟩:=h;refine ⟨ds,r,hl,?_⟩;by_cases hd:∃ ns:List Int,ns.length<=63/\ds=[.list (ns.map .int)]
  · obtain ⟨ns,h1,rfl⟩:=hd;rw [u9 ns h1] at q;rw [yL c_Share ns h1];exact q
  · unfold F0 at q;rw [if_neg hd] at q;exact q.elim
theorem Cv {l:PySem.W.OpenLaw} {w:World} {K:PySem.W.Frag} {h:Heap} {mg:Str->Option Value} {fa:Addr} (X:K.In h) (G:h.Ns mainGlobals mg) (hfa:mg "law" = some (.ref fa))
    {f31:Addr} {od31 an31:Option Addr} {sl31:Array (Option Value)} {oc31 kV31 dc31 pm31 cd31 ct31:Value}
    {f0:Addr} {d0:FuncData} (q0:cD K "_law_drawn" jF f0 d0)
    {f1:Addr} {d1:FuncData} (q1:cD K "_law_choice" iT f1 d1)
    {f2:Addr} {d2:FuncData} (q2:cD K "_law_cell_at" ia f2 d2)
    {f3:Addr} {d3:FuncData} (q3:cD K "_law_mixed" jk f3 d3)
    {f4:Addr} {d4:FuncData} (q4:cD K "_law_goals" ju f4 d4)
    {f5:Addr} {d5:FuncData} (q5:cD K "_law_place" jd f5 d5)
    {f6:Addr} {d6:FuncData} (q6:cD K "_law_ground" gq f6 d6)
    {f7:Addr} {d7:FuncData} (q7:cD K "is_whole" kC f7 d7)
    {f8:Addr} {d8:FuncData} (q8:cD K "is_between" iC f8 d8)
    {f9:Addr} {d9:FuncData} (q9:cD K "is_number_of_place" dR f9 d9)
    {f10:Addr} {d10:FuncData} (q10:cD K "is_ring" iw f10 d10)
    {f11:Addr} {d11:FuncData} (q11:cD K "judged" lF f11 d11)
    {f12:Addr} {d12:FuncData} (q12:cD K "is_move" lW f12 d12)
    {f13:Addr} {d13:FuncData} (q13:cD K "are_moves" hW f13 d13)
    {f14:Addr} {d14:FuncData} (q14:cD K "moves_by_owners" dL f14 d14)
    {f15:Addr} {d15:FuncData} (q15:cD K "ring_of" lJ f15 d15)
    {f16:Addr} {d16:FuncData} (q16:cD K "all_places" iR f16 d16)
    {f17:Addr} {d17:FuncData} (q17:cD K "moves_at" iF f17 d17)
    {f18:Addr} {d18:FuncData} (q18:cD K "moves_of_both" eQ f18 d18)
    {f19:Addr} {d19:FuncData} (q19:cD K "ranked" kS f19 d19)
    {f20:Addr} {d20:FuncData} (q20:cD K "pulling_moves" dw f20 d20)
    {f21:Addr} {d21:FuncData} (q21:cD K "common" lA f21 d21)
    {f22:Addr} {d22:FuncData} (q22:cD K "is_forced" gS f22 d22)
    {f23:Addr} {d23:FuncData} (q23:cD K "ranks_to" eU f23 d23)
    {f24:Addr} {d24:FuncData} (q24:cD K "no_moves" iP f24 d24)
    {f25:Addr} {d25:FuncData} (q25:cD K "staying_moves" gh f25 d25)
    {f26:Addr} {d26:FuncData} (q26:cD K "without" jL f26 d26)
    {f27:Addr} {d27:FuncData} (q27:cD K "share_by_marks" cI f27 d27)
    {f28:Addr} {d28:FuncData} (q28:cD K "winners_and_moves" dh f28 d28)
    {f29:Addr} {d29:FuncData} (q29:cD K "winners_within" fM f29 d29)
    {f30:Addr} {d30:FuncData} (q30:cD K "won" x5 f30 d30)
    (a31:PySem.W.nsIn K mainGlobals "law" = some (some (.ref f31))) (l31:K.lookup f31=some ⟨oc31,od31,.func (PySem.W.fnOf "law" "law" (dZ jH) (cV jH) (ai jH) .none kV31 dc31 pm31 an31 cd31 ct31),sl31⟩) (c31:PySem.W.codeIn K cd31 "law" = true) (k31:PySem.W.keepIn K (.ref f31)=true)
    {t0:Tok} (qg0:PySem.W.nsIn K mainGlobals "GOALS" = some (some (.int 3 t0)))
    {t1:Tok} (qg1:PySem.W.nsIn K mainGlobals "MARK" = some (some (.int 1 t1)))
    {t2:Tok} (qg2:PySem.W.nsIn K mainGlobals "WHO" = some (some (.int 0 t2)))
    (qz0:PySem.W.nsIn K mainGlobals "all" = some none)
    (qz1:PySem.W.nsIn K mainGlobals "bool" = some none)
    (qz2:PySem.W.nsIn K mainGlobals "enumerate" = some none)
    (qz3:PySem.W.nsIn K mainGlobals "int" = some none)
    (qz4:PySem.W.nsIn K mainGlobals "isinstance" = some none)
    (qz5:PySem.W.nsIn K mainGlobals "len" = some none)
    (qz6:PySem.W.nsIn K mainGlobals "list" = some none)
    (qz7:PySem.W.nsIn K mainGlobals "max" = some none)
    (qz8:PySem.W.nsIn K mainGlobals "min" = some none)
    (qz9:PySem.W.nsIn K mainGlobals "range" = some none)
    (qz10:PySem.W.nsIn K mainGlobals "sorted" = some none)
    (qz11:PySem.W.nsIn K mainGlobals "tuple" = some none)
    (qz12:PySem.W.nsIn K mainGlobals "zip" = some none)
    {cc0:Addr} (qm0:PySem.W.nsIn K mainGlobals "NoMoves" = some (some (.ref cc0))) (qq0:PySem.W.excIn K cc0 Bl Av=true)
    {cc1:Addr} (qm1:PySem.W.nsIn K mainGlobals "NoPart" = some (some (.ref cc1))) (qq1:PySem.W.excIn K cc1 Bl Av=true)
    {c_Share fi_Share:Addr} {od_Share an_Share:Option Addr} {sl_Share:Array (Option Value)} {oc_Share kV_Share dc_Share pm_Share cd_Share ct_Share:Value}
    (qa_Share:PySem.W.nsIn K mainGlobals "Share" = some (some (.ref c_Share)))
    (qi_Share:PySem.W.findIn K (.ref c_Share) "__init__" = some (some (.ref fi_Share))) (qf_Share:PySem.W.isFn K (.ref fi_Share)=true)
    (ql_Share:K.lookup fi_Share=some ⟨oc_Share,od_Share,.func (PySem.W.fnOf "__init__" "Share.__init__" (dZ jW) (cV jW) (ai jW) .none kV_Share dc_Share pm_Share an_Share cd_Share ct_Share),sl_Share⟩)
    (qc_Share:PySem.W.codeIn K cd_Share "Share.__init__" = true) (qk_Share:PySem.W.keepIn K (.ref fi_Share)=true)
    (qpg_Share:PySem.W.plainGet K c_Share Str.empty=true) (qhd_Share:PySem.W.hasDictIn K c_Share=true) (qpo_Share:PySem.W.plainOver K c_Share=true) (qsa_Share:PySem.W.findIn K (.ref c_Share) "__setattr__" = some (some (.builtin "object.__setattr__"))) (qmk_Share:PySem.W.makesIn K c_Share=true) (qkc_Share:PySem.W.keepIn K (.ref c_Share)=true)
    (qn_Share_who:PySem.W.findIn K (.ref c_Share) "who" = some none)
    (qn_Share_places:PySem.W.findIn K (.ref c_Share) "places" = some none)
    (qn_Share_moves:PySem.W.findIn K (.ref c_Share) "moves" = some none)
    (nl:nF K=true) :
    nF K=true/\∃ fd:FuncData,(∀ (s:Shared) (v:Value),BindsTo s fd ⟨[v],[]⟩ [("_law_script",v)])/\∀ base:Heap,K.In base->base.Ns mainGlobals mg->bg l.prog w K mg base (cU l.prog w mg) 33 fa fd ["_law_script"] (du F0 1):=by
  have e:=hfa.symm.trans (PySem.W.mg_of X G a31);cases e;have b0:bF K d0 ["_law_number","_law_k"] []:=rH q0.fn fun _ _ _ _ _ _ _ _=>rfl
  have m0:=PySem.W.mg_of X G q0.ns;have b1:bF K d1 ["_law_ground_here","_law_who","_law_number","_law_share"] []:=ET q1.fn fun _ _ _ _ _ _ _ _ _ _=>rfl
  have m1:=PySem.W.mg_of X G q1.ns;have b2:bF K d2 ["_law_script","_law_k"] []:=rH q2.fn fun _ _ _ _ _ _ _ _=>rfl
  have m2:=PySem.W.mg_of X G q2.ns;have b3:bF K d3 ["_law_script","_law_k"] []:=rH q3.fn fun _ _ _ _ _ _ _ _=>rfl
  have m3:=PySem.W.mg_of X G q3.ns;have b4:bF K d4 ["_law_number","_law_count"] []:=rH q4.fn fun _ _ _ _ _ _ _ _=>rfl
  have m4:=PySem.W.mg_of X G q4.ns;have b5:bF K d5 ["_law_number","_law_count","_law_high"] []:=DX q5.fn fun _ _ _ _ _ _ _ _ _=>rfl
  have m5:=PySem.W.mg_of X G q5.ns;have b6:bF K d6 ["_law_script","_law_most"] []:=rH q6.fn fun _ _ _ _ _ _ _ _=>rfl
  have m6:=PySem.W.mg_of X G q6.ns;have b7:bF K d7 ["thing"] []:=DR q7.fn fun _ _ _ _ _ _ _=>rfl
  have m7:=PySem.W.mg_of X G q7.ns;have b8:bF K d8 ["thing","low","high"] []:=DX q8.fn fun _ _ _ _ _ _ _ _ _=>rfl
  have m8:=PySem.W.mg_of X G q8.ns;have b9:bF K d9 ["thing","ground"] []:=rH q9.fn fun _ _ _ _ _ _ _ _=>rfl
  have m9:=PySem.W.mg_of X G q9.ns;have b10:bF K d10 ["thing","ground"] []:=rH q10.fn fun _ _ _ _ _ _ _ _=>rfl
  have m10:=PySem.W.mg_of X G q10.ns;have b11:bF K d11 ["ground","ring"] []:=rH q11.fn fun _ _ _ _ _ _ _ _=>rfl
  have m11:=PySem.W.mg_of X G q11.ns;have b12:bF K d12 ["thing","place"] []:=rH q12.fn fun _ _ _ _ _ _ _ _=>rfl
  have m12:=PySem.W.mg_of X G q12.ns;have b13:bF K d13 ["thing","ground"] []:=rH q13.fn fun _ _ _ _ _ _ _ _=>rfl
  have m13:=PySem.W.mg_of X G q13.ns;have b14:bF K d14 ["ground","zero","one"] []:=DX q14.fn fun _ _ _ _ _ _ _ _ _=>rfl
  have m14:=PySem.W.mg_of X G q14.ns;have b15:bF K d15 ["ground","zero","one","start"] []:=ET q15.fn fun _ _ _ _ _ _ _ _ _ _=>rfl
  have m15:=PySem.W.mg_of X G q15.ns;have b16:bF K d16 ["ground"] []:=DR q16.fn fun _ _ _ _ _ _ _=>rfl
  have m16:=PySem.W.mg_of X G q16.ns;have b17:bF K d17 ["moves","places"] []:=rH q17.fn fun _ _ _ _ _ _ _ _=>rfl
  have m17:=PySem.W.mg_of X G q17.ns;have b18:bF K d18 ["moves","others"] []:=rH q18.fn fun _ _ _ _ _ _ _ _=>rfl
  have m18:=PySem.W.mg_of X G q18.ns;have b19:bF K d19 ["ranks"] []:=DR q19.fn fun _ _ _ _ _ _ _=>rfl
  have m19:=PySem.W.mg_of X G q19.ns;have b20:bF K d20 ["ground","who","ranks"] []:=DX q20.fn fun _ _ _ _ _ _ _ _ _=>rfl
  have m20:=PySem.W.mg_of X G q20.ns;have b21:bF K d21 ["some","others"] []:=rH q21.fn fun _ _ _ _ _ _ _ _=>rfl
  have m21:=PySem.W.mg_of X G q21.ns;have b22:bF K d22 ["place","ways","who","ranks"] []:=ET q22.fn fun _ _ _ _ _ _ _ _ _ _=>rfl
  have m22:=PySem.W.mg_of X G q22.ns;have b23:bF K d23 ["ground","inside","who","goals"] []:=ET q23.fn fun _ _ _ _ _ _ _ _ _ _=>rfl
  have m23:=PySem.W.mg_of X G q23.ns;have b24:bF K d24 ["ground"] []:=DR q24.fn fun _ _ _ _ _ _ _=>rfl
  have m24:=PySem.W.mg_of X G q24.ns;have b25:bF K d25 ["ground","who","part"] []:=DX q25.fn fun _ _ _ _ _ _ _ _ _=>rfl
  have m25:=PySem.W.mg_of X G q25.ns;have b26:bF K d26 ["some","others"] []:=rH q26.fn fun _ _ _ _ _ _ _ _=>rfl
  have m26:=PySem.W.mg_of X G q26.ns;have b27:bF K d27 ["ground","inside"] []:=rH q27.fn fun _ _ _ _ _ _ _ _=>rfl
  have m27:=PySem.W.mg_of X G q27.ns;have b28:bF K d28 ["ground","shares"] []:=rH q28.fn fun _ _ _ _ _ _ _ _=>rfl
  have m28:=PySem.W.mg_of X G q28.ns;have b29:bF K d29 ["ground","inside"] []:=rH q29.fn fun _ _ _ _ _ _ _ _=>rfl
  have m29:=PySem.W.mg_of X G q29.ns;have b30:bF K d30 ["ground"] []:=DR q30.fn fun _ _ _ _ _ _ _=>rfl
  have m30:=PySem.W.mg_of X G q30.ns;have F31:=uw (st:=jH) l31 c31 k31;have FF_Share:=uw (st:=jW) ql_Share qc_Share qk_Share;have bb_Share:=FF_Share.binds (ps:=["self","who","places","moves"]) fun _ _ _ _ _ _ us hl=>match us,hl with | [_,_,_,_],_=>rfl
  have mm_Share:=PySem.W.mg_of X G qa_Share;have ccl_Share:xq K c_Share:=⟨qpg_Share,qhd_Share,qpo_Share,qsa_Share⟩
  have h0:=PySem.W.mg_of X G qg0;have h1:=PySem.W.mg_of X G qg1;have h2:=PySem.W.mg_of X G qg2;have n0:=PySem.W.mg_of X G qm0;have n1:=PySem.W.mg_of X G qm1;have y0:=PySem.W.mg_none_of X G qz0;have y1:=PySem.W.mg_none_of X G qz1;have y2:=PySem.W.mg_none_of X G qz2;have y3:=PySem.W.mg_none_of X G qz3;have y4:=PySem.W.mg_none_of X G qz4;have y5:=PySem.W.mg_none_of X G qz5;have y6:=PySem.W.mg_none_of X G qz6;have y7:=PySem.W.mg_none_of X G qz7;have y8:=PySem.W.mg_none_of X G qz8;have y9:=PySem.W.mg_none_of X G qz9;have y10:=PySem.W.mg_none_of X G qz10;have y11:=PySem.W.mg_none_of X G qz11;have y12:=PySem.W.mg_none_of X G qz12;refine ⟨nl,PySem.W.fnOf "law" "law" (dZ jH) (cV jH) (ai jH) .none kV31 dc31 pm31 an31 cd31 ct31,fun s v=>.of_eq rfl,fun base _ _=>?_⟩;have QI_Share:bg l.prog w K mg base (cU l.prog w mg) 1 fi_Share _ ["self","who","places","moves"] (EH c_Share ["who","places","moves"]):=zO FF_Share ccl_Share qn_Share_who qn_Share_places qn_Share_moves;have Q0:bg l.prog w K mg base (cU l.prog w mg) 1 f0 _ ["_law_number","_law_k"] (du aA 2):=sU (k:=0) (W:=q0.fn);have Q1:bg l.prog w K mg base (cU l.prog w mg) 2 f1 _ ["_law_ground_here","_law_who","_law_number","_law_share"] (du ci 4):=qH (k:=1) (W:=q1.fn) (C26:=⟨Q0.mono (by decide),m0,q0.fn.kp,b0⟩) (b_enumerate:=y2) (b_len:=y5) (b_tuple:=y11);have Q2:bg l.prog w K mg base (cU l.prog w mg) 1 f2 _ ["_law_script","_law_k"] (du cg 2):=o7 (k:=0) (W:=q2.fn) (b_len:=y5);have Q3:bg l.prog w K mg base (cU l.prog w mg) 2 f3 _ ["_law_script","_law_k"] (du bn 2):=r8 (k:=1) (W:=q3.fn) (C24:=⟨Q2.mono (by decide),m2,q2.fn.kp,b2⟩);have Q4:bg l.prog w K mg base (cU l.prog w mg) 2 f4 _ ["_law_number","_law_count"] (du cY 2):=rX (k:=1) (W:=q4.fn) (C26:=⟨Q0.mono (by decide),m0,q0.fn.kp,b0⟩) (b_int:=y3) (b_range:=y9) (b_sorted:=y10) (b_tuple:=y11);have Q5:bg l.prog w K mg base (cU l.prog w mg) 3 f5 _ ["_law_number","_law_count","_law_high"] (du cF 3):=sf (k:=2) (W:=q5.fn) (C26:=⟨Q0.mono (by decide),m0,q0.fn.kp,b0⟩) (C27:=⟨Q4.mono (by decide),m4,q4.fn.kp,b4⟩);have Q6:bg l.prog w K mg base (cU l.prog w mg) 4 f6 _ ["_law_script","_law_most"] (du cz 2):=qQ (k:=3) (W:=q6.fn) (C25:=⟨Q3.mono (by decide),m3,q3.fn.kp,b3⟩) (C28:=⟨Q5.mono (by decide),m5,q5.fn.kp,b5⟩) (b_len:=y5) (b_max:=y7) (b_min:=y8) (b_range:=y9) (b_tuple:=y11);have Q7:bg l.prog w K mg base (cU l.prog w mg) 1 f7 _ ["thing"] (du bV 1):=tJ (k:=0) (W:=q7.fn) (b_bool:=y1) (b_int:=y3) (b_isinstance:=y4);have Q8:bg l.prog w K mg base (cU l.prog w mg) 2 f8 _ ["thing","low","high"] (du cy 3):=qv (k:=1) (W:=q8.fn) (C0:=⟨Q7.mono (by decide),m7,q7.fn.kp,b7⟩);have Q9:bg l.prog w K mg base (cU l.prog w mg) 3 f9 _ ["thing","ground"] (du aB 2):=jy (k:=2) (W:=q9.fn) (C1:=⟨Q8.mono (by decide),m8,q8.fn.kp,b8⟩) (b_len:=y5);have Q10:bg l.prog w K mg base (cU l.prog w mg) 4 f10 _ ["thing","ground"] (du di 2):=vY (k:=3) (W:=q10.fn) (C4:=⟨Q9.mono (by decide),m9,q9.fn.kp,b9⟩) (g_GOALS:=h0) (b_all:=y0) (b_isinstance:=y4) (b_len:=y5) (b_tuple:=y11) (b_zip:=y12);have Q11:bg l.prog w K mg base (cU l.prog w mg) 5 f11 _ ["ground","ring"] (du eK 2):=zC (k:=4) (W:=q11.fn) (C7:=⟨Q10.mono (by decide),m10,q10.fn.kp,b10⟩) (g_MARK:=h1) (b_max:=y7) (m_NoPart:=n1) (q_NoPart:=qq1);have Q12:bg l.prog w K mg base (cU l.prog w mg) 2 f12 _ ["thing","place"] (du dB 2):=wQ (k:=1) (W:=q12.fn) (C0:=⟨Q7.mono (by decide),m7,q7.fn.kp,b7⟩) (g_GOALS:=h0);have Q13:bg l.prog w K mg base (cU l.prog w mg) 3 f13 _ ["thing","ground"] (du cE 2):=rZ (k:=2) (W:=q13.fn) (C2:=⟨Q12.mono (by decide),m12,q12.fn.kp,b12⟩) (b_all:=y0) (b_isinstance:=y4) (b_len:=y5) (b_tuple:=y11) (b_zip:=y12);have Q14:bg l.prog w K mg base (cU l.prog w mg) 1 f14 _ ["ground","zero","one"] (du bz 3):=kW (k:=0) (W:=q14.fn) (g_WHO:=h2) (b_enumerate:=y2) (b_tuple:=y11);have Q15:bg l.prog w K mg base (cU l.prog w mg) 4 f15 _ ["ground","zero","one","start"] (du dD 4):=vT (k:=3) (W:=q15.fn) (C3:=⟨Q13.mono (by decide),m13,q13.fn.kp,b13⟩) (C4:=⟨Q9.mono (by decide),m9,q9.fn.kp,b9⟩) (C5:=⟨Q14.mono (by decide),m14,q14.fn.kp,b14⟩) (b_tuple:=y11) (m_NoMoves:=n0) (q_NoMoves:=qq0) (m_NoPart:=n1) (q_NoPart:=qq1);have Q16:bg l.prog w K mg base (cU l.prog w mg) 1 f16 _ ["ground"] (du cA 1):=qu (k:=0) (W:=q16.fn) (b_len:=y5) (b_range:=y9) (b_tuple:=y11);have Q17:bg l.prog w K mg base (cU l.prog w mg) 1 f17 _ ["moves","places"] (du cL 2):=uA (k:=0) (W:=q17.fn) (b_enumerate:=y2) (b_tuple:=y11);have Q18:bg l.prog w K mg base (cU l.prog w mg) 1 f18 _ ["moves","others"] (du aD 2):=nh (k:=0) (W:=q18.fn) (b_tuple:=y11) (b_zip:=y12);have Q19:bg l.prog w K mg base (cU l.prog w mg) 1 f19 _ ["ranks"] (du ca 1):=xH (k:=0) (W:=q19.fn) (b_enumerate:=y2) (b_tuple:=y11);have Q20:bg l.prog w K mg base (cU l.prog w mg) 2 f20 _ ["ground","who","ranks"] (du bf 3):=nq (k:=1) (W:=q20.fn) (C19:=⟨Q19.mono (by decide),m19,q19.fn.kp,b19⟩) (g_GOALS:=h0) (g_WHO:=h2) (b_tuple:=y11);have Q21:bg l.prog w K mg base (cU l.prog w mg) 1 f21 _ ["some","others"] (du cb 2):=yE (k:=0) (W:=q21.fn) (b_tuple:=y11);have Q22:bg l.prog w K mg base (cU l.prog w mg) 1 f22 _ ["place","ways","who","ranks"] (du bQ 4):=rl (k:=0) (W:=q22.fn) (g_WHO:=h2) (b_len:=y5);have Q23:bg l.prog w K mg base (cU l.prog w mg) 2 f23 _ ["ground","inside","who","goals"] (du cs 4):=t6 (k:=1) (W:=q23.fn) (C10:=⟨Q21.mono (by decide),m21,q21.fn.kp,b21⟩) (C17:=⟨Q22.mono (by decide),m22,q22.fn.kp,b22⟩) (g_GOALS:=h0) (b_len:=y5) (b_list:=y6) (b_range:=y9) (b_tuple:=y11);have Q24:bg l.prog w K mg base (cU l.prog w mg) 1 f24 _ ["ground"] (du bP 1):=tZ (k:=0) (W:=q24.fn) (b_tuple:=y11);have Q25:bg l.prog w K mg base (cU l.prog w mg) 2 f25 _ ["ground","who","part"] (du bt 3):=mZ (k:=1) (W:=q25.fn) (C10:=⟨Q21.mono (by decide),m21,q21.fn.kp,b21⟩) (C12:=⟨Q24.mono (by decide),m24,q24.fn.kp,b24⟩) (g_GOALS:=h0) (g_WHO:=h2) (b_list:=y6) (b_tuple:=y11);have Q26:bg l.prog w K mg base (cU l.prog w mg) 1 f26 _ ["some","others"] (du bM 2):=xj (k:=0) (W:=q26.fn) (b_tuple:=y11);have Q28:bg l.prog w K mg base (cU l.prog w mg) 2 f28 _ ["ground","shares"] (du (bc c_Share) 2):=ke (k:=1) (W:=q28.fn) (C13:=⟨Q18.mono (by decide),m18,q18.fn.kp,b18⟩) (C12:=⟨Q24.mono (by decide),m24,q24.fn.kp,b24⟩) (b_tuple:=y11) (cl_Share:=ccl_Share) (n_Share_moves:=qn_Share_moves) (n_Share_places:=qn_Share_places) (n_Share_who:=qn_Share_who);have HH29:∀ n,bg l.prog w K mg base (cU l.prog w mg) (2*n+3) f29 _ ["ground","inside"] (du (aG c_Share n) 2)->bg l.prog w K mg base (cU l.prog w mg) (2*n+4) f27 _ ["ground","inside"] (du (aW c_Share n) 2):=fun n ih=>lI (k:=2*n+3) (W:=q27.fn) (C22:=⟨ih,m29,q29.fn.kp,b29⟩) (C14:=⟨Q17.mono (by omega),m17,q17.fn.kp,b17⟩) (C13:=⟨Q18.mono (by omega),m18,q18.fn.kp,b18⟩) (C20:=⟨Q20.mono (by omega),m20,q20.fn.kp,b20⟩) (C19:=⟨Q19.mono (by omega),m19,q19.fn.kp,b19⟩) (C18:=⟨Q23.mono (by omega),m23,q23.fn.kp,b23⟩) (C15:=⟨Q25.mono (by omega),m25,q25.fn.kp,b25⟩) (C11:=⟨Q26.mono (by omega),m26,q26.fn.kp,b26⟩) (g_MARK:=h1) (b_enumerate:=y2) (b_len:=y5) (b_max:=y7) (cl_Share:=ccl_Share) (n_Share_moves:=qn_Share_moves) (n_Share_places:=qn_Share_places) (n_Share_who:=qn_Share_who) (m_Share:=mm_Share) (MK_Share:=⟨qmk_Share,qi_Share,qf_Share,qkc_Share⟩) (I_Share:=QI_Share) (B_Share:=bb_Share) (hk:=by omega)
  have Q29:∀ n,bg l.prog w K mg base (cU l.prog w mg) (2*n+3) f29 _ ["ground","inside"] (du (aG c_Share n) 2):=fun n=>by
    induction n with
    | zero=>exact w6
    | succ n ih=>exact l9 (k:=2*n+4) (W:=q29.fn) (C21:=⟨HH29 n ih,m27,q27.fn.kp,b27⟩) (C16:=⟨Q28.mono (by omega),m28,q28.fn.kp,b28⟩) (C11:=⟨Q26.mono (by omega),m26,q26.fn.kp,b26⟩) (b_len:=y5) (cl_Share:=ccl_Share) (n_Share_places:=qn_Share_places)
  have Q29:=Q29 14;have Q30:bg l.prog w K mg base (cU l.prog w mg) 32 f30 _ ["ground"] (du (kZ c_Share) 1):=Ev (k:=31) (W:=q30.fn) (C9:=⟨Q16.mono (by decide),m16,q16.fn.kp,b16⟩) (C22:=⟨Q29.mono (by decide),m29,q29.fn.kp,b29⟩);have Q31:bg l.prog w K mg base (cU l.prog w mg) 33 fa _ ["_law_script"] (du (vD c_Share) 1):=DG (k:=32) (W:=F31) (C31:=⟨Q1.mono (by decide),m1,q1.fn.kp,b1⟩) (C26:=⟨Q0.mono (by decide),m0,q0.fn.kp,b0⟩) (C29:=⟨Q6.mono (by decide),m6,q6.fn.kp,b6⟩) (C25:=⟨Q3.mono (by decide),m3,q3.fn.kp,b3⟩) (C8:=⟨Q11.mono (by decide),m11,q11.fn.kp,b11⟩) (C6:=⟨Q15.mono (by decide),m15,q15.fn.kp,b15⟩) (C23:=⟨Q30.mono (by decide),m30,q30.fn.kp,b30⟩) (b_all:=y0) (b_len:=y5) (b_range:=y9) (b_tuple:=y11) (b_zip:=y12);exact Q31.imp DF
end G
open PySem PySem.W PyProof.Rows
set_option maxRecDepth 100000 in
set_option maxHeartbeats 0 in
theorem PySem.Challenge.cw_duelground_k51_whole_plays_holds : PySem.Challenge.rw_duelground_k51_whole_plays.Holds := by
  w_on;o_law;k_head;(case hw=>w_witness2)
  k_fill
  refine D2.Fh (l:=PySem.Challenge.rw_duelground_k51_whole_plays) (k:=33) (x := "_law_script") (F:=G.F0) rfl rfl ⟨rfl,by decide,by decide⟩ (fun w h Y=>PySem.W.kIn_of Y) G.u9 ?F
  case F =>
    intro w mg fa h KX GG hmg;refine' G.Cv KX GG hmg ?q0 ?q1 ?q2 ?q3 ?q4 ?q5 ?q6 ?q7 ?q8 ?q9 ?q10 ?q11 ?q12 ?q13 ?q14 ?q15 ?q16 ?q17 ?q18 ?q19 ?q20 ?q21 ?q22 ?q23 ?q24 ?q25 ?q26 ?q27 ?q28 ?q29 ?q30 ?a31 ?l31 ?c31 ?k31 ?qg0 ?qg1 ?qg2 ?qz0 ?qz1 ?qz2 ?qz3 ?qz4 ?qz5 ?qz6 ?qz7 ?qz8 ?qz9 ?qz10 ?qz11 ?qz12 ?qm0 ?qq0 ?qm1 ?qq1 ?qa_Share ?qi_Share ?qf_Share ?ql_Share ?qc_Share ?qk_Share ?qpg_Share ?qhd_Share ?qpo_Share ?qsa_Share ?qmk_Share ?qkc_Share ?qn_Share_who ?qn_Share_places ?qn_Share_moves ?nl
    (case q0=>refine' D2.aZ ?a ?l ?c ?k;(case a=>k_is);(case l=>k_is);(case c=>k_is);(case k=>k_is))
    (case q1=>refine' D2.aZ ?a ?l ?c ?k;(case a=>k_is);(case l=>k_is);(case c=>k_is);(case k=>k_is))
    (case q2=>refine' D2.aZ ?a ?l ?c ?k;(case a=>k_is);(case l=>k_is);(case c=>k_is);(case k=>k_is))
    (case q3=>refine' D2.aZ ?a ?l ?c ?k;(case a=>k_is);(case l=>k_is);(case c=>k_is);(case k=>k_is))
    (case q4=>refine' D2.aZ ?a ?l ?c ?k;(case a=>k_is);(case l=>k_is);(case c=>k_is);(case k=>k_is))
    (case q5=>refine' D2.aZ ?a ?l ?c ?k;(case a=>k_is);(case l=>k_is);(case c=>k_is);(case k=>k_is))
    (case q6=>refine' D2.aZ ?a ?l ?c ?k;(case a=>k_is);(case l=>k_is);(case c=>k_is);(case k=>k_is))
    (case q7=>refine' D2.aZ ?a ?l ?c ?k;(case a=>k_is);(case l=>k_is);(case c=>k_is);(case k=>k_is))
    (case q8=>refine' D2.aZ ?a ?l ?c ?k;(case a=>k_is);(case l=>k_is);(case c=>k_is);(case k=>k_is))
    (case q9=>refine' D2.aZ ?a ?l ?c ?k;(case a=>k_is);(case l=>k_is);(case c=>k_is);(case k=>k_is))
    (case q10=>refine' D2.aZ ?a ?l ?c ?k;(case a=>k_is);(case l=>k_is);(case c=>k_is);(case k=>k_is))
    (case q11=>refine' D2.aZ ?a ?l ?c ?k;(case a=>k_is);(case l=>k_is);(case c=>k_is);(case k=>k_is))
    (case q12=>refine' D2.aZ ?a ?l ?c ?k;(case a=>k_is);(case l=>k_is);(case c=>k_is);(case k=>k_is))
    (case q13=>refine' D2.aZ ?a ?l ?c ?k;(case a=>k_is);(case l=>k_is);(case c=>k_is);(case k=>k_is))
    (case q14=>refine' D2.aZ ?a ?l ?c ?k;(case a=>k_is);(case l=>k_is);(case c=>k_is);(case k=>k_is))
    (case q15=>refine' D2.aZ ?a ?l ?c ?k;(case a=>k_is);(case l=>k_is);(case c=>k_is);(case k=>k_is))
    (case q16=>refine' D2.aZ ?a ?l ?c ?k;(case a=>k_is);(case l=>k_is);(case c=>k_is);(case k=>k_is))
    (case q17=>refine' D2.aZ ?a ?l ?c ?k;(case a=>k_is);(case l=>k_is);(case c=>k_is);(case k=>k_is))
    (case q18=>refine' D2.aZ ?a ?l ?c ?k;(case a=>k_is);(case l=>k_is);(case c=>k_is);(case k=>k_is))
    (case q19=>refine' D2.aZ ?a ?l ?c ?k;(case a=>k_is);(case l=>k_is);(case c=>k_is);(case k=>k_is))
    (case q20=>refine' D2.aZ ?a ?l ?c ?k;(case a=>k_is);(case l=>k_is);(case c=>k_is);(case k=>k_is))
    (case q21=>refine' D2.aZ ?a ?l ?c ?k;(case a=>k_is);(case l=>k_is);(case c=>k_is);(case k=>k_is))
    (case q22=>refine' D2.aZ ?a ?l ?c ?k;(case a=>k_is);(case l=>k_is);(case c=>k_is);(case k=>k_is))
    (case q23=>refine' D2.aZ ?a ?l ?c ?k;(case a=>k_is);(case l=>k_is);(case c=>k_is);(case k=>k_is))
    (case q24=>refine' D2.aZ ?a ?l ?c ?k;(case a=>k_is);(case l=>k_is);(case c=>k_is);(case k=>k_is))
    (case q25=>refine' D2.aZ ?a ?l ?c ?k;(case a=>k_is);(case l=>k_is);(case c=>k_is);(case k=>k_is))
    (case q26=>refine' D2.aZ ?a ?l ?c ?k;(case a=>k_is);(case l=>k_is);(case c=>k_is);(case k=>k_is))
    (case q27=>refine' D2.aZ ?a ?l ?c ?k;(case a=>k_is);(case l=>k_is);(case c=>k_is);(case k=>k_is))
    (case q28=>refine' D2.aZ ?a ?l ?c ?k;(case a=>k_is);(case l=>k_is);(case c=>k_is);(case k=>k_is))
    (case q29=>refine' D2.aZ ?a ?l ?c ?k;(case a=>k_is);(case l=>k_is);(case c=>k_is);(case k=>k_is))
    (case q30=>refine' D2.aZ ?a ?l ?c ?k;(case a=>k_is);(case l=>k_is);(case c=>k_is);(case k=>k_is))
    (case a31=>k_is)
    (case l31=>k_is)
    (case c31=>k_is)
    (case k31=>k_is)
    (case qg0=>k_is)
    (case qg1=>k_is)
    (case qg2=>k_is)
    (case qz0=>k_is)
    (case qz1=>k_is)
    (case qz2=>k_is)
    (case qz3=>k_is)
    (case qz4=>k_is)
    (case qz5=>k_is)
    (case qz6=>k_is)
    (case qz7=>k_is)
    (case qz8=>k_is)
    (case qz9=>k_is)
    (case qz10=>k_is)
    (case qz11=>k_is)
    (case qz12=>k_is)
    (case qm0=>k_is)
    (case qq0=>k_exc)
    (case qm1=>k_is)
    (case qq1=>k_exc)
    (case qa_Share=>k_is)
    (case qi_Share=>k_is)
    (case qf_Share=>k_is)
    (case ql_Share=>k_is)
    (case qc_Share=>k_is)
    (case qk_Share=>k_is)
    (case qpg_Share=>k_is)
    (case qhd_Share=>k_is)
    (case qpo_Share=>k_is)
    (case qsa_Share=>k_is)
    (case qmk_Share=>k_is)
    (case qkc_Share=>k_is)
    (case qn_Share_who=>k_is)
    (case qn_Share_places=>k_is)
    (case qn_Share_moves=>k_is)
    (case nl=>first | rfl | k_is | decide)

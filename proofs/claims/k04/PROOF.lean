import PyProof.Rows.All
import Wide.All
import OpenK.AllK
import Wide.FinOn
import Lean
import PyProof.EqAt
import PyProof.EqKinds
import PyProof.TupleCall
import PySem.Challenge.RW_duelground_k04_whole_read
set_option Elab.async false
set_option linter.all false
set_option maxRecDepth 100000
namespace L2
open PySem PySem.Spec PyProof.Rows
noncomputable abbrev bZ:=Sum Int Str
noncomputable def kN:bZ->Value->Bool
  | .inl k,v=>Value.isInt k v
  | .inr x,v=>Value.isStrOf x v
noncomputable def AN (w:World):bZ->Int
  | .inl k=>hashInt k
  | .inr x=>hashStr w x
theorem cj:∀ {k:bZ} {v:Value},kN k v=true->(∃ i t,k=Sum.inl i/\v=Value.int i t)\/(∃ x t,k=Sum.inr x/\v=Value.str x t)
  | .inl i,v,h=>by
    obtain ⟨t,e⟩:=Value.isInt_shape (k:=i) (v:=v) h;exact .inl ⟨i,t,rfl,e⟩
  | .inr x,v,h=>by
    obtain ⟨t,e⟩:=Value.isStrOf_shape (x:=x) (v:=v) h;exact .inr ⟨x,t,rfl,e⟩
theorem sB (i:Int) (t:Tok):kN (.inl i) (.int i t)=true:=by simp [kN,Value.isInt]
theorem rS (x:Str) (t:Tok):kN (.inr x) (.str x t)=true:=by simp [kN,Value.isStrOf]
theorem xV (a b:Int):decide ((Sum.inl a:bZ)=Sum.inl b)=(a==b):=by
  by_cases e:a=b
  · subst e;simp
  · have h:¬ (Sum.inl a:bZ)=Sum.inl b:=fun q=>e (Sum.inl.inj q)
    rw [decide_eq_false h];exact (beq_eq_false_iff_ne.mpr e).symm
theorem yo (a b:Str):decide ((Sum.inr a:bZ)=Sum.inr b)=decide (a=b):=by
  by_cases e:a=b
  · subst e;simp
  · have h:¬ (Sum.inr a:bZ)=Sum.inr b:=fun q=>e (Sum.inr.inj q)
    rw [decide_eq_false h,decide_eq_false e]
theorem yM (a:Int) (b:Str):decide ((Sum.inl a:bZ)=Sum.inr b)=false:=decide_eq_false (fun q=>nomatch q)
theorem xT (a:Str) (b:Int):decide ((Sum.inr a:bZ)=Sum.inl b)=false:=decide_eq_false (fun q=>nomatch q)
noncomputable def cf (prog:Program) (w:World):PySem.KeyKind prog w bZ where
  is:=kN
  hash:=AN w
  inj:=fun v a b ha hb=>by
    rcases cj ha with ⟨i,t,rfl,rfl⟩ | ⟨x,t,rfl,rfl⟩
    · rcases cj hb with ⟨j,u,rfl,e⟩ | ⟨y,u,rfl,e⟩
      · injection e with e1 _;rw [e1]
      · exact nomatch e
    · rcases cj hb with ⟨j,u,rfl,e⟩ | ⟨y,u,rfl,e⟩
      · exact nomatch e
      · injection e with e1 _;rw [e1]
  byValue:=fun k v h=>by
    rcases cj h with ⟨i,t,rfl,rfl⟩ | ⟨x,t,rfl,rfl⟩ <;> rfl
  pyHash:=fun hv h=>by
    rcases cj hv with ⟨i,t,rfl,rfl⟩ | ⟨x,t,rfl,rfl⟩
    · exact wpAny_pyHash_int h
    · exact wpAny_pyHash_str h
  eqBool:=fun hu hv h=>by
    rcases cj hu with ⟨i,t,rfl,rfl⟩ | ⟨x,t,rfl,rfl⟩
    · rcases cj hv with ⟨j,u,rfl,rfl⟩ | ⟨y,u,rfl,rfl⟩
      · rw [xV] at h;exact wpAny_eqBool_int h
      · rw [yM] at h;exact SeqAt.EqAt.int_str i t y u _ _ _ _ h
    · rcases cj hv with ⟨j,u,rfl,rfl⟩ | ⟨y,u,rfl,rfl⟩
      · rw [xT] at h;exact SeqAt.EqAt.str_int x t j u _ _ _ _ h
      · rw [yo] at h;exact wpAny_eqBool_str h
  «strs»:=fun k x t v h=>by
    rcases cj h with ⟨i,u,rfl,e⟩ | ⟨y,u,rfl,e⟩
    · exact nomatch e
    · injection e with e1 _
      subst e1;cases v <;> rfl
theorem pG (prog:Program) (w:World) (i:Int) (t:Tok):(cf prog w).is (.inl i) (.int i t)=true:=sB i t
theorem oC (prog:Program) (w:World) (x:Str) (t:Tok):(cf prog w).is (.inr x) (.str x t)=true:=rS x t
inductive V where
  | non | bl (b:Bool) | int (i:Int) | str (x:Str) | byt (b:Array UInt8) | flt (b:UInt64) | ref (a:Addr) | ty (n:String)
  deriving DecidableEq
noncomputable def bz:V->Value->Prop
  | .non,u=>u=Value.none
  | .bl b,u=>u=Value.bool b
  | .int i,u=>∃ t,u=Value.int i t
  | .str x,u=>∃ t,u=Value.str x t
  | .byt b,u=>∃ t,u=Value.bytes b t
  | .flt b,u=>∃ t,u=Value.float b t
  | .ref a,u=>u=Value.ref a
  | .ty n,u=>u=Value.type n
noncomputable abbrev bp:List V->List Value->Prop:=Paired bz
theorem bp.length {xs:List V} {us:List Value} (r:bp xs us):xs.length=us.length:=Paired.length r
theorem bp.get:∀ {xs:List V} {us:List Value} {i:Nat} {x:V},bp xs us->xs[i]?=some x->∃ u,us[i]?=some u/\bz x u
  | _,_,_,_,.nil,e=>by simp at e
  | _,_,0,_,.cons r _,e=>by simp at e;subst e;exact ⟨_,rfl,r⟩
  | _,_,i+1,x,.cons _ t,e=>by
    obtain ⟨u,h1,h2⟩:=bp.get (i:=i) (x:=x) t (by simpa using e);exact ⟨u,by simpa using h1,h2⟩
theorem bp.append:∀ {xs ys:List V} {us ws:List Value},bp xs us->bp ys ws->bp (xs++ys) (us++ws)
  | _,_,_,_,.nil,s=>s
  | _,_,_,_,.cons r t,s=>.cons r (bp.append t s)
theorem bp.take:∀ {xs:List V} {us:List Value} (n:Nat),bp xs us->bp (xs.take n) (us.take n)
  | _,_,0,_=>.nil
  | _,_,_+1,.nil=>.nil
  | _,_,n+1,.cons r t=>.cons r (bp.take n t)
theorem bp.drop:∀ {xs:List V} {us:List Value} (n:Nat),bp xs us->bp (xs.drop n) (us.drop n)
  | _,_,0,r=>r
  | _,_,_+1,.nil=>.nil
  | _,_,n+1,.cons _ t=>bp.drop n t
noncomputable def jC:Option V->Option Value->Prop
  | some v,some u=>bz v u
  | none,none=>True
  | _,_=>False
noncomputable def KV {κ:Type}:List (κ×V)->List (κ×Value)->Prop:=Paired fun (p:κ×V) (q:κ×Value)=>p.1=q.1/\bz p.2 q.2
noncomputable def kV:bZ->V
  | .inl i=>.int i
  | .inr x=>.str x
inductive HO where
  /-- a list -/
  | lst (xs:List V)
  /-- a tuple (never changes) -/
  | tup (xs:List V)
  /-- a dict whose keys are ints and texts;one whose keys are tuples of ints and texts (the empty one is both) -/
  | dK (kvs:List (bZ×V)) | dT (kvs:List (List bZ×V))
  /-- a set of ints: its members,its size -/
  | set (S:Int->Bool) (n:Nat)
  /-- an instance of the class at C,its dict at dx,its attributes -/
  | ins (C dx:Addr) (fs:List (Str×V))
  /-- the dict of the instance at x -/
  | own (x:Addr)
  /-- the dict of an exception -/
  | xd (fs:List (Str×V))
  /-- a bound method,f of x -/
  | met (f x:Addr)
  /-- a range object lo,lo+1,.. below hi -/
  | rng (lo hi:Int)
  /-- a thing that is known to the object (the script;a dict while a loop walks it): read,never written while it is so -/
  | frz (o:Obj) (u:HO)
  /-- a code object's table -/
  | tbl (ps:Array Value)
  /-- any other thing,by what is true of its one object (a def of one's own: SetO a S n:=HO.ext fun h=>..) -/
  | ext (φ:Heap->Prop)
noncomputable abbrev Hp:=Addr->Option HO
noncomputable def dk (H:Hp) (a:Addr) (o:HO):Hp:=fun b=>if b=a then some o else H b
theorem bJ {H:Hp} {a:Addr} {o:HO}:dk H a o a=some o:=by unfold dk;rw [if_pos rfl]
theorem aH {H:Hp} {a b:Addr} {o:HO} (h:b≠a):dk H a o b=H b:=by unfold dk;rw [if_neg h]
theorem zB {H:Hp} {a b:Addr} {o u:HO} (h:H a=some o) (h':H b=some u) (d:o≠u):a≠b:=by
  intro e;subst e;rw [h] at h';exact d (Option.some.inj h')
theorem aZ {H:Hp} {a b:Addr} {o:HO} (h:H a=some o) (h':H b=none):a≠b:=by
  intro e;subst e;rw [h] at h';cases h'
section
variable (P:Program) (w:World)
noncomputable def bY (H:Hp) (h:Heap) (a:Addr):HO->Prop
  | .lst xs=>xs.length<=sizeLine/\∃ (its:List Value) (n:Nat),bp xs its/\h.get? a=some { cls:=.type "list",data:=.seq its.toArray n }
  | .tup xs=>xs.length<=sizeLine/\∃ its:List Value,bp xs its/\IsTup h a its.toArray
  | .dK kvs=>kvs.length<=sizeLine/\(a==sysModules)=false/\∃ vs,KV kvs vs/\h.DictOf (cf P w) a vs
  | .dT kvs=>kvs.length<=sizeLine/\(a==sysModules)=false/\∃ xs:List (List bZ×Addr×Value),
      Paired (fun (p:List bZ×V) (q:List bZ×Addr×Value)=>p.1=q.1/\H q.2.1=some (.tup (p.1.map kV))/\bz p.2 q.2.2) kvs xs /\
      ∃ o es ep,h.get? a=some o/\o.ExactDict/\o.data=.dict es ep/\es.toList=xs.map (entryOfKey (tupleKind (cf P w)))/\(xs.map (·.1)).Nodup
  | .set S n=>h.SetOf (intKind P w) a S n
  | .ins C dx fs=>H dx=some (.own a)/\fs.length<=1000/\dx≠a/\h.get? a=some (PySem.W.instObj C dx) /\
      ∃ mA,h.Ns1 dx mA/\(∀ f,jC (fs.lookup f) (mA f))/\PySem.Within mA (fs.map (·.1))
  | .own _=>∃ o,h.get? a=some o
  | .xd fs=>∃ mA,h.Ns1 a mA/\∀ f,jC (fs.lookup f) (mA f)
  | .rng lo hi=>∃ t u v,h.get? a=some { cls:=.type "range",data:=.fields #[.int lo t,.int hi u,.int 1 v] }
  | .frz o u=>h.get? a=some o/\bY H h a u
  | .tbl ps=>h.get? a=some { cls:=.none,data:=.fields ps }
  | .met f x=>h.get? a=some (PySem.W.methodObj (.ref f) (.ref x))
  | .ext φ=>φ h/\(∃ o,h.get? a=some o)/\∀ h1 h2:Heap,φ h1->(∀ o,h1.get? a=some o->h2.get? a=some o)->φ h2
noncomputable def fI (H:Hp) (h:Heap):Prop:=∀ a o,H a=some o->bY P w H h a o
end
section
variable {P:Program} {w:World} {H H':Hp} {h h':Heap} {a:Addr} {o:HO}
theorem bY.lt (x:bY P w H h a o):a < h.objs.size:=by
  cases o with
  | lst xs=>obtain ⟨_,_,_,_,e⟩:=x;exact Heap.lt_size e
  | tup xs=>obtain ⟨_,_,_,p⟩:=x;exact p.lt
  | dK kvs=>obtain ⟨_,_,_,_,o,_,_,e,_⟩:=x;exact Heap.lt_size e
  | dT kvs=>obtain ⟨_,_,_,_,o,_,_,e,_⟩:=x;exact Heap.lt_size e
  | set S n=>obtain ⟨o,_,_,_,e,_⟩:=x;exact Heap.lt_size e
  | ins C dx fs=>obtain ⟨_,_,_,e,_⟩:=x;exact Heap.lt_size e
  | own y=>obtain ⟨_,e⟩:=x;exact Heap.lt_size e
  | xd fs=>obtain ⟨_,⟨_,_,_,e,_⟩,_⟩:=x;exact Heap.lt_size e
  | rng lo hi=>obtain ⟨_,_,_,e⟩:=x;exact Heap.lt_size e
  | frz ob u=>obtain ⟨e,_⟩:=x;exact Heap.lt_size e
  | tbl ps=>exact Heap.lt_size (show h.get? a=some _ from x)
  | met f y=>exact Heap.lt_size (show h.get? a=some _ from x)
  | ext φ=>obtain ⟨_,⟨_,e⟩,_⟩:=x;exact Heap.lt_size e
theorem Paired.mapP {α β:Type} {F G:α->β->Prop}:∀ {l₁:List α} {l₂:List β},Paired F l₁ l₂->(∀ a b,F a b->G a b)->Paired G l₁ l₂
  | _,_,.nil,_=>.nil
  | _,_,.cons r t,f=>.cons (f _ _ r) (Paired.mapP t f)
theorem bY.stay (x:bY P w H h a o) (k:∀ b u,(b=a\/H b=some (.own a))->h.get? b=some u->h'.get? b=some u)
    (ho:∀ b,H b=some (.own a)->H' b=some (.own a)) (ht:∀ b xs,H b=some (.tup xs)->H' b=some (.tup xs)):bY P w H' h' a o:=by
  induction o with
  | lst xs=>obtain ⟨z,its,n,r,e⟩:=x;exact ⟨z,its,n,r,k _ _ (.inl rfl) e⟩
  | tup xs=>obtain ⟨z,its,r,ob,e,c⟩:=x;exact ⟨z,its,r,ob,k _ _ (.inl rfl) e,c⟩
  | dK kvs=>obtain ⟨z,y,vs,r,ob,es,ep,e,c⟩:=x;exact ⟨z,y,vs,r,ob,es,ep,k _ _ (.inl rfl) e,c⟩
  | dT kvs =>
    obtain ⟨z,y,xs,r,ob,es,ep,e,c⟩:=x;exact ⟨z,y,xs,Paired.mapP r fun p q z=>⟨z.1,ht _ _ z.2.1,z.2.2⟩,ob,es,ep,k _ _ (.inl rfl) e,c⟩
  | set S n=>obtain ⟨ob,es,ep,t,e,c⟩:=x;exact ⟨ob,es,ep,t,k _ _ (.inl rfl) e,c⟩
  | ins C dx fs =>
    obtain ⟨d,z,ne,e,mA,⟨od,es,ep,e2,c⟩,r⟩:=x;exact ⟨ho _ d,z,ne,k _ _ (.inl rfl) e,mA,⟨od,es,ep,k _ _ (.inr d) e2,c⟩,r⟩
  | own y=>obtain ⟨ob,e⟩:=x;exact ⟨ob,k _ _ (.inl rfl) e⟩
  | xd fs=>obtain ⟨mA,⟨od,es,ep,e,c⟩,r⟩:=x;exact ⟨mA,⟨od,es,ep,k _ _ (.inl rfl) e,c⟩,r⟩
  | rng lo hi=>obtain ⟨t,u,v,e⟩:=x;exact ⟨t,u,v,k _ _ (.inl rfl) e⟩
  | frz ob u ih=>obtain ⟨e,q⟩:=x;exact ⟨k _ _ (.inl rfl) e,ih q⟩
  | tbl ps =>
    have e:h.get? a=some { cls:=.none,data:=.fields ps }:=x;show h'.get? a=some { cls:=.none,data:=.fields ps };exact k a _ (.inl rfl) e
  | met f y =>
    have e:h.get? a=some (PySem.W.methodObj (.ref f) (.ref y)):=x;show h'.get? a=some (PySem.W.methodObj (.ref f) (.ref y));exact k a _ (.inl rfl) e
  | ext φ=>obtain ⟨p,⟨o,e⟩,st⟩:=x;exact ⟨st _ _ p fun o q=>k _ _ (.inl rfl) q,⟨o,k _ _ (.inl rfl) e⟩,st⟩
theorem fI.lt (x:fI P w H h) (e:H a=some o):a < h.objs.size:=(x a o e).lt
theorem fI.fresh (x:fI P w H h) (e:h.objs.size<=a):H a=none:=by
  cases q:H a with
  | none=>rfl
  | some u=>exact absurd (Nat.lt_of_lt_of_le (x.lt q) e) (Nat.lt_irrefl _)
theorem fI.kept (x:fI P w H h) (k:∀ b u,h.get? b=some u->h'.get? b=some u):fI P w H h':=fun a o e =>
  (x a o e).stay (fun b u _ q=>k b u q) (fun _ q=>q) fun _ _ q=>q
theorem fI.laid (x:fI P w H h) (k:∀ b u,h.get? b=some u->h'.get? b=some u) (hp:h.objs.size<=a) (new:bY P w (dk H a o) h' a o):fI P w (dk H a o) h':=fun b u e=>by
  have hn:=x.fresh hp;by_cases hb:b=a
  · subst hb;rw [bJ] at e;cases e;exact new
  · rw [aH hb] at e;exact (x b u e).stay (fun c v _ q=>k c v q) (fun c q=>by rw [aH (aZ q hn)];exact q) fun c xs q=>by rw [aH (aZ q hn)];exact q
end
noncomputable def Rd (H:Hp) (a:Addr) (u:HO):Prop:=H a=some u\/∃ o,H a=some (.frz o u)
theorem Rd.ok {P:Program} {w:World} {H:Hp} {h:Heap} {a:Addr} {u:HO} (r:Rd H a u) (x:fI P w H h):bY P w H h a u:=by
  rcases r with r | ⟨o,r⟩
  · exact x a u r
  · obtain ⟨_,q⟩:=x a _ r;exact q
noncomputable def zI:Option HO->Prop
  | some (.lst _)=>True
  | some (.dK _)=>True
  | some (.dT _)=>True
  | some (.set _ _)=>True
  | some (.ins _ _ _)=>True
  | some (.ext _)=>True
  | _=>False
section
variable {P:Program} {w:World} {H:Hp} {h h':Heap} {x e:Addr} {o':HO}
theorem fI.write (ok:fI P w H h) (mu:zI (H x)) (he:e=x\/H e=some (.own x)) (k:∀ b u,b≠e->h.get? b=some u->h'.get? b=some u) (heo:∃ u,h'.get? e=some u)
    (new:bY P w (dk H x o') h' x o'):fI P w (dk H x o') h':=fun b u q=>by
  have nown:∀ c y,H c=some (.own y)->c≠x:=fun c y r z=>by subst z;rw [r] at mu;exact mu
  have ntup:∀ c xs,H c=some (.tup xs)->c≠x:=fun c xs r z=>by subst z;rw [r] at mu;exact mu
  by_cases hb:b=x
  · subst hb;rw [bJ] at q;cases q;exact new
  · rw [aH hb] at q;by_cases hbe:b=e
    · have q':H b=some (.own x):=by
        rcases he with z | z
        · exact absurd (hbe.trans z) hb
        · rw [hbe];exact z
      rw [q] at q';cases q';obtain ⟨v,hv⟩:=heo;exact ⟨v,by rw [hbe];exact hv⟩
    · refine (ok b u q).stay (fun c v hc r=>k c v ?_ r) (fun c r=>by rw [aH (nown c b r)];exact r) fun c xs r=>by rw [aH (ntup c xs r)];exact r
      rcases hc with rfl | hc
      · exact hbe
      · rintro rfl;rcases he with z | z
        · exact nown c b hc z
        · rw [hc] at z;cases z;exact hb rfl
end
structure Un (fs ex:List Addr) (H H':Hp) (h h':Heap):Prop where
  keep:∀ b o,h.get? b=some o->H b=none->b∉fs->b∉ex->h'.get? b=some o
  slot:∀ b o,h.get? b=some o->H b=none->b∈fs->b∉ex->∃ sl,h'.get? b=some { o with slots:=sl }
  free:∀ b o,h.get? b=some o->H b=none->b∉ex->H' b=none
  there:∀ b o,h.get? b=some o->b∉ex->∃ o',h'.get? b=some o'
  tups:∀ b xs,H b=some (.tup xs)->H' b=some (.tup xs)
  frzs:∀ b o u,H b=some (.frz o u)->H' b=some (.frz o u)
  tbls:∀ b ps,H b=some (.tbl ps)->∃ more,H' b=some (.tbl (ps++more))
section
variable {fs fs' ex ex':List Addr} {H H1 H2:Hp} {h h1 h2 h':Heap} {a x e:Addr} {o:HO}
theorem Un.any (u:Un fs ex H H1 h h1) {b:Addr} {ob:Obj} (q:h.get? b=some ob) (n:H b=none) (hx:b∉ex):∃ sl,h1.get? b=some { ob with slots:=sl }:=by
  by_cases hb:b∈fs
  · exact u.slot b ob q n hb hx
  · exact ⟨ob.slots,u.keep b ob q n hb hx⟩
theorem Un.kept (k:∀ b u,h.get? b=some u->h'.get? b=some u):Un fs ex H H h h' :=
  ⟨fun b ob q _ _ _=>k b ob q,fun b ob q _ _ _=>⟨ob.slots,k b ob q⟩,fun _ _ _ n _=>n,fun b ob q _=>⟨ob,k b ob q⟩,fun _ _ q=>q,fun _ _ _ q=>q,fun _ ps q=>⟨#[],by rw [q];simp⟩⟩
theorem Un.refl:Un fs ex H H h h:=Un.kept fun _ _ q=>q
theorem Un.laid (k:∀ b u,h.get? b=some u->h'.get? b=some u) (hp:h.objs.size<=a) (hn:H a=none):Un fs ex H (dk H a o) h h' where
  keep:=fun b u q _ _ _=>k b u q
  slot:=fun b u q _ _ _=>⟨u.slots,k b u q⟩
  free:=fun b u q n _=>by rw [aH (Nat.ne_of_lt (Nat.lt_of_lt_of_le (Heap.lt_size q) hp))];exact n
  there:=fun b u q _=>⟨u,k b u q⟩
  tups:=fun b xs q=>by rw [aH (aZ q hn)];exact q
  frzs:=fun b u xs q=>by rw [aH (aZ q hn)];exact q
  tbls:=fun b ps q=>⟨#[],by rw [aH (aZ q hn),q];simp⟩
theorem Un.write (mu:zI (H x)) (he:e=x\/H e=some (.own x)) (k:∀ b u,b≠e->h.get? b=some u->h'.get? b=some u) (heo:∃ u,h'.get? e=some u):Un fs ex H (dk H x o) h h':=by
  have hx:∀ b,H b=none->b≠x:=fun b n z=>by subst z;rw [n] at mu;exact mu
  have hb:∀ b,H b=none->b≠e:=fun b n z=>by
    subst z;rcases he with r | r
    · exact hx b n r
    · rw [n] at r;cases r
  have hm:∀ b u,H b=some u->¬ zI (some u)->b≠x:=fun b u q nm z=>by subst z;rw [q] at mu;exact nm mu
  refine ⟨fun b u q n _ _=>k b u (hb b n) q,fun b u q n _ _=>⟨u.slots,k b u (hb b n) q⟩,fun b u q n _=>by rw [aH (hx b n)];exact n,fun b u q _=>?_,
    fun b xs q=>by rw [aH (hm b _ q fun z=>z)];exact q,fun b u xs q=>by rw [aH (hm b _ q fun z=>z)];exact q,fun b ps q=>⟨#[],by rw [aH (hm b _ q fun z=>z),q];simp⟩⟩
  by_cases hbe:b=e
  · subst hbe;exact heo
  · exact ⟨u,k b u hbe q⟩
end
noncomputable def Ao (h:Heap) (H:Hp):List Addr:=(List.range h.objs.size).filter fun a=>(H a).isSome
noncomputable def na (h:Heap) (H:Hp):Heap:=PySem.W.hideAll h (Ao h H)
theorem sv (h:Heap) (H:Hp):(na h H).objs.size=h.objs.size:=PySem.W.hideAll_size _ _
theorem ux {h:Heap} {H:Hp} {b:Addr} {o:Obj} (e:h.get? b=some o) (n:H b=none):(na h H).get? b=some o :=
  PySem.W.hideAll_get _ e fun hm=>by
    have q:(H b).isSome=true:=(List.mem_filter.mp hm).2;rw [n] at q;simp at q
theorem vS {h:Heap} {H:Hp} {b:Addr} {o:Obj} (e:(na h H).get? b=some o):h.get? b=some o/\H b=none:=by
  have e':h.get? b=some o:=PySem.W.of_hideAll (Ao h H) e;refine ⟨e',?_⟩;cases q:H b with
  | none=>rfl
  | some x =>
    have hm:b∈Ao h H:=List.mem_filter.mpr ⟨List.mem_range.mpr (Heap.lt_size e'),by simp [q]⟩;have z:(na h H).get? b=none:=PySem.W.hideAll_none (Ao h H) hm;rw [z] at e;cases e
noncomputable def wq (g h:Heap) (L:Addr):List (Addr×Obj):=(List.range h.objs.size).filterMap fun a=>if a=L\/(g.get? a).isSome=true then none else (h.get? a).map fun o=>(a,o)
noncomputable def dn (g h:Heap) (L d:Addr):List (Addr×Obj):=(wq g h L).filter fun p=>decide (p.1≠d)
structure Mod (K:PySem.W.Frag) (mg:Str->Option Value) (base:Heap):Prop where
  kin:K.In base
  glob:base.Ns mainGlobals mg
  blt:∃ mb,base.Ns builtinsNs mb/\∀ x:Str,x ≠ "__name__" -> mb x=bootBuiltins x
  nolimit:base.NoLimit
structure Cx where
  prog:Program
  w:World
  K:PySem.W.Frag
  mg:Str->Option Value
  base:Heap
  A:Around
  N:List Str
  s₀:Shared
  H₀:Hp
  env:Env
  outer:List Env
  stack:List Env
  ex:List Addr
  fn:Str->Bool
  calm:Bool
  pn:List (Addr×Obj)
  xe:Value->Shared->Prop
noncomputable def ja (l:List Env):List Addr:=l.filterMap (·.frame)
noncomputable abbrev Cx.fs (X:Cx):List Addr:=ja X.outer
noncomputable def zU (sc:Scope) (x:Str):Prop:=sc.names.lookup x=some .local\/sc.names.lookup x=some .cell\/sc.names.lookup x=some .free
noncomputable def yr (sc:Scope) (x:Str):Prop:=sc.names.lookup x=some .local\/sc.names.lookup x=some .cell
noncomputable def A5 (env:Env) (h:Heap) (m:Str->Option Value) (x:Str) (u:Value):Prop :=
  (env.kindOf x=some .local/\m x=some u)\/((env.kindOf x=some .cell\/env.kindOf x=some .free)/\∃ c,env.cells.lookup x=some c/\h.IsCell c (some u))
structure Cx.Ok (X:Cx):Prop where
  mod:Mod X.K X.mg X.base
  kind:X.env.scope.kind=.function
  glob:X.env.globals=mainGlobals
  blt:X.env.builtins=builtinsNs
  above:X.s₀.heap.objs.size<=X.env.locals
  inj:∀ x y c,X.env.cells.lookup x=some c->X.env.cells.lookup y=some c->x=y
  has:∀ x,(X.env.kindOf x=some .cell\/X.env.kindOf x=some .free)->∃ c,X.env.cells.lookup x=some c
  cab:∀ x c,X.fn x=true->X.env.cells.lookup x=some c->X.s₀.heap.objs.size<=c
  hd:X.calm=true->X.A.handled=none
  frames:X.A.frames=some X.stack
  stk:X.stack=X.outer\/(X.stack=X.env::X.outer/\X.env.frame=some X.env.locals)
  exf:∀ b∈X.ex,b≠X.env.locals/\∀ x c,X.env.cells.lookup x=some c->c≠b
  bs:∀ b o,X.base.get? b=some o->X.s₀.heap.get? b=some o/\X.H₀ b=none
  bsz:X.base.objs.size<=X.s₀.heap.objs.size
  noex:∀ b o,X.base.get? b=some o->b∉X.ex
  exfs:∀ b∈X.ex,b∉X.fs
  funs:X.s₀.heap.FunFrames X.base X.outer
  frf:∀ b∈X.fs,X.H₀ b=none
structure ay (X:Cx) (pins:List (Addr×Obj)) (σ:List (Option V)) (H:Hp) (s:Shared):Prop where
  ok:X.Ok
  os:s.os=X.s₀.os
  bare:AllBare s.gens
  base:Un X.fs X.ex X.H₀ H X.s₀.heap s.heap
  loc:∃ m,s.heap.Ns X.env.locals m/\∀ (i:Nat) (x:Str) (v:V),X.N[i]?=some x->σ[i]?=some (some v)->zU X.env.scope x->∃ u,bz v u/\A5 X.env s.heap m x u
  cell:∀ x c,X.env.cells.lookup x=some c->∃ v,s.heap.IsCell c v
  free:H X.env.locals=none
  freeC:∀ x c,X.env.cells.lookup x=some c->H c=none
  pin:∀ p∈X.pn++pins,s.heap.get? p.1=some p.2/\H p.1=none/\p.1≠X.env.locals/\p.1∉X.fs/\∀ v,p.2.data≠.cell v
  hok:fI X.prog X.w H s.heap
  len:σ.length=X.N.length
section
variable {X:Cx} {pins:List (Addr×Obj)} {σ:List (Option V)} {H H':Hp} {s:Shared} {h':Heap}
theorem Cx.Ok.nofr (ok:X.Ok) {b:Addr} {o:Obj} (e:X.base.get? b=some o):b∉X.fs:=fun hb=>by
  have:=(ok.funs.mem hb).1;rw [e] at this;cases this
theorem ay.bs (I:ay X pins σ H s):∀ b o,X.base.get? b=some o->s.heap.get? b=some o/\H b=none:=fun b o e =>
  ⟨I.base.keep b o (I.ok.bs b o e).1 (I.ok.bs b o e).2 (I.ok.nofr e) (I.ok.noex b o e),I.base.free b o (I.ok.bs b o e).1 (I.ok.bs b o e).2 (I.ok.noex b o e)⟩
theorem ay.bk (I:ay X pins σ H s):∀ b o,X.base.get? b=some o->s.heap.get? b=some o:=fun b o e=>(I.bs b o e).1
theorem ay.mod (I:ay X pins σ H s):Mod X.K X.mg X.base:=I.ok.mod
theorem ay.kIn (I:ay X pins σ H s):X.K.In s.heap:=I.ok.mod.kin.keeps I.bk
theorem ay.lt (I:ay X pins σ H s):X.env.locals < s.heap.objs.size:=let ⟨_,hn,_⟩:=I.loc;hn.lt
theorem ay.sz (I:ay X pins σ H s):X.s₀.heap.objs.size<=s.heap.objs.size:=Nat.le_trans I.ok.above (Nat.le_of_lt I.lt)
theorem ay.nofs (I:ay X pins σ H s) {a:Addr} (h:s.heap.objs.size<=a):a∉X.fs:=fun hb=>by
  obtain ⟨_,o,ho,_⟩:=I.ok.funs.mem hb;exact absurd (Nat.lt_of_lt_of_le (Heap.lt_size ho) (Nat.le_trans I.sz h)) (Nat.lt_irrefl _)
theorem ay.cne (I:ay X pins σ H s):∀ x c,X.env.cells.lookup x=some c->c≠X.env.locals:=fun x c e z=>by
  obtain ⟨v,o,ho,hd⟩:=I.cell x c e;obtain ⟨m,⟨o',es,ep,ho',hd',_⟩,_⟩:=I.loc;rw [z,ho'] at ho;cases ho;rw [hd'] at hd;cases hd
theorem ay.funs (I:ay X pins σ H s):s.heap.FunFrames X.base X.outer:=by
  have all:∀ (l:List Env),(∀ b∈ja l,b∈X.fs)->X.s₀.heap.FunFrames X.base l->s.heap.FunFrames X.base l:=by
    intro l;induction l with
    | nil=>intro _ _;trivial
    | cons env r ih =>
      intro hs hl;obtain ⟨hk,⟨L,o,hf,hn,ho,hd⟩,hr⟩:=hl;have hL:L∈X.fs:=hs L (by unfold ja;rw [List.filterMap_cons,hf];exact List.mem_cons_self);obtain ⟨sl,e⟩:=I.base.slot L o ho (I.ok.frf L hL) hL fun z=>I.ok.exfs L z hL
      exact ⟨hk,⟨L,_,hf,hn,e,hd⟩,ih (fun b hb=>hs b (by unfold ja;rw [List.filterMap_cons,hf];exact List.mem_cons_of_mem _ hb)) hr⟩
  exact all X.outer (fun _ hb=>hb) I.ok.funs
theorem ay.stack (I:ay X pins σ H s):s.heap.FunFrames X.base X.stack:=by
  rcases I.ok.stk with e | ⟨e,hf⟩
  · rw [e];exact I.funs
  · rw [e];obtain ⟨m,hn,_⟩:=I.loc;refine .cons (by rw [I.ok.kind];decide) hf hn ?_ I.funs;exact Heap.get?_none_of_le (Nat.le_trans I.ok.bsz I.ok.above)
theorem ay.stkSub (I:ay X pins σ H s):∀ b∈ja X.stack,b∈X.env.locals::X.fs:=fun b hb=>by
  rcases I.ok.stk with e | ⟨e,hf⟩
  · rw [e] at hb;exact List.mem_cons_of_mem _ hb
  · rw [e] at hb;unfold ja at hb;rw [List.filterMap_cons,hf] at hb;exact hb
theorem ay.stkFree (I:ay X pins σ H s):∀ b∈ja X.stack,H b=none:=fun b hb=>by
  rcases List.mem_cons.mp (I.stkSub b hb) with e | hb
  · rw [e];exact I.free
  · obtain ⟨_,o,ho,_⟩:=I.ok.funs.mem hb;exact I.base.free b o ho (I.ok.frf b hb) fun z=>I.ok.exfs b z hb
theorem ay.step {g':Array GenState} {t':Nat} {d':Drawn} {ch:List Addr} (I:ay X pins σ H s)
    (hch:∀ b∈ch,(b∈X.ex\/X.s₀.heap.objs.size<=b)/\b≠X.env.locals/\(∀ x c,X.env.cells.lookup x=some c->c≠b)/\∀ p∈X.pn++pins,p.1≠b)
    (keep:∀ b o,b≠X.env.locals->b∉X.fs->b∉ch->s.heap.get? b=some o->H b=none->h'.get? b=some o)
    (slot:∀ b o,b≠X.env.locals->b∈X.fs->b∉ch->s.heap.get? b=some o->H b=none->∃ sl,h'.get? b=some { o with slots:=sl }) (free:∀ b o,b∉ch->s.heap.get? b=some o->H b=none->H' b=none)
    (there:∀ b o,b∉ch->s.heap.get? b=some o->∃ o',h'.get? b=some o')
    (tups:∀ b xs,H b=some (.tup xs)->H' b=some (.tup xs)) (frzs:∀ b o u,H b=some (.frz o u)->H' b=some (.frz o u)) (tbls:∀ b ps,H b=some (.tbl ps)->∃ more,H' b=some (.tbl (ps++more)))
    (ns:∀ m,s.heap.Ns X.env.locals m->h'.Ns X.env.locals m) (hok:fI X.prog X.w H' h') (hg:AllBare g') :
    ay X pins σ H' { s with heap:=h',gens:=g',drawn:=d',toks:=t' }:=by
  have neL:∀ b o,X.s₀.heap.get? b=some o->b≠X.env.locals:=fun b o e=>Nat.ne_of_lt (Nat.lt_of_lt_of_le (Heap.lt_size e) I.ok.above)
  have neC:∀ b o,X.s₀.heap.get? b=some o->b∉X.ex->b∉ch:=fun b o e hx hb=>by
    rcases (hch b hb).1 with z | z
    · exact hx z
    · exact absurd (Nat.lt_of_lt_of_le (Heap.lt_size e) z) (Nat.lt_irrefl _)
  have cellK:∀ x c,X.env.cells.lookup x=some c->∀ v,s.heap.IsCell c v->h'.IsCell c v:=fun x c e v ⟨o,ho,hd⟩=>by
    have nch:c∉ch:=fun z=>(hch c z).2.2.1 x c e rfl
    by_cases hc:c∈X.fs
    · obtain ⟨sl,q⟩:=slot c o (I.cne x c e) hc nch ho (I.freeC x c e);exact ⟨_,q,hd⟩
    · exact ⟨o,keep c o (I.cne x c e) hc nch ho (I.freeC x c e),hd⟩
  refine ⟨I.ok,I.os,hg,⟨fun b o e n hb hx=>?_,fun b o e n hb hx=>?_,fun b o e n hx=>?_,fun b o e hx=>?_,fun b xs e=>tups b xs (I.base.tups b xs e),fun b o xs e=>frzs b o xs (I.base.frzs b o xs e),fun b ps e=>?_⟩,?_,fun x c e=>?_,?_,fun x c e=>?_,fun p hp=>?_,hok,I.len⟩
  · exact keep b o (neL b o e) hb (neC b o e hx) (I.base.keep b o e n hb hx) (I.base.free b o e n hx)
  · obtain ⟨sl,e1⟩:=I.base.slot b o e n hb hx;obtain ⟨sl',e2⟩:=slot b _ (neL b o e) hb (neC b o e hx) e1 (I.base.free b o e n hx);exact ⟨sl',e2⟩
  · obtain ⟨o',e1⟩:=I.base.there b o e hx;exact free b o' (neC b o e hx) e1 (I.base.free b o e n hx)
  · obtain ⟨o',e1⟩:=I.base.there b o e hx;exact there b o' (neC b o e hx) e1
  · obtain ⟨m1,e1⟩:=I.base.tbls b ps e;obtain ⟨m2,e2⟩:=tbls b _ e1;exact ⟨m1++m2,by rw [e2,Array.append_assoc]⟩
  · obtain ⟨m,hn,hl⟩:=I.loc;refine ⟨m,ns m hn,fun i x v e1 e2 e3=>?_⟩;obtain ⟨u,r,l⟩:=hl i x v e1 e2 e3;refine ⟨u,r,?_⟩;rcases l with l | ⟨k,c,e,z⟩
    · exact .inl l
    · exact .inr ⟨k,c,e,cellK x c e _ z⟩
  · obtain ⟨v,z⟩:=I.cell x c e;exact ⟨v,cellK x c e v z⟩
  · obtain ⟨m,⟨o,_,_,ho,_⟩,_⟩:=I.loc;exact free _ o (fun z=>(hch _ z).2.1 rfl) ho I.free
  · obtain ⟨v,o,ho,hd⟩:=I.cell x c e;exact free c o (fun z=>(hch c z).2.2.1 x c e rfl) ho (I.freeC x c e)
  · obtain ⟨e,n,ne,nf,d⟩:=I.pin p hp;have nch:p.1∉ch:=fun z=>(hch p.1 z).2.2.2 p hp rfl
    exact ⟨keep p.1 p.2 ne nf nch e n,free p.1 p.2 nch e n,ne,nf,d⟩
theorem ay.un {t':Nat} (I:ay X pins σ H s) (u:Un X.fs [] H H' s.heap h') (hok:fI X.prog X.w H' h'):ay X pins σ H' { s with heap:=h',toks:=t' }:=by
  obtain ⟨m,⟨o,es,ep,ho,r⟩,_⟩:=id I.loc;obtain ⟨sl,hL⟩:=u.any ho I.free (by simp);exact I.step (g':=s.gens) (d':=s.drawn) (ch:=[]) (fun _ z=>nomatch z) (fun b o _ hb _ e n=>u.keep b o e n hb (by simp)) (fun b o _ hb _ e n=>u.slot b o e n hb (by simp)) (fun b o _ e n=>u.free b o e n (by simp)) (fun b o _ e=>u.there b o e (by simp)) u.tups u.frzs u.tbls (fun m' hm=>by
    obtain ⟨o',es',ep',ho',r'⟩:=hm;rw [ho] at ho';cases ho';exact ⟨_,es',ep',hL,r'⟩) hok I.bare
theorem ay.call {g':Array GenState} {t':Nat} {d':Drawn} {ch:List Addr} (I:ay X pins σ H s) (u:Un (ja X.stack) ch H H' s.heap h') (hok:fI X.prog X.w H' h') (hg:AllBare g')
    (hch:∀ b∈ch,(b∈X.ex\/X.s₀.heap.objs.size<=b)/\b≠X.env.locals/\(∀ x c,X.env.cells.lookup x=some c->c≠b)/\∀ p∈X.pn++pins,p.1≠b) :
    ay X pins σ H' { s with heap:=h',gens:=g',drawn:=d',toks:=t' }:=by
  obtain ⟨m,⟨o,es,ep,ho,r⟩,_⟩:=id I.loc;obtain ⟨sl,hL⟩:=u.any ho I.free fun z=>(hch _ z).2.1 rfl
  exact I.step (ch:=ch) hch (fun b o hL hb hc e n=>u.keep b o e n (fun z=>(List.mem_cons.mp (I.stkSub b z)).elim hL hb) hc) (fun b o _ _ hc e n=>u.any e n hc) (fun b o hc e n=>u.free b o e n hc) (fun b o hc e=>u.there b o e hc) u.tups u.frzs u.tbls (fun m' hm=>by
    obtain ⟨o',es',ep',ho',r'⟩:=hm;rw [ho] at ho';cases ho';exact ⟨_,es',ep',hL,r'⟩) hok hg
theorem ay.turned {t':Nat} {it:Addr} (I:ay X pins σ H s) (k:∀ b o,b≠it->s.heap.get? b=some o->h'.get? b=some o) (hn:H it=none) (hL:it≠X.env.locals)
    (h1:it∈X.ex\/X.s₀.heap.objs.size<=it) (h2:∀ x c,X.env.cells.lookup x=some c->c≠it) (h3:∀ p∈X.pn++pins,p.1≠it):ay X pins σ H { s with heap:=h',toks:=t' }:=by
  have nit:∀ b u,H b=some u->b≠it:=fun b u e z=>by rw [z,hn] at e;cases e
  refine I.step (g':=s.gens) (d':=s.drawn) (ch:=[it]) (fun b hb=>?_) (fun b o _ _ hc e _=>k b o (fun z=>hc (by simp [z])) e) (fun b o _ _ hc e _=>⟨o.slots,k b o (fun z=>hc (by simp [z])) e⟩) (fun _ _ _ _ n=>n)
    (fun b o hc e=>⟨o,k b o (fun z=>hc (by simp [z])) e⟩) (fun _ _ e=>e) (fun _ _ _ e=>e) (fun b ps e=>⟨#[],by rw [e];simp⟩) (fun m hm=>?_) (fun b u e=>?_) I.bare
  · have e:b=it:=by simpa using hb
    subst e;exact ⟨h1,hL,h2,h3⟩
  · obtain ⟨o,es,ep,ho,r⟩:=hm;exact ⟨o,es,ep,k _ o (Ne.symm hL) ho,r⟩
  · refine (I.hok b u e).stay (fun c v hc q=>k c v ?_ q) (fun _ q=>q) fun _ _ q=>q
    rcases hc with z | z
    · rw [z];exact nit b u e
    · exact nit c _ z
theorem ay.tok (I:ay X pins σ H s) (t:Nat):ay X pins σ H { s with toks:=t }:=I.un (h':=s.heap) (t':=t) Un.refl I.hok
theorem ay.kept {t':Nat} (I:ay X pins σ H s) (k:∀ b u,s.heap.get? b=some u->h'.get? b=some u):ay X pins σ H { s with heap:=h',toks:=t' }:=I.un (Un.kept k) (I.hok.kept k)
theorem ay.laid {a:Addr} {o:HO} {t':Nat} (I:ay X pins σ H s) (k:∀ b u,s.heap.get? b=some u->h'.get? b=some u) (hp:s.heap.objs.size<=a) (new:bY X.prog X.w (dk H a o) h' a o) :
    ay X pins σ (dk H a o) { s with heap:=h',toks:=t' }:=I.un (Un.laid k hp (I.hok.fresh hp)) (I.hok.laid k hp new)
theorem ay.write {x e:Addr} {o:HO} {t':Nat} (I:ay X pins σ H s) (mu:zI (H x)) (he:e=x\/H e=some (.own x)) (k:∀ b u,b≠e->s.heap.get? b=some u->h'.get? b=some u) (heo:∃ u,h'.get? e=some u)
    (new:bY X.prog X.w (dk H x o) h' x o):ay X pins σ (dk H x o) { s with heap:=h',toks:=t' }:=I.un (Un.write mu he k heo) (I.hok.write mu he k heo new)
theorem ay.pins_of {pins':List (Addr×Obj)} (I:ay X pins σ H s) (h:∀ p∈pins',s.heap.get? p.1=some p.2/\H p.1=none/\p.1≠X.env.locals/\p.1∉X.fs/\∀ v,p.2.data≠.cell v):ay X pins' σ H s :=
  ⟨I.ok,I.os,I.bare,I.base,I.loc,I.cell,I.free,I.freeC,fun p hp=>(List.mem_append.mp hp).elim (fun z=>I.pin p (List.mem_append_left _ z)) (h p),I.hok,I.len⟩
theorem kY {N:List Str} (hN:N.Nodup) {i j:Nat} {x:Str} (a:N[i]?=some x) (b:N[j]?=some x):i=j:=by
  obtain ⟨h1,e1⟩:=List.getElem?_eq_some_iff.mp a;obtain ⟨h2,e2⟩:=List.getElem?_eq_some_iff.mp b;exact (List.getElem_inj hN).mp (e1.trans e2.symm)
theorem mf {M:Model} {A:Around} {E:Value->Shared->Prop} {i:Nat} {x:Str} {v:V} {u:Value} {Q:Unit->Shared->Prop} (I:ay X pins σ H s) (hN:X.N.Nodup) (hi:X.N[i]?=some x) (hx:yr X.env.scope x) (r:bz v u)
    (h:∀ s',ay X pins (σ.set i (some v)) H s'->(∃ a,Heap.SameBut a s.heap s'.heap/\(a=X.env.locals\/X.env.cells.lookup x=some a))->Q () s') (hf:X.fn x=true\/X.env.scope.names.lookup x=some .local:=by first | exact .inl rfl | exact .inr rfl | assumption):wpAny M A (storeName X.env x u) Q E s:=by
  obtain ⟨m,hn,hl⟩:=id I.loc;have hcls:(X.env.scope.kind==.class||(X.env.scope.kind==.module&&X.env.locals != X.env.globals))=false:=by rw [I.ok.kind];rfl
  have hiσ:i < σ.length:=by rw [I.len];exact (List.getElem?_eq_some_iff.mp hi).1
  have cne:=I.cne;have tracked:∀ {a:Addr} {h':Heap},(∃ o,s.heap.get? a=some o/\H a=none)->Heap.SameBut a s.heap h'->fI X.prog X.w H h':=fun {a h'} ha hs b ob e=>by
    obtain ⟨_,_,hfree⟩:=ha;refine (I.hok b ob e).stay (fun c w' hc q=>(hs.2 c ?_).trans q) (fun _ q=>q) fun _ _ q=>q
    rintro rfl;rcases hc with rfl | hc
    · rw [hfree] at e;cases e
    · rw [hfree] at hc;cases hc
  rcases hx with hk | hk
  · refine wpAny_storeName_local hk hn (fun h' hn' hs=>?_) hcls;obtain ⟨oL,_,_,hoL,_⟩:=id hn;refine h _ ⟨I.ok,I.os,I.bare,⟨fun b o e n hb hx=>?_,fun b o e n hb hx=>?_,I.base.free,fun b o e hx=>?_,I.base.tups,I.base.frzs,I.base.tbls⟩,⟨_,hn',fun j y v' e1 e2 e3=>?_⟩,fun y c e=>?_,I.free,I.freeC,fun p hp=>?_,tracked ⟨oL,hoL,I.free⟩ hs,by simpa using I.len⟩ ⟨_,hs,.inl rfl⟩
    · exact (hs.2 b (Nat.ne_of_lt (Nat.lt_of_lt_of_le (Heap.lt_size e) I.ok.above))).trans (I.base.keep b o e n hb hx)
    · obtain ⟨sl,e1⟩:=I.base.slot b o e n hb hx;exact ⟨sl,(hs.2 b (Nat.ne_of_lt (Nat.lt_of_lt_of_le (Heap.lt_size e) I.ok.above))).trans e1⟩
    · obtain ⟨o',e1⟩:=I.base.there b o e hx;exact ⟨o',(hs.2 b (Nat.ne_of_lt (Nat.lt_of_lt_of_le (Heap.lt_size e) I.ok.above))).trans e1⟩
    · by_cases hj:j=i
      · subst hj;rw [hi] at e1;cases e1;rw [List.getElem?_set_self hiσ] at e2;cases e2;exact ⟨u,r,.inl ⟨hk,by simp⟩⟩
      · rw [List.getElem?_set_ne (Ne.symm hj)] at e2;obtain ⟨u',r',q⟩:=hl j y v' e1 e2 e3;refine ⟨u',r',?_⟩;rcases q with ⟨k,e⟩ | ⟨k,c,e,z⟩
        · refine .inl ⟨k,?_⟩;have:y≠x:=fun e=>hj (kY hN e1 (e ▸ hi))
          simp [this,e]
        · exact .inr ⟨k,c,e,z.sameBut hs (cne y c e)⟩
    · obtain ⟨w',z⟩:=I.cell y c e;exact ⟨w',z.sameBut hs (cne y c e)⟩
    · obtain ⟨e,n,ne,nf,d⟩:=I.pin p hp;exact ⟨(hs.2 p.1 ne).trans e,n,ne,nf,d⟩
  · have hfn:X.fn x=true:=by
      rcases hf with z | z
      · exact z
      · rw [z] at hk;cases hk
    obtain ⟨c,hc⟩:=I.ok.has x (.inl hk);obtain ⟨w',z⟩:=I.cell x c hc;refine wpAny_storeName_cell I.ok.kind hk hc z (fun h' hc' hs=>?_);obtain ⟨oc,hoc,hocd⟩:=id z;refine h { s with heap:=h' } ⟨I.ok,I.os,I.bare,⟨fun b o e n hb hx=>?_,fun b o e n hb hx=>?_,I.base.free,fun b o e hx=>?_,I.base.tups,I.base.frzs,I.base.tbls⟩,⟨m,hn.sameBut hs (Ne.symm (cne x c hc)),fun j y v' e1 e2 e3=>?_⟩,fun y c' e=>?_,I.free,I.freeC,fun p hp=>?_,tracked ⟨oc,hoc,I.freeC x c hc⟩ hs,by simpa using I.len⟩ ⟨c,hs,.inr hc⟩
    · exact (hs.2 b (Nat.ne_of_lt (Nat.lt_of_lt_of_le (Heap.lt_size e) (I.ok.cab x c hfn hc)))).trans (I.base.keep b o e n hb hx)
    · obtain ⟨sl,e1⟩:=I.base.slot b o e n hb hx;exact ⟨sl,(hs.2 b (Nat.ne_of_lt (Nat.lt_of_lt_of_le (Heap.lt_size e) (I.ok.cab x c hfn hc)))).trans e1⟩
    · obtain ⟨o',e1⟩:=I.base.there b o e hx;exact ⟨o',(hs.2 b (Nat.ne_of_lt (Nat.lt_of_lt_of_le (Heap.lt_size e) (I.ok.cab x c hfn hc)))).trans e1⟩
    · by_cases hj:j=i
      · subst hj;rw [hi] at e1;cases e1;rw [List.getElem?_set_self hiσ] at e2;cases e2;exact ⟨u,r,.inr ⟨.inl hk,c,hc,hc'⟩⟩
      · rw [List.getElem?_set_ne (Ne.symm hj)] at e2;obtain ⟨u',r',q⟩:=hl j y v' e1 e2 e3;refine ⟨u',r',?_⟩;rcases q with q | ⟨k,c',e,z'⟩
        · exact .inl q
        · refine .inr ⟨k,c',e,z'.sameBut hs ?_⟩;rintro rfl;exact hj (kY hN e1 (I.ok.inj _ _ _ e hc ▸ hi))
    · by_cases hcc:c'=c
      · subst hcc;exact ⟨_,hc'⟩
      · obtain ⟨w2,z2⟩:=I.cell y c' e;exact ⟨w2,z2.sameBut hs hcc⟩
    · obtain ⟨e,n,ne,nf,d⟩:=I.pin p hp;refine ⟨(hs.2 p.1 ?_).trans e,n,ne,nf,d⟩;intro q;rw [q,hoc] at e;have q':oc=p.2:=Option.some.inj e;exact d w' (by rw [<- q'];exact hocd)
theorem ge {M:Model} {A:Around} {E:Value->Shared->Prop} {i:Nat} {x:Str} {v:V} {u:Value} {Q:Unit->Shared->Prop} (I:ay X pins σ H s) (hN:X.N.Nodup) (hi:X.N[i]?=some x) (hx:yr X.env.scope x) (r:bz v u)
    (h:∀ s',ay X pins (σ.set i (some v)) H s'->Q () s') (hf:X.fn x=true\/X.env.scope.names.lookup x=some .local:=by first | exact .inl rfl | exact .inr rfl | assumption):wpAny M A (storeName X.env x u) Q E s :=
  mf I hN hi hx r (fun s' I' _=>h s' I') hf
theorem ay.call' {s':Shared} {ch:List Addr} (I:ay X pins σ H s) (ho:s'.os=s.os) (u:Un (ja X.stack) ch H H' s.heap s'.heap) (hok:fI X.prog X.w H' s'.heap) (hg:AllBare s'.gens)
    (hch:∀ b∈ch,(b∈X.ex\/X.s₀.heap.objs.size<=b)/\b≠X.env.locals/\(∀ x c,X.env.cells.lookup x=some c->c≠b)/\∀ p∈X.pn++pins,p.1≠b):ay X pins σ H' s':=by
  obtain ⟨h',g',d',t',o'⟩:=s';have e:o'=s.os:=ho;subst e;exact I.call (g':=g') (t':=t') (d':=d') u hok hg hch
end
noncomputable abbrev XK:=Value->Option Addr->Hp->Prop
noncomputable abbrev St:=List (Option V)
noncomputable abbrev VK:=V->Hp->Prop
noncomputable abbrev TE:=St->Hp->VK->Prop
noncomputable abbrev TT:=St->Hp->(Bool->Hp->Prop)->Prop
noncomputable abbrev TA:=St->Hp->(List V->Hp->Prop)->Prop
structure mT where
  nx:St->Hp->Prop
  rt:VK
  bk:St->Hp->Prop:=fun _ _=>False
  ct:St->Hp->Prop:=fun _ _=>False
noncomputable abbrev TS:=mT->St->Hp->Prop
noncomputable def EP (X:Cx) (pins:List (Addr×Obj)) (σ:St) (Q:VK) (u:Value) (s':Shared):Prop:=∃ v H',ay X pins σ H' s'/\bz v u/\Q v H'
noncomputable def TP (X:Cx) (pins:List (Addr×Obj)) (σ:St) (Q:Bool->Hp->Prop) (b:Bool) (s':Shared):Prop:=∃ H',ay X pins σ H' s'/\Q b H'
noncomputable def AP (X:Cx) (pins:List (Addr×Obj)) (σ:St) (Q:List V->Hp->Prop) (us:List Value) (s':Shared):Prop:=∃ vs H',ay X pins σ H' s'/\bp vs us/\Q vs H'
noncomputable def SP (X:Cx) (pins:List (Addr×Obj)) (D:mT) (f:Flow) (s':Shared):Prop :=
  match f with
  | .next=>∃ σ' H',ay X pins σ' H' s'/\D.nx σ' H'
  | .brk=>∃ σ' H',ay X pins σ' H' s'/\D.bk σ' H'
  | .cont=>∃ σ' H',ay X pins σ' H' s'/\D.ct σ' H'
  | .ret u=>∃ v σ' H',ay X pins σ' H' s'/\bz v u/\D.rt v H'
noncomputable def PE (X:Cx) (e:Expr) (t:TE):Prop :=
  ∀ (pins:List (Addr×Obj)) (s:Shared) (σ:St) (H:Hp) (Q:VK),ay X pins σ H s->t σ H Q->wpAny (model X.prog X.w) X.A (eval e X.env) (EP X pins σ Q) X.xe s
noncomputable def PT (X:Cx) (e:Expr) (t:TT):Prop :=
  ∀ (pins:List (Addr×Obj)) (s:Shared) (σ:St) (H:Hp) (Q:Bool->Hp->Prop),ay X pins σ H s->t σ H Q->wpAny (model X.prog X.w) X.A (isTrue e X.env (eval e X.env)) (TP X pins σ Q) X.xe s
noncomputable def PW (X:Cx) (e:Expr) (t:TT):Prop :=
  ∀ (whole:Sem Value) (pins:List (Addr×Obj)) (s:Shared) (σ:St) (H:Hp) (Q:Bool->Hp->Prop),ay X pins σ H s->t σ H Q->wpAny (model X.prog X.w) X.A (isTrue e X.env whole) (TP X pins σ Q) X.xe s
theorem PW.pt {X:Cx} {e:Expr} {t:TT} (h:PW X e t):PT X e t:=h _
noncomputable def PA (X:Cx) (es:List Expr) (t:TA):Prop :=
  ∀ (pos:Pos) (pins:List (Addr×Obj)) (s:Shared) (σ:St) (H:Hp) (Q:List V->Hp->Prop),ay X pins σ H s->t σ H Q->wpAny (model X.prog X.w) X.A (spliced (backTo pos (starEach es X.env))) (AP X pins σ Q) X.xe s
noncomputable def PS (X:Cx) (st:Stmt) (t:TS):Prop :=
  ∀ (pins:List (Addr×Obj)) (s:Shared) (σ:St) (H:Hp) (D:mT),ay X pins σ H s->t D σ H->wpAny (model X.prog X.w) X.A (exec st X.env) (SP X pins D) X.xe s
noncomputable def nX (X:Cx) (st:List Stmt) (t:TS):Prop :=
  ∀ (pins:List (Addr×Obj)) (s:Shared) (σ:St) (H:Hp) (D:mT),ay X pins σ H s->t D σ H->wpAny (model X.prog X.w) X.A (execs st X.env) (SP X pins D) X.xe s
theorem dc {α:Type} {t:Sem α} {Q Q':α->Shared->Prop} {M:Model} {A:Around} {E:Value->Shared->Prop} {s:Shared} (h:wpAny M A t Q E s) (hQ:∀ a s,Q a s->Q' a s):wpAny M A t Q' E s:=wpAny_mono h hQ fun _ _ x=>x
section
variable {X:Cx}
theorem Bt {a b:Expr} {ta tb:TE} (ha:PE X a ta) (hb:PE X b tb) {pins:List (Addr×Obj)} {s:Shared} {σ:St} {H:Hp} {R:V->V->Hp->Prop} (I:ay X pins σ H s) (h:ta σ H fun x H1=>tb σ H1 fun y H2=>R x y H2)
    {α:Type} {Q:α->Shared->Prop} {f:Value->Value->Sem α}
    (hf:∀ v u s2 x y H2,ay X pins σ H2 s2->bz x v->bz y u->R x y H2->wpAny (model X.prog X.w) X.A (f v u) Q X.xe s2) :
    wpAny (model X.prog X.w) X.A (eval a X.env) (fun v s₁=>wpAny (model X.prog X.w) X.A (eval b X.env) (fun u s₂=>wpAny (model X.prog X.w) X.A (f v u) Q X.xe s₂) X.xe s₁) X.xe s:=by
  refine dc (ha pins s σ H _ I h) fun v s1 ⟨x,H1,I1,r1,q1⟩=>?_
  refine dc (hb pins s1 σ H1 _ I1 q1) fun u s2 ⟨y,H2,I2,r2,q2⟩=>?_
  exact hf v u s2 x y H2 I2 r1 r2 q2
noncomputable def wn (i:Nat):TE:=fun σ H Q=>∃ v,σ[i]?=some (some v)/\Q v H
noncomputable def tC (v:V):TE:=fun _ H Q=>Q v H
theorem fA {i:Nat} {x:Str} {pos:Pos} (hN:X.N[i]?=some x) (hv:zU X.env.scope x) (hd:(x==("__debug__" : Str))=false:=by decide) (hcd:(x==("__classdict__" : Str))=false:=by decide):PE X (.Name x pos) (wn i):=by
  intro pins s σ H Q I h;obtain ⟨v,e,h⟩:=h;obtain ⟨m,hn,hl⟩:=I.loc;obtain ⟨u,r,l⟩:=hl i x v hN e hv;have fin:EP X pins σ Q u s:=⟨v,H,I,r,h⟩
  rcases l with ⟨hk,hm⟩ | ⟨hk,c,hc,hcell⟩
  · exact wpAny_Name (wpAny_loadName_local I.ok.kind hk hn hm fin) hd
  · rcases hk with hk | hk
    · exact wpAny_Name (wpAny_loadName_cell I.ok.kind hk hc hcell fin) hd
    · exact wpAny_Name (wpAny_loadName_free I.ok.kind hk hc hcell fin hcd) hd
theorem yx {i j pos}:PE X (.Constant (.int i) j pos) (tC (.int i)):=fun _ _ _ H _ I h=>wpAny_Constant_int ⟨.int i,H,I.tok _,⟨_,rfl⟩,h⟩
theorem zQ {b j pos}:PE X (.Constant (.bool b) j pos) (tC (.bl b)):=fun _ _ _ H _ I h=>Constant_bool ⟨.bl b,H,I,rfl,h⟩
theorem yB {j pos}:PE X (.Constant .none j pos) (tC .non):=fun _ _ _ H _ I h=>Constant_none ⟨.non,H,I,rfl,h⟩
theorem uB {x j pos}:PE X (.Constant (.str x) j pos) (tC (.str x)):=fun _ _ _ H _ I h=>Calls.Constant_str ⟨.str x,H,I.tok _,⟨_,rfl⟩,h⟩
noncomputable def Gl (X:Cx) (x:Str):Prop:=X.env.kindOf x=some .globalImplicit
theorem jl {E:Value->Shared->Prop} {pins:List (Addr×Obj)} {s:Shared} {σ:St} {H:Hp} {x:Str} {u:Value} {pos:Pos} {Q:Value->Shared->Prop} (I:ay X pins σ H s) (hg:Gl X x) (hm:X.mg x=some u) (h:Q u s)
    (hd:(x==("__debug__" : Str))=false:=by decide):wpAny (model X.prog X.w) X.A (eval (.Name x pos) X.env) Q E s :=
  Calls.Name_function_global I.ok.kind hg (Calls.loadGlobal_global (by rw [I.ok.glob];exact I.mod.glob.keeps I.bk) hm h) hd
theorem kJ {E:Value->Shared->Prop} {pins:List (Addr×Obj)} {s:Shared} {σ:St} {H:Hp} {x:Str} {u:Value} {pos:Pos} {Q:Value->Shared->Prop} (I:ay X pins σ H s) (hg:Gl X x) (hm:X.mg x=none) (hv:bootBuiltins x=some u) (h:Q u s)
    (hn:x ≠ "__name__" := by decide) (hd:(x==("__debug__" : Str))=false:=by decide):wpAny (model X.prog X.w) X.A (eval (.Name x pos) X.env) Q E s:=by
  obtain ⟨mb,h1,h2⟩:=I.mod.blt;exact Calls.Name_function_global I.ok.kind hg (Calls.loadGlobal_builtin (by rw [I.ok.glob];exact I.mod.glob.keeps I.bk) hm (by rw [I.ok.blt];exact h1.keeps I.bk) ((h2 x hn).trans hv) h) hd
theorem mP {x:Str} {v:V} {u:Value} {pos:Pos} (hg:Gl X x) (hm:X.mg x=some u) (r:bz v u) (hd:(x==("__debug__" : Str))=false:=by decide):PE X (.Name x pos) (tC v) :=
  fun _ _ _ H _ I h=>jl I hg hm ⟨v,H,I,r,h⟩ hd
theorem qS {x:Str} {v:V} {u:Value} {pos:Pos} (hg:Gl X x) (hm:X.mg x=none) (hv:bootBuiltins x=some u) (r:bz v u) (hn:x ≠ "__name__" := by decide) (hd:(x==("__debug__" : Str))=false:=by decide):PE X (.Name x pos) (tC v) :=
  fun _ _ _ H _ I h=>kJ I hg hm hv ⟨v,H,I,r,h⟩ hn hd
variable {a b:Expr} {ta tb:TE} {pos:Pos}
noncomputable def PC (X:Cx) (op:CmpOp) (a b:Expr) (t:TE):Prop :=
  ∀ (pins:List (Addr×Obj)) (s:Shared) (σ:St) (H:Hp) (Q:VK),ay X pins σ H s->t σ H Q ->
    wpAny (model X.prog X.w) X.A (eval a X.env) (fun v s₁=>wpAny (model X.prog X.w) X.A (eval b X.env) (fun u s₂=>wpAny (model X.prog X.w) X.A (compareOp op v u) (EP X pins σ Q) X.xe s₂) X.xe s₁) X.xe s
theorem uV (b:Expr) {op:CmpOp} (h:op≠.In) (h2:op≠.NotIn):behindInMarks op b=false:=by
  have e1:(op==CmpOp.In)=false:=by cases op <;> first | rfl | exact absurd rfl h
  have e2:(op==CmpOp.NotIn)=false:=by cases op <;> first | rfl | exact absurd rfl h2
  cases b <;> simp [behindInMarks,e1,e2]
noncomputable def tB (t:TE):TT:=fun σ H Q=>t σ H fun x H1=>∃ c,x=.bl c/\Q c H1
theorem AS {op:CmpOp} {t:TE} (h:PC X op a b t) (h1:behindInMarks op b=false:=by first | exact uV _ (by decide) (by decide) | rfl):PT X (.Compare a [op] [b] pos) (tB t):=by
  intro pins s σ H Q I hw;refine wpAny_isTrue_Compare1 (dc (h pins s σ H _ I hw) fun v s1 h1=>dc h1 fun u s2 h2=>dc h2 fun c s3 ⟨x,H1,I1,r1,q1⟩=>?_) h1;obtain ⟨d,rfl,q⟩:=q1;cases r1;exact wpAny_truthy_bool ⟨H1,I1,q⟩
theorem yl {e:Expr} {t:TE} (h:PE X e t) (he:∀ whole,isTrue e X.env whole=(do let v <- whole;standAt e.pos;holding [v] (truthy v)):=by intro _;rfl):PT X e (tB t):=by
  intro pins s σ H Q I hw;refine isTrue_plain (dc (h pins s σ H _ I hw) fun v s1 ⟨x,H1,I1,r1,q1⟩=>?_) (he _);obtain ⟨d,rfl,q⟩:=q1;cases r1;exact wpAny_truthy_bool ⟨H1,I1,q⟩
variable {tA tB':TT} {dn:List Expr}
noncomputable def Br (t u:TT):TT:=fun σ H Q=>t σ H fun c H1=>if c=true then Q true H1 else u σ H1 Q
noncomputable def AT (t:TT):TT:=fun σ H Q=>t σ H fun c H1=>Q (!c) H1
theorem pw_or1 (ha:PT X a tA):PW X (.BoolOp .Or [a] pos) tA:=by
  intro wh pins s σ H Q I h;refine isTrue_or (dc (ha pins s σ H Q I h) fun c s1 e=>?_);cases c with
  | false=>exact isTrue_or_nil e
  | true=>exact e
theorem pw_or (ha:PT X a tA) (hb:PW X (.BoolOp .Or (b::dn) pos) tB'):PW X (.BoolOp .Or (a::b::dn) pos) (Br tA tB'):=by
  intro wh pins s σ H Q I h;refine isTrue_or (dc (ha pins s σ H _ I h) fun c s1 ⟨H1,I1,q1⟩=>?_);cases c with
  | true=>exact ⟨H1,I1,q1⟩
  | false=>exact hb wh pins s1 σ H1 Q I1 q1
theorem yD (ha:PT X a tA):PT X (.UnaryOp .Not a pos) (AT tA):=by
  intro pins s σ H Q I h;exact isTrue_not (ha pins s σ H (fun c H1=>Q (!c) H1) I h)
noncomputable def z6 (ta tb:TE):TE:=fun σ H Q=>ta σ H fun x H1=>∃ c,x=.bl c/\if c=true then tb σ H1 Q else Q (.bl false) H1
noncomputable def A0 (ta tb:TE):TE:=fun σ H Q=>ta σ H fun x H1=>∃ c,x=.bl c/\if c=true then Q (.bl true) H1 else tb σ H1 Q
noncomputable def z9 (ta:TE):TE:=fun σ H Q=>ta σ H fun x H1=>∃ c,x=.bl c/\Q (.bl (!c)) H1
theorem yG {op} {t:TE} (h:PE X a t):PE X (.BoolOp op [a] pos) t:=fun pins s σ H Q I hw=>BoolOp_one (h pins s σ H Q I hw)
theorem yy (ha:PE X a ta) (hb:PE X (.BoolOp .And (b::dn) pos) tb):PE X (.BoolOp .And (a::b::dn) pos) (z6 ta tb):=by
  intro pins s σ H Q I h;refine BoolOp_and (dc (ha pins s σ H _ I h) fun v s1 ⟨x,H1,I1,r1,q1⟩=>?_);obtain ⟨c,rfl,q1⟩:=q1;cases r1;refine wpAny_truthy_bool ?_;cases c with
  | true=>exact hb pins s1 σ H1 Q I1 q1
  | false=>exact ⟨.bl false,H1,I1,rfl,q1⟩
theorem z0 (ha:PE X a ta) (hb:PE X (.BoolOp .Or (b::dn) pos) tb):PE X (.BoolOp .Or (a::b::dn) pos) (A0 ta tb):=by
  intro pins s σ H Q I h;refine BoolOp_or (dc (ha pins s σ H _ I h) fun v s1 ⟨x,H1,I1,r1,q1⟩=>?_);obtain ⟨c,rfl,q1⟩:=q1;cases r1;refine wpAny_truthy_bool ?_;cases c with
  | false=>exact hb pins s1 σ H1 Q I1 q1
  | true=>exact ⟨.bl true,H1,I1,rfl,q1⟩
theorem yX (ha:PE X a ta):PE X (.UnaryOp .Not a pos) (z9 ta):=by
  intro pins s σ H Q I h;refine UnaryOp_ (dc (ha pins s σ H _ I h) fun v s1 ⟨x,H1,I1,r1,q1⟩=>?_);obtain ⟨c,rfl,q1⟩:=q1;cases r1;exact not_of (wpAny_truthy_bool ⟨.bl (!c),H1,I1,rfl,q1⟩)
end
noncomputable def kW (K:PySem.W.Frag) (H:Hp) (a:Addr) (xs:List V):Prop :=
  Rd H a (.lst xs) \/
    ∃ (o:Obj) (its:Array Value) (n:Nat),K.lookup a=some o/\o.cls=.type "list" /\ o.dict=none/\o.data=.seq its n/\its.size<=sizeLine/\bp xs its.toList
noncomputable def iA (K:PySem.W.Frag) (H:Hp) (a:Addr) (xs:List V):Prop :=
  Rd H a (.tup xs) \/
    ∃ (o:Obj) (its:Array Value) (n:Nat),K.lookup a=some o/\o.cls=.type "tuple" /\ o.data=.seq its n/\its.size<=sizeLine/\bp xs its.toList
noncomputable def AA:Value->Option V
  | .none=>some .non
  | .bool b=>some (.bl b)
  | .int i _=>some (.int i)
  | .str x _=>some (.str x)
  | .bytes b _=>some (.byt b)
  | .float b _=>some (.flt b)
  | .ref a=>some (.ref a)
  | .type n=>some (.ty n)
  | _=>none
theorem bz.abs {x:V} {u:Value} (r:bz x u):AA u=some x:=by
  cases x with
  | non=>cases r;rfl
  | bl _=>cases r;rfl
  | int _=>obtain ⟨t,rfl⟩:=r;rfl
  | str _=>obtain ⟨t,rfl⟩:=r;rfl
  | byt _=>obtain ⟨t,rfl⟩:=r;rfl
  | flt _=>obtain ⟨t,rfl⟩:=r;rfl
  | ref _=>cases r;rfl
  | ty _=>cases r;rfl
theorem bz.inj {x y:V} {u:Value} (r:bz x u) (q:bz y u):x=y:=Option.some.inj (r.abs.symm.trans q.abs)
theorem bp.inj:∀ {xs ys:List V} {us:List Value},bp xs us->bp ys us->xs=ys
  | _,_,_,.nil,.nil=>rfl
  | _,_,_,.cons r t,.cons r' t'=>by rw [r.inj r',bp.inj t t']
section
variable {X:Cx} {pins:List (Addr×Obj)} {σ:St} {H:Hp} {s:Shared} {a:Addr} {xs ys:List V}
theorem kW.of {K:PySem.W.Frag} (h:H a=some (.lst xs)):kW K H a xs:=.inl (.inl h)
theorem iA.of {K:PySem.W.Frag} (h:H a=some (.tup xs)):iA K H a xs:=.inl (.inl h)
theorem ay.list (I:ay X pins σ H s) (h:kW X.K H a xs):∃ its:List Value,bp xs its/\PlainL s.heap a its.toArray/\xs.length<=sizeLine:=by
  rcases h with h | ⟨o,its,n,hk,hc,hd,hs,hz,r⟩
  · obtain ⟨z,its,n,r,e⟩:=h.ok I.hok;exact ⟨its,r,⟨_,n,e,rfl,rfl,rfl⟩,z⟩
  · refine ⟨its.toList,r,⟨o,n,I.kIn a o hk,hc,hd,by simpa using hs⟩,?_⟩;have e:=r.length;simp only [Array.length_toList] at e;omega
theorem ay.tuple (I:ay X pins σ H s) (h:iA X.K H a xs):∃ its:List Value,bp xs its/\IsTup s.heap a its.toArray/\xs.length<=sizeLine:=by
  rcases h with h | ⟨o,its,n,hk,hc,hs,hz,r⟩
  · obtain ⟨z,its,r,p⟩:=h.ok I.hok;exact ⟨its,r,p,z⟩
  · refine ⟨its.toList,r,⟨o,I.kIn a o hk,hc,n,by simpa using hs⟩,?_⟩;have e:=r.length;simp only [Array.length_toList] at e;omega
theorem ay.list_inj (I:ay X pins σ H s) (h:kW X.K H a xs) (h':kW X.K H a ys):xs=ys:=by
  obtain ⟨its,r,⟨o,n,e,_,_,d⟩,_⟩:=I.list h;obtain ⟨its',r',⟨o',n',e',_,_,d'⟩,_⟩:=I.list h';rw [e] at e';cases e';rw [d] at d';injection d' with d1 _
  have:its=its':=by simpa using congrArg Array.toList d1
  subst this;exact r.inj r'
theorem ay.tuple_inj (I:ay X pins σ H s) (h:iA X.K H a xs) (h':iA X.K H a ys):xs=ys:=by
  obtain ⟨its,r,⟨o,e,_,n,d⟩,_⟩:=I.tuple h;obtain ⟨its',r',⟨o',e',_,n',d'⟩,_⟩:=I.tuple h';rw [e] at e';cases e';rw [d] at d';injection d' with d1 _
  have:its=its':=by simpa using congrArg Array.toList d1
  subst this;exact r.inj r'
end
noncomputable abbrev Cx.wish (X:Cx) (E:Value->Shared->Prop):Cx:={ X with xe:=E }
noncomputable abbrev Cx.nox (X:Cx):Cx:=X.wish fun _ _=>False
theorem Cx.Ok.wish {X:Cx} (ok:X.Ok) (E:Value->Shared->Prop):(X.wish E).Ok :=
  ⟨ok.mod,ok.kind,ok.glob,ok.blt,ok.above,ok.inj,ok.has,ok.cab,ok.hd,ok.frames,ok.stk,ok.exf,ok.bs,ok.bsz,ok.noex,ok.exfs,ok.funs,ok.frf⟩
theorem Cx.Ok.unwish {X:Cx} {E:Value->Shared->Prop} (ok:(X.wish E).Ok):X.Ok :=
  ⟨ok.mod,ok.kind,ok.glob,ok.blt,ok.above,ok.inj,ok.has,ok.cab,ok.hd,ok.frames,ok.stk,ok.exf,ok.bs,ok.bsz,ok.noex,ok.exfs,ok.funs,ok.frf⟩
section
variable {X:Cx} {pins:List (Addr×Obj)} {σ:St} {H:Hp} {s:Shared} {E:Value->Shared->Prop}
theorem ay.wish (I:ay X pins σ H s) (E:Value->Shared->Prop):ay (X.wish E) pins σ H s:=⟨I.ok.wish E,I.os,I.bare,I.base,I.loc,I.cell,I.free,I.freeC,I.pin,I.hok,I.len⟩
theorem ay.unwish (I:ay (X.wish E) pins σ H s):ay X pins σ H s:=⟨I.ok.unwish,I.os,I.bare,I.base,I.loc,I.cell,I.free,I.freeC,I.pin,I.hok,I.len⟩
theorem SP.unwish {D:mT} {f:Flow} {s':Shared} (h:SP (X.wish E) pins D f s'):SP X pins D f s':=by
  cases f with
  | next=>obtain ⟨σ',H',I,q⟩:=h;exact ⟨σ',H',I.unwish,q⟩
  | brk=>obtain ⟨σ',H',I,q⟩:=h;exact ⟨σ',H',I.unwish,q⟩
  | cont=>obtain ⟨σ',H',I,q⟩:=h;exact ⟨σ',H',I.unwish,q⟩
  | ret u=>obtain ⟨v,σ',H',I,r,q⟩:=h;exact ⟨v,σ',H',I.unwish,r,q⟩
theorem PE.nox {e:Expr} {t:TE} (h:PE X.nox e t):PE X e t:=fun pins s σ H Q I hw =>
  wpAny_mono (h pins s σ H Q (I.wish _) hw) (fun _ _ ⟨v,H',I',r,q⟩=>⟨v,H',I'.unwish,r,q⟩) fun _ _ z=>False.elim z
theorem PT.nox {e:Expr} {t:TT} (h:PT X.nox e t):PT X e t:=fun pins s σ H Q I hw =>
  wpAny_mono (h pins s σ H Q (I.wish _) hw) (fun _ _ ⟨H',I',q⟩=>⟨H',I'.unwish,q⟩) fun _ _ z=>False.elim z
theorem nX.nox {st:List Stmt} {t:TS} (h:nX X.nox st t):nX X st t:=fun pins s σ H D I hw =>
  wpAny_mono (h pins s σ H D (I.wish _) hw) (fun _ _ q=>q.unwish) fun _ _ z=>False.elim z
end
section
variable {X:Cx} {st:Stmt} {dn:List Stmt} {t u:TS} {e:Expr} {te:TE} {pos:Pos}
noncomputable def z8:TS:=fun D σ H=>D.nx σ H
noncomputable def AZ (t u:TS):TS:=fun D σ H=>t { D with nx:=u D } σ H
theorem wH:nX X [] z8:=fun _ _ σ H _ I h=>wpAny_execs_nil ⟨σ,H,I,h⟩
theorem uh (h1:PS X st t) (h2:nX X dn u):nX X (st::dn) (AZ t u):=by
  intro pins s σ H D I h;refine wpAny_execs_cons (dc (h1 pins s σ H { D with nx:=u D } I h) fun f s1 q=>?_);cases f with
  | next =>
    obtain ⟨σ',H',I',q⟩:=q;exact h2 pins s1 σ' H' D I' q
  | ret v=>exact q
  | brk=>exact q
  | cont=>exact q
theorem w8 (h1:PS X st t):nX X [st] t:=by
  intro pins s σ H D I h;refine wpAny_execs_cons (dc (h1 pins s σ H D I h) fun f s1 q=>?_);cases f with
  | next=>exact wpAny_execs_nil q
  | ret v=>exact q
  | brk=>exact q
  | cont=>exact q
theorem ay.quiet {pins:List (Addr×Obj)} {σ:St} {H:Hp} {s:Shared} (I:ay X pins σ H s):interactive X.env=false:=by simp [interactive,I.ok.kind]
noncomputable def Af (te:TE):TS:=fun D σ H=>te σ H fun _ H1=>D.nx σ H1
theorem rf (he:PE X e te) (hs:swapsWith e none pos.line X.env=pure false:=by rfl):PS X (.Expr e pos) (Af te):=by
  intro pins s σ H D I h;exact wpAny_Expr_any (dc (he pins s σ H _ I h) fun v s1 ⟨x,H1,I1,r1,q1⟩=>⟨σ,H1,I1,q1⟩) I.quiet hs
noncomputable def A1 (te:TE):TS:=fun D σ H=>te σ H D.rt
theorem qt (he:PE X e te):PS X (.Return (some e) pos) (A1 te):=by
  intro pins s σ H D I h;exact wpAny_Return_some (dc (he pins s σ H _ I h) fun v s1 ⟨x,H1,I1,r1,q1⟩=>⟨x,σ,H1,I1,r1,q1⟩)
noncomputable def A4 (c:TT) (t u:TS):TS:=fun D σ H=>c σ H fun b H1=>if b=true then t D σ H1 else u D σ H1
theorem zK {c:Expr} {a b:List Stmt} {tc:TT} (hc:PT X c tc) (ha:nX X a t) (hb:nX X b u):PS X (.If c a b pos) (A4 tc t u):=by
  intro pins s σ H D I h;refine wpAny_If (dc (hc pins s σ H _ I h) fun d s1 ⟨H1,I1,q1⟩=>?_);cases d with
  | true=>exact ha pins s1 σ H1 D I1 q1
  | false=>exact hb pins s1 σ H1 D I1 q1
end
noncomputable abbrev TG:=V->St->Hp->(St->Hp->Prop)->Prop
noncomputable def PG (X:Cx) (target:Expr) (t:TG):Prop :=
  ∀ (pins:List (Addr×Obj)) (s:Shared) (σ:St) (H:Hp) (v:V) (u:Value) (Q:St->Hp->Prop),ay X pins σ H s->bz v u->t v σ H Q ->
    wpAny (model X.prog X.w) X.A (assign target X.env u) (fun _ s'=>∃ σ' H',ay X pins σ' H' s'/\Q σ' H') X.xe s
section
variable {X:Cx} {pos:Pos}
noncomputable def xK (i:Nat):TG:=fun v σ H Q=>Q (σ.set i (some v)) H
theorem wR {i:Nat} {x:Str} (hN:X.N.Nodup) (hi:X.N[i]?=some x) (hx:yr X.env.scope x) (hf:X.fn x=true\/X.env.scope.names.lookup x=some .local:=by first | exact .inl rfl | exact .inr rfl | assumption):PG X (.Name x pos) (xK i):=by
  intro pins s σ H v u Q I r h;exact wpAny_assign_Name (ge I hN hi hx r (fun s' I'=>⟨_,H,I',h⟩) hf)
noncomputable def Aw (te:TE) (g:TG):TS:=fun D σ H=>te σ H fun x H1=>g x σ H1 D.nx
theorem vo {i:Nat} {x:Str} {e:Expr} {te:TE} {pos':Pos} (hN:X.N.Nodup) (hi:X.N[i]?=some x) (hx:yr X.env.scope x) (he:PE X e te) (hs:swapsWith e (some (.Name x pos')) pos.line X.env=pure false:=by rfl) (hf:X.fn x=true\/X.env.scope.names.lookup x=some .local:=by first | exact .inl rfl | exact .inr rfl | assumption) :
    PS X (.Assign [.Name x pos'] e pos) (Aw te (xK i)):=by
  intro pins s σ H D I h;refine wpAny_Assign_Name (dc (he pins s σ H _ I h) fun v s1 ⟨y,H1,I1,r1,q1⟩=>?_) hs;exact ge I1 hN hi hx r1 (fun s2 I2=>⟨_,H1,I2,q1⟩) hf
end
structure It where
  go:Nat->Hp->Prop
  yld:Nat->Hp->V->Hp->Prop
  stop:Nat->Hp->Prop
noncomputable def lW (X:Cx) (pins:List (Addr×Obj)) (H:Hp) (b:Addr):Prop :=
  H b=none/\b≠X.env.locals/\b∉X.fs/\(b∈X.ex\/X.s₀.heap.objs.size<=b)/\(∀ x c,X.env.cells.lookup x=some c->c≠b)/\∀ p∈X.pn++pins,p.1≠b
theorem ay.fpOk {X:Cx} {pins:List (Addr×Obj)} {σ:St} {H H':Hp} {s:Shared} {b:Addr} (I:ay X pins σ H s) (hb:s.heap.objs.size<=b) (hn:H' b=none):lW X pins H' b:=by
  refine ⟨hn,Nat.ne_of_gt (Nat.lt_of_lt_of_le I.lt hb),I.nofs hb,.inr (Nat.le_trans I.sz hb),fun x c e z=>?_,fun p hp z=>?_⟩
  · obtain ⟨v,q⟩:=I.cell x c e;exact absurd (Nat.lt_of_lt_of_le q.lt (by rw [z];exact hb)) (Nat.lt_irrefl _)
  · exact absurd (Nat.lt_of_lt_of_le (Heap.lt_size (I.pin p hp).1) (by rw [z];exact hb)) (Nat.lt_irrefl _)
structure tM (P:Program) (w:World) (K:PySem.W.Frag) (tg:Expr) (J:It) (fp:List Addr) (it:Addr) (tn:Nat->Heap->Prop):Prop where
  mem:it∈fp
  obj:∀ i h,tn i h->∀ b∈fp,∃ o,h.get? b=some o/\∀ v,o.data≠.cell v
  keep:∀ i h h',tn i h->(∀ b∈fp,∀ o,h.get? b=some o->h'.get? b=some o)->tn i h'
  item:∀ (X:Cx),X.prog=P->X.w=w->X.K=K->X.calm=true->∀ (i:Nat) (pins:List (Addr×Obj)) (s:Shared) (σ:St) (H:Hp) (E:Value->Shared->Prop),ay X pins σ H s->(∀ b∈fp,lW X pins H b)->tn i s.heap->J.go i H ->
    wpAny (model P w) X.A (pyNext (.ref it)) (fun r s1=>∃ u,r=some u /\
      wpAny (model P w) X.A (letOwnedTupleGo tg (.ref it) u) (fun _ s2=>∃ x H',ay X pins σ H' s2/\bz x u/\J.yld i H x H'/\tn (i+1) s2.heap/\∀ b∈fp,H' b=none) E s1) E s
  done:∀ (X:Cx),X.prog=P->X.w=w->X.K=K->X.calm=true->∀ (i:Nat) (pins:List (Addr×Obj)) (s:Shared) (σ:St) (H:Hp) (E:Value->Shared->Prop),ay X pins σ H s->(∀ b∈fp,lW X pins H b)->tn i s.heap->J.stop i H ->
    wpAny (model P w) X.A (pyNext (.ref it)) (fun r s1=>r=none/\ay X pins σ H s1) E s
  self:∀ (A:Around) (i:Nat) (s:Shared) (Q:Value->Shared->Prop) (E:Value->Shared->Prop),tn i s.heap->Q (.ref it) s->wpAny (model P w) A (pyIter (.ref it)) Q E s
noncomputable abbrev TI:=St->Hp->(It->Hp->Prop)->Prop
noncomputable def A9 (X:Cx) (pins:List (Addr×Obj)) (σ:St) (tg:Expr) (R:It->Hp->Prop) (itv:Value) (s2:Shared):Prop :=
  ∃ (it:Addr) (fp:List Addr) (tn:Nat->Heap->Prop) (J:It) (H':Hp),itv=.ref it/\ay X pins σ H' s2/\tM X.prog X.w X.K tg J fp it tn/\tn 0 s2.heap/\(∀ b∈fp,lW X pins H' b)/\R J H'
noncomputable def PI (X:Cx) (tg iter:Expr) (wi:TI):Prop :=
  ∀ (pins:List (Addr×Obj)) (s:Shared) (σ:St) (H:Hp) (R:It->Hp->Prop),ay X pins σ H s->wi σ H R ->
    wpAny (model X.prog X.w) X.A (eval iter X.env) (fun v s1=>wpAny (model X.prog X.w) X.A (pyIter v) (A9 X pins σ tg R) X.xe s1) X.xe s
theorem um {M:Model} {A:Around} {E:Value->Shared->Prop} {s:Shared} {tg:Expr} {it:Addr} {u:Value} {o:Obj} {n:String} {vs:Array Value} {Q:Unit->Shared->Prop} (ho:s.heap.get? it=some o) (hc:o.cls=.type n) (hd:o.data=.fields vs)
    (hn:["enumerate","zip","dict_itemiterator","dict_reverseitemiterator","odict_iterator","itertools.zip_longest","itertools.pairwise"].contains n=false) (hQ:Q () s):wpAny M A (letOwnedTupleGo tg (.ref it) u) Q E s:=by
  unfold letOwnedTupleGo;cases tg <;> first
    | exact wpAny_pure hQ
    | (cases u <;> first
        | exact wpAny_pure hQ
        | (refine wpAny_bind (wpAny_load ho ?_)
           rw [hc,hd];show wpAny M A (if (["enumerate","zip","dict_itemiterator","dict_reverseitemiterator","odict_iterator","itertools.zip_longest","itertools.pairwise"].contains n&&vs[0]?==some (rawInt _))=true then _ else _) Q E s;rw [if_neg (by intro h;rw [hn,Bool.false_and] at h;cases h)];exact wpAny_pure hQ))
noncomputable def Av (K:PySem.W.Frag) (a:Addr):It :=
  ⟨fun i H=>∃ xs x,kW K H a xs/\xs[i]?=some x,fun i H x H'=>H'=H/\∀ xs,kW K H a xs->xs[i]?=some x,fun i H=>∃ xs,kW K H a xs/\xs.length<=i⟩
noncomputable def AU (K:PySem.W.Frag) (a:Addr):It :=
  ⟨fun i H=>∃ xs x,iA K H a xs/\xs[i]?=some x,fun i H x H'=>H'=H/\∀ xs,iA K H a xs->xs[i]?=some x,fun i H=>∃ xs,iA K H a xs/\xs.length<=i⟩
noncomputable def zL (lo:Int) (n:Nat):It:=⟨fun i _=>i < n,fun i H x H'=>H'=H/\x=.int (lo+i),fun i _=>n<=i⟩
theorem sT {P:Program} {w:World} {K:PySem.W.Frag} {tg:Expr} (a it:Addr):tM P w K tg (Av K a) [it] it (fun i h=>h.IsListIter it a i) where
  mem:=by simp
  obj:=fun i h st b hb=>by
    have e:b=it:=by simpa using hb
    subst e;obtain ⟨o,e,c,d⟩:=st;exact ⟨o,e,fun v z=>by rw [d] at z;cases z⟩
  keep:=fun i h h' st k=>st.at fun o e=>k it (by simp) o e
  item:=by
    intro X hP hw hK hc i pins s σ H E I hf st hg;subst hP hw hK;obtain ⟨xs,x,hq,hx⟩:=hg;obtain ⟨its,rv,p,hz⟩:=I.list hq;obtain ⟨u,hu,ru⟩:=rv.get hx;obtain ⟨f0,f1,f2,f3,f4,f5⟩:=hf it (by simp);refine wpAny_pyNext_list_item st p.isList (x:=u) (by simpa using hu) fun h' st' sb=>?_
    have I1:ay X pins σ H { s with heap:=h' }:=I.turned (t':=s.toks) (fun b o hb e=>(sb.2 b hb).trans e) f0 f1 f3 f4 f5;obtain ⟨o,e,c,d⟩:=id st';exact ⟨u,rfl,um (s:={ s with heap:=h' }) e c d (by decide) ⟨x,H,I1,ru,⟨rfl,fun ys hy=>by rw [I.list_inj hy hq];exact hx⟩,st',fun b hb=>(hf b hb).1⟩⟩
  done:=by
    intro X hP hw hK hc i pins s σ H E I hf st hg;subst hP hw hK;obtain ⟨xs,hq,hx⟩:=hg;obtain ⟨its,rv,p,hz⟩:=I.list hq;obtain ⟨f0,f1,f2,f3,f4,f5⟩:=hf it (by simp);have hl:=rv.length;exact wpAny_pyNext_list_end (I.ok.hd hc) st p.isList (by simp;omega) fun h' eb=>⟨rfl,I.turned (t':=s.toks) (fun b o hb e=>eb b o hb e) f0 f1 f3 f4 f5⟩
  self:=fun _ _ _ _ _ st h=>wpAny_pyIter_listiter st h
theorem p9 {P:Program} {w:World} {K:PySem.W.Frag} {tg:Expr} (a it:Addr):tM P w K tg (AU K a) [it] it (fun i h=>h.IsTupleIter it a i) where
  mem:=by simp
  obj:=fun i h st b hb=>by
    have e:b=it:=by simpa using hb
    subst e;obtain ⟨o,e,c,d⟩:=st;exact ⟨o,e,fun v z=>by rw [d] at z;cases z⟩
  keep:=fun i h h' st k=>st.at fun o e=>k it (by simp) o e
  item:=by
    intro X hP hw hK hc i pins s σ H E I hf st hg;subst hP hw hK;obtain ⟨xs,x,hq,hx⟩:=hg;obtain ⟨its,rv,p,hz⟩:=I.tuple hq;obtain ⟨u,hu,ru⟩:=rv.get hx;obtain ⟨f0,f1,f2,f3,f4,f5⟩:=hf it (by simp);refine wpAny_pyNext_tuple_item st (show s.heap.IsTuple a its.toArray from p) (x:=u) (by simpa using hu) fun h' st' sb=>?_
    have I1:ay X pins σ H { s with heap:=h' }:=I.turned (t':=s.toks) (fun b o hb e=>(sb.2 b hb).trans e) f0 f1 f3 f4 f5;obtain ⟨o,e,c,d⟩:=id st';exact ⟨u,rfl,um (s:={ s with heap:=h' }) e c d (by decide) ⟨x,H,I1,ru,⟨rfl,fun ys hy=>by rw [I.tuple_inj hy hq];exact hx⟩,st',fun b hb=>(hf b hb).1⟩⟩
  done:=by
    intro X hP hw hK hc i pins s σ H E I hf st hg;subst hP hw hK;obtain ⟨xs,hq,hx⟩:=hg;obtain ⟨its,rv,p,hz⟩:=I.tuple hq;obtain ⟨f0,f1,f2,f3,f4,f5⟩:=hf it (by simp);have hl:=rv.length;exact wpAny_pyNext_tuple_end (I.ok.hd hc) st (show s.heap.IsTuple a its.toArray from p) (by simp;omega) fun h' eb=>⟨rfl,I.turned (t':=s.toks) (fun b o hb e=>eb b o hb e) f0 f1 f3 f4 f5⟩
  self:=fun _ _ _ _ _ st h=>wpAny_pyIter_tupleiter st h
theorem qj {P:Program} {w:World} {K:PySem.W.Frag} {tg:Expr} (it:Addr) (lo:Int) (n:Nat):tM P w K tg (zL lo n) [it] it (fun i h=>IsRangeIter h it (lo+(i:Nat)*1) ((n:Int)-(i:Nat)) 1) where
  mem:=by simp
  obj:=fun i h st b hb=>by
    have e:b=it:=by simpa using hb
    subst e;exact ⟨_,st,fun v z=>by
      have z':Data.fields _=Data.cell v:=z;cases z'⟩
  keep:=fun i h h' st k=>k it (by simp) _ st
  item:=by
    intro X hP hw hK hc i pins s σ H E I hf st hg;subst hP hw hK;obtain ⟨f0,f1,f2,f3,f4,f5⟩:=hf it (by simp);have W:=Walks.range (prog:=X.prog) (w:=X.w) (I.ok.hd hc) it lo 1 n;refine W.item i s _ _ hg st fun v h' tk hv st' kk=>?_
    obtain ⟨t,rfl⟩:=hv;have I1:ay X pins σ H { s with heap:=h',toks:=tk }:=I.turned (fun b o hb e=>kk b o (by simpa using hb) e) f0 f1 f3 f4 f5;refine ⟨_,rfl,um (s:={ s with heap:=h',toks:=tk }) (n := "range_iterator") st' rfl rfl (by decide) ⟨.int (lo+i),H,I1,⟨t,?_⟩,⟨rfl,rfl⟩,st',fun b hb=>(hf b hb).1⟩⟩;rw [Int.mul_one]
  done:=by
    intro X hP hw hK hc i pins s σ H E I hf st hg;subst hP hw hK;obtain ⟨f0,f1,f2,f3,f4,f5⟩:=hf it (by simp);exact wpAny_pyNext_range_end (I.ok.hd hc) st (by have:n<=i:=hg;omega) fun h' eb=>⟨rfl,I.turned (t':=s.toks) (fun b o hb e=>eb b o hb e) f0 f1 f3 f4 f5⟩
  self:=fun _ _ _ _ _ st h=>wpAny_pyIter_rangeiter st h
section
variable {X:Cx} {tg:Expr}
theorem oo {pins:List (Addr×Obj)} {σ:St} {H:Hp} {s:Shared} {R:It->Hp->Prop} {E:Value->Shared->Prop} {lo hi:Int} {t u v:Tok} {tk:Nat} (I:ay X pins σ H s) (h1:-(2 ^ 62)<=lo) (h2:lo < 2 ^ 62) (h3:-(2 ^ 62)<=hi) (h4:hi < 2 ^ 62)
    (q:R (zL lo (hi-lo).toNat) H):wpAny (model X.prog X.w) X.A (pyIter (.ref s.heap.objs.size)) (A9 X pins σ tg R) E { s with heap:=s.heap.push { cls:=.type "range",data:=.fields #[.int lo t,.int hi u,.int 1 v] },toks:=tk }:=by
  refine wpAny_pyIter_range (IsRange.new ..) (small_one h1 h2 h3 h4) ?_;have I1:ay X pins σ H { s with heap:=s.heap.push { cls:=.type "range",data:=.fields #[.int lo t,.int hi u,.int 1 v] },toks:=tk }:=I.kept fun b o e=>Heap.get?_push_of_some _ e
  refine ⟨(s.heap.push { cls:=.type "range",data:=.fields #[.int lo t,.int hi u,.int 1 v] }).objs.size,[(s.heap.push { cls:=.type "range",data:=.fields #[.int lo t,.int hi u,.int 1 v] }).objs.size],_,_,H,rfl,
    I1.kept (t':=tk) fun b o e=>Heap.get?_push_of_some _ e,qj _ lo (hi-lo).toNat,?_,fun b hb=>?_,q⟩
  · have e1:lo+((0:Nat):Int)*1=lo:=by simp
    have e2:(((hi-lo).toNat:Nat):Int)-((0:Nat):Int)=Builtin.Range.rangeSize lo hi 1:=by rw [rangeSize_one];split <;> omega
    show IsRangeIter _ _ (lo+((0:Nat):Int)*1) ((((hi-lo).toNat:Nat):Int)-((0:Nat):Int)) 1;rw [e1,e2];exact Heap.get?_push_size _ rfl
  · have e:b=(s.heap.push { cls:=.type "range",data:=.fields #[.int lo t,.int hi u,.int 1 v] }).objs.size:=by simpa using hb
    subst e;exact I1.fpOk (Nat.le_refl _) (I1.hok.fresh (Nat.le_refl _))
noncomputable def zq (ta:TA):TI:=fun σ H R=>ta σ H fun vs H1=>∃ j:Int,vs=[.int j]/\-(2 ^ 62)<=j/\j < 2 ^ 62/\R (zL 0 j.toNat) H1
noncomputable def zA (ta:TA):TI:=fun σ H R=>ta σ H fun vs H1=>∃ i j:Int,vs=[.int i,.int j]/\(-(2 ^ 62)<=i/\i < 2 ^ 62/\-(2 ^ 62)<=j/\j < 2 ^ 62)/\R (zL i (j-i).toNat) H1
theorem sP {a:Expr} {ta:TA} {p pos:Pos} (hg:Gl X "range") (hm:X.mg "range" = none) (ha:PA X [a] ta) (hs:starEach [a] X.env=[(false,eval a X.env)]:=by rfl):PI X tg (.Call (.Name "range" p) [a] [] pos) (zq ta):=by
  intro pins s σ H R I h;refine Call_ (kJ I hg hm boot_range (PyProof.Rows.callWith_type1 (dc (ha pos pins s σ H _ I h) fun us s1 ⟨vs,H1,I1,r1,q1⟩=>?_) hs rfl));obtain ⟨j,e,q1,q2,q⟩:=q1;subst e;cases r1 with
  | cons r rr =>
    cases rr;obtain ⟨t,rfl⟩:=r;exact call_range_1 (oo I1 (by omega) (by omega) q1 q2 (by simpa using q))
theorem rY {a b:Expr} {ta:TA} {p pos:Pos} (hg:Gl X "range") (hm:X.mg "range" = none) (ha:PA X [a,b] ta) (hs:starEach [a,b] X.env=[(false,eval a X.env),(false,eval b X.env)]:=by rfl) (hs2:starEach [b] X.env=[(false,eval b X.env)]:=by rfl) :
    PI X tg (.Call (.Name "range" p) [a,b] [] pos) (zA ta):=by
  intro pins s σ H R I h;refine Call_ (kJ I hg hm boot_range (PyProof.Rows.callWith_type1 (dc (ha pos pins s σ H _ I h) fun us s1 ⟨vs,H1,I1,r1,q1⟩=>?_) (by rw [hs,hs2]) (by rw [hs2];rfl)));obtain ⟨i,j,e,⟨q1,q2,q3,q4⟩,q⟩:=q1;subst e;cases r1 with
  | cons r rr =>
    cases rr with
    | cons r' rr =>
      cases rr;obtain ⟨t,rfl⟩:=r;obtain ⟨t',rfl⟩:=r';exact call_range_2 (oo I1 q1 q2 q3 q4 q)
noncomputable def Az (wi:TI) (g:TG) (tb:TS):TS:=fun D σ H=>wi σ H fun J H1=>∃ W:Nat->Nat->St->Hp->Prop,(∃ m,W 0 m σ H1)/\∀ i m σ H,W i m σ H ->
  (J.stop i H/\D.nx σ H)\/(J.go i H/\∃ N:St->Hp->Prop,(∀ σ' H',N σ' H'->∃ m',m' < m/\W (i+1) m' σ' H')/\∀ x H',J.yld i H x H'->g x σ H' fun σ2 H2=>tb { D with nx:=N,ct:=N,bk:=D.nx } σ2 H2)
noncomputable def lD (fp:List Addr) (h:Heap):List (Addr×Obj):=fp.filterMap fun b=>(h.get? b).map fun o=>(b,o)
theorem gH {fp:List Addr} {h:Heap} {b:Addr} {o:Obj} (hb:b∈fp) (e:h.get? b=some o):(b,o)∈lD fp h:=List.mem_filterMap.mpr ⟨b,hb,by rw [e];rfl⟩
theorem rW {fp:List Addr} {h:Heap} {p:Addr×Obj} (hp:p∈lD fp h):p.1∈fp/\h.get? p.1=some p.2:=by
  obtain ⟨b,hb,e⟩:=List.mem_filterMap.mp hp;cases q:h.get? b with
  | none=>rw [q] at e;cases e
  | some o =>
    rw [q] at e;have e':(b,o)=p:=Option.some.inj e;subst e';exact ⟨hb,q⟩
theorem ay.pinned {pins:List (Addr×Obj)} {σ:St} {H:Hp} {s:Shared} {fp:List Addr} (I:ay X pins σ H s) (hf:∀ b∈fp,lW X pins H b) (ho:∀ b∈fp,∃ o,s.heap.get? b=some o/\∀ v,o.data≠.cell v):ay X (pins++lD fp s.heap) σ H s :=
  I.pins_of fun p hp=>(List.mem_append.mp hp).elim (fun z=>I.pin p (List.mem_append_right _ z)) fun z=>by
    obtain ⟨hb,e⟩:=rW z;obtain ⟨f0,f1,f2,_⟩:=hf p.1 hb;obtain ⟨o,e',d⟩:=ho p.1 hb;rw [e] at e';cases e';exact ⟨e,f0,f1,f2,d⟩
theorem ay.unpinned {pins pl:List (Addr×Obj)} {σ:St} {H:Hp} {s:Shared} (I:ay X (pins++pl) σ H s):ay X pins σ H s:=I.pins_of fun p hp=>I.pin p (List.mem_append_right _ (List.mem_append_left _ hp))
theorem xX {iter:Expr} {body:List Stmt} {wi:TI} {g:TG} {tb:TS} {pos:Pos} (hp:PassesOwn (model X.prog X.w) X.A X.env X.xe) (hc:X.calm=true) (hi:PI X tg iter wi) (hg:PG X tg g) (hb:nX X body tb)
    (hs:∀ x,foldedSetIterable iter X.env x=pure x:=by intro _;rfl):PS X (.For tg iter body [] pos) (Az wi g tb):=by
  intro pins s σ H D I h;refine wpAny_For (dc (hi pins s σ H _ I h) fun v s1 h1=>dc h1 fun itv s2 h2=>?_) hs;obtain ⟨it,fp,tn,J,H2,e,I2,T,st2,f2,W,⟨m0,w0⟩,turn⟩:=h2;subst e
  -- what stays true of the iterator's objects through the loop
  have stat:∀ {H':Hp},(∀ b∈fp,H' b=none)->∀ b∈fp,lW X pins H' b:=fun hn b hb=>⟨hn b hb,(f2 b hb).2⟩
  refine codeAny_forLoop_any (fun n s'=>∃ i σ' H',ay X pins σ' H' s'/\tn i s'.heap/\(∀ b∈fp,H' b=none)/\W i n σ' H') ?_ m0 ⟨0,σ,H2,I2,st2,fun b hb=>(f2 b hb).1,w0⟩;rintro n s3 ⟨i,σ3,H3,I3,st3,fr3,w3⟩;rcases turn i n σ3 H3 w3 with ⟨stop,qn⟩ | ⟨go,N,hN,step⟩
  · refine wpAny_passesOwn hp (dc (T.done X rfl rfl rfl hc i pins s3 σ3 H3 X.xe I3 (stat fr3) st3 stop) fun r s4 ⟨hr,I4⟩=>?_);subst hr;exact wpAny_execs_nil ⟨σ3,H3,I4,qn⟩
  · refine wpAny_passesOwn hp (dc (T.item X rfl rfl rfl hc i pins s3 σ3 H3 X.xe I3 (stat fr3) st3 go) fun r s4 ⟨u,hr,h4⟩=>?_);subst hr;refine wpAny_passesOwn hp (dc h4 fun _ s5 ⟨x,H5,I5,r5,y5,st5,fr5⟩=>?_);have I5':=I5.pinned (stat fr5) (T.obj _ _ st5);refine wpAny_passesOwn hp (dc (hg _ s5 σ3 H5 x u _ I5' r5 (step x H5 y5)) fun _ s6 ⟨σ6,H6,I6,q6⟩=>?_);refine wpAny_passesOwn hp (dc (hb _ s6 σ6 H6 _ I6 q6) fun f s7 q7=>?_);have again:∀ {σ7:St} {H7:Hp},ay X (pins++lD fp s5.heap) σ7 H7 s7->N σ7 H7->∃ m,m < n/\∃ i σ' H',ay X pins σ' H' s7/\tn i s7.heap/\(∀ b∈fp,H' b=none)/\W i m σ' H':=fun {σ7 H7} I7 n7=>by
      obtain ⟨m',hm,w7⟩:=hN σ7 H7 n7;refine ⟨m',hm,i+1,σ7,H7,I7.unpinned,T.keep _ _ _ st5 fun b hb o e=>(I7.pin (b,o) (List.mem_append_right _ (List.mem_append_right _ (gH hb e)))).1,fun b hb=>?_,w7⟩;obtain ⟨o,e,d⟩:=T.obj _ _ st5 b hb;exact (I7.pin (b,o) (List.mem_append_right _ (List.mem_append_right _ (gH hb e)))).2.1
    cases f with
    | next=>obtain ⟨σ7,H7,I7,n7⟩:=q7;exact again I7 n7
    | cont=>obtain ⟨σ7,H7,I7,n7⟩:=q7;exact again I7 n7
    | brk=>obtain ⟨σ7,H7,I7,q7⟩:=q7;exact ⟨σ7,H7,I7.unpinned,q7⟩
    | ret v=>obtain ⟨x7,σ7,H7,I7,r7,q7⟩:=q7;exact ⟨x7,σ7,H7,I7.unpinned,r7,q7⟩
end
noncomputable abbrev R2:=V->V->Hp->VK->Prop
noncomputable def gT (X:Cx) (f:Value->Value->Sem Value) (r:R2):Prop :=
  ∀ (pins:List (Addr×Obj)) (s:Shared) (σ:St) (H:Hp) (x y:V) (v u:Value) (Q:VK),ay X pins σ H s->bz x v->bz y u->r x y H Q ->
    wpAny (model X.prog X.w) X.A (f v u) (EP X pins σ Q) X.xe s
noncomputable def AD (X:Cx) (f:Value->Sem Value) (r:V->Hp->VK->Prop):Prop :=
  ∀ (pins:List (Addr×Obj)) (s:Shared) (σ:St) (H:Hp) (x:V) (v:Value) (Q:VK),ay X pins σ H s->bz x v->r x H Q ->
    wpAny (model X.prog X.w) X.A (f v) (EP X pins σ Q) X.xe s
noncomputable def cQ (X:Cx) (f:Value) (r:List V->Hp->VK->Prop):Prop :=
  ∀ (pins:List (Addr×Obj)) (s:Shared) (σ:St) (H:Hp) (xs:List V) (us:List Value) (Q:VK),ay X pins σ H s->bp xs us->r xs H Q ->
    wpAny (model X.prog X.w) X.A (call f us) (EP X pins σ Q) X.xe s
noncomputable def Ad (r:R2) (ta tb:TE):TE:=fun σ H Q=>ta σ H fun x H1=>tb σ H1 fun y H2=>r x y H2 Q
noncomputable def Bd (r:V->Hp->VK->Prop) (ta:TE):TE:=fun σ H Q=>ta σ H fun x H1=>r x H1 Q
noncomputable def rI (C:Int->Int->Prop) (g:Int->Int->V):R2:=fun x y H Q=>∃ i j,x=.int i/\y=.int j/\C i j/\Q (g i j) H
noncomputable def wE (g:Int->Int->V):R2:=fun x y H Q=>∃ i j,x=.int i/\y=.int j/\Q (g i j) H
noncomputable def rU (g:Int->V):V->Hp->VK->Prop:=fun x H Q=>∃ i,x=.int i/\Q (g i) H
section
variable {X:Cx} {a b c:Expr} {ta tb tc:TE} {pos:Pos}
theorem yI (ha:PE X a ta) (hb:PE X b tb) {pins:List (Addr×Obj)} {s:Shared} {σ:St} {H:Hp} {R:V->V->Hp->Prop} (I:ay X pins σ H s)
    (h:ta σ H fun x H1=>tb σ H1 fun y H2=>R x y H2) {Q:Value->Shared->Prop} {f:Value->Value->Sem Value}
    (hf:∀ v u s2 x y H2,ay X pins σ H2 s2->bz x v->bz y u->R x y H2->wpAny (model X.prog X.w) X.A (f v u) Q X.xe s2) :
    wpAny (model X.prog X.w) X.A (eval a X.env) (fun v s₁=>wpAny (model X.prog X.w) X.A (eval b X.env) (fun u s₂=>wpAny (model X.prog X.w) X.A (f v u) Q X.xe s₂) X.xe s₁) X.xe s:=by
  refine dc (ha pins s σ H _ I h) fun v s1 ⟨x,H1,I1,r1,q1⟩=>?_
  refine dc (hb pins s1 σ H1 _ I1 q1) fun u s2 ⟨y,H2,I2,r2,q2⟩=>?_
  exact hf v u s2 x y H2 I2 r1 r2 q2
theorem zx {op:Operator} {r:R2} (ho:gT X (binaryOp op) r) (ha:PE X a ta) (hb:PE X b tb):PE X (.BinOp a op b pos) (Ad r ta tb):=by
  intro pins s σ H Q I h;exact wpAny_BinOp (yI ha hb I h fun v u s2 x y H2 I2 rx ry q=>ho pins s2 σ H2 x y v u Q I2 rx ry q)
theorem Ah {op:UnaryOp} {r:V->Hp->VK->Prop} (ho:AD X (unaryOp op) r) (ha:PE X a ta):PE X (.UnaryOp op a pos) (Bd r ta):=by
  intro pins s σ H Q I h;exact UnaryOp_ (dc (ha pins s σ H _ I h) fun v s1 ⟨x,H1,I1,r1,q1⟩=>ho pins s1 σ H1 x v Q I1 r1 q1)
theorem A3 {f:Value->Value->Sem Value} {C:Int->Int->Prop} {g:Int->Int->Int}
    (rule:∀ (i j:Int) (t u:Tok) (s:Shared) (Q:Value->Shared->Prop) (E:Value->Shared->Prop),C i j->Q (.int (g i j) s.toks) { s with toks:=s.toks+1 }->wpAny (model X.prog X.w) X.A (f (.int i t) (.int j u)) Q E s) :
    gT X f (rI C fun i j=>.int (g i j)):=by
  intro pins s σ H x y v u Q I rx ry h;obtain ⟨i,j,rfl,rfl,hc,q⟩:=h;obtain ⟨t,rfl⟩:=rx;obtain ⟨t',rfl⟩:=ry;exact rule i j t t' s _ _ hc ⟨.int (g i j),H,I.tok _,⟨_,rfl⟩,q⟩
theorem zV {f:Value->Value->Sem Value} {g:Int->Int->Int}
    (rule:∀ (i j:Int) (t u:Tok) (s:Shared) (Q:Value->Shared->Prop) (E:Value->Shared->Prop),Q (.int (g i j) s.toks) { s with toks:=s.toks+1 }->wpAny (model X.prog X.w) X.A (f (.int i t) (.int j u)) Q E s) :
    gT X f (wE fun i j=>.int (g i j)):=by
  intro pins s σ H x y v u Q I rx ry h;obtain ⟨i,j,rfl,rfl,q⟩:=h;obtain ⟨t,rfl⟩:=rx;obtain ⟨t',rfl⟩:=ry;exact rule i j t t' s _ _ ⟨.int (g i j),H,I.tok _,⟨_,rfl⟩,q⟩
theorem zN {f:Value->Value->Sem Value} {g:Int->Int->Bool}
    (rule:∀ (i j:Int) (t u:Tok) (s:Shared) (Q:Value->Shared->Prop) (E:Value->Shared->Prop),Q (.bool (g i j)) s->wpAny (model X.prog X.w) X.A (f (.int i t) (.int j u)) Q E s) :
    gT X f (wE fun i j=>.bl (g i j)):=by
  intro pins s σ H x y v u Q I rx ry h;obtain ⟨i,j,rfl,rfl,q⟩:=h;obtain ⟨t,rfl⟩:=rx;obtain ⟨t',rfl⟩:=ry;exact rule i j t t' s _ _ ⟨.bl (g i j),H,I,rfl,q⟩
noncomputable def zF (i j:Int):Prop:=0 < j/\j < 1073741824
noncomputable def xl (i j:Int):Prop:=(-(2 ^ 64) < i/\i < 2 ^ 64)\/(-(2 ^ 64) < j/\j < 2 ^ 64)
theorem xl.ok {i j:Int} (h:xl i j):IntMulOk i j:=by
  rcases h with ⟨h1,h2⟩ | ⟨h1,h2⟩
  · exact .of_left (intBits_le_64 h1 h2)
  · exact .of_right (intBits_le_64 h1 h2)
theorem yQ:gT X (binaryOp .Add) (wE fun i j=>.int (i+j)):=zV fun _ _ _ _ _ _ _ q=>add_int q
theorem yY:gT X (binaryOp .Sub) (wE fun i j=>.int (i-j)):=zV fun _ _ _ _ _ _ _ q=>sub_int q
theorem zk:gT X (binaryOp .Mult) (rI xl fun i j=>.int (i*j)):=A3 fun _ _ _ _ _ _ _ hc q=>mul_int q hc.ok
theorem wc:gT X (binaryOp .FloorDiv) (rI zF fun i j=>.int (i / j)):=A3 fun i j _ _ _ _ _ hc q=>by
  have h1:(0:Int) < j:=hc.1;have h2:j < 1073741824:=hc.2;exact floordiv_int (by omega) (by rw [Int.fdiv_eq_ediv_of_nonneg i (by omega)];exact q) (.inl (PyProof.noPylong_small (by omega)))
theorem yt:gT X (binaryOp .Mod) (rI (fun _ j=>0 < j) fun i j=>.int (i%j)):=A3 fun i j _ _ _ _ _ hc q=>by
  have h1:(0:Int) < j:=hc;exact mod_int' (by omega) (by rw [Int.fmod_eq_emod_of_nonneg i (by omega)];exact q)
theorem Bi {f:Value->Sem Value} {g:Int->Int}
    (rule:∀ (i:Int) (t:Tok) (s:Shared) (Q:Value->Shared->Prop) (E:Value->Shared->Prop),Q (.int (g i) s.toks) { s with toks:=s.toks+1 }->wpAny (model X.prog X.w) X.A (f (.int i t)) Q E s) :
    AD X f (rU fun i=>.int (g i)):=by
  intro pins s σ H x v Q I rx h;obtain ⟨i,rfl,q⟩:=h;obtain ⟨t,rfl⟩:=rx;exact rule i t s _ _ ⟨.int (g i),H,I.tok _,⟨_,rfl⟩,q⟩
theorem ya:AD X (unaryOp .USub) (rU fun i=>.int (-i)):=Bi fun _ _ _ _ _ q=>neg_int q
end
section
variable {X:Cx} {a b c:Expr} {ta tb tc:TE} {pos:Pos}
theorem yu {pins:List (Addr×Obj)} {σ:St} {H:Hp} {s:Shared} {Q:VK} {k k':Bool} (I:ay X pins σ H s) (q:Q (.bl k) H) (e:k=k'):EP X pins σ Q (.bool k') s:=by
  subst e;exact ⟨.bl k,H,I,rfl,q⟩
theorem o1:gT X (compareOp .Lt) (wE fun i j=>.bl (decide (i < j))):=zN fun _ _ _ _ _ _ _ q=>lt_int q
theorem j5:gT X (compareOp .LtE) (wE fun i j=>.bl (decide (i<=j))):=zN fun _ _ _ _ _ _ _ q=>le_int q
theorem yL:gT X (compareOp .Is) (fun x y H Q=>y=.non/\Q (.bl (decide (x=.non))) H):=by
  intro pins s σ H x y v u Q I rx ry h;obtain ⟨rfl,q⟩:=h;cases ry;refine is_none_gen (yu I q ?_);cases x <;> first
    | (cases rx;rfl)
    | (obtain ⟨t,rfl⟩:=rx;rfl)
theorem gT.or {f:Value->Value->Sem Value} {r r':R2} (h:gT X f r) (h':gT X f r'):gT X f (fun x y H Q=>r x y H Q\/r' x y H Q):=by
  intro pins s σ H x y v u Q I rx ry q;rcases q with q | q
  · exact h pins s σ H x y v u Q I rx ry q
  · exact h' pins s σ H x y v u Q I rx ry q
theorem jJ (b:Expr) {op:CmpOp} (h:op≠.In:=by decide) (h2:op≠.NotIn:=by decide):behindInMarks op b=false:=by
  have e1:(op==CmpOp.In)=false:=by cases op <;> first | rfl | exact absurd rfl h
  have e2:(op==CmpOp.NotIn)=false:=by cases op <;> first | rfl | exact absurd rfl h2
  cases b <;> simp [behindInMarks,e1,e2]
theorem xn {op:CmpOp} {r:R2} (ho:gT X (compareOp op) r) (ha:PE X a ta) (hb:PE X b tb) (hm:behindInMarks op b=false):PE X (.Compare a [op] [b] pos) (Ad r ta tb):=by
  intro pins s σ H Q I h;exact wpAny_Compare1 (yI ha hb I h fun v u s2 x y H2 I2 rx ry q=>ho pins s2 σ H2 x y v u Q I2 rx ry q) hm
noncomputable def xy (t:TE):TT:=fun σ H Q=>t σ H fun x H'=>∃ k,x=.bl k/\Q k H'
theorem wo {op:CmpOp} {r:R2} (ho:gT X (compareOp op) r) (ha:PE X a ta) (hb:PE X b tb) (hm:behindInMarks op b=false):PT X (.Compare a [op] [b] pos) (xy (Ad r ta tb)):=by
  intro pins s σ H Q I h;refine wpAny_isTrue_Compare1 (dc (ha pins s σ H _ I h) fun v s1 ⟨x,H1,I1,r1,q1⟩=>dc (hb pins s1 σ H1 _ I1 q1) fun u s2 ⟨y,H2,I2,r2,q2⟩ =>
    dc (ho pins s2 σ H2 x y v u _ I2 r1 r2 q2) fun c s3 ⟨z,H3,I3,r3,k,e,q3⟩=>?_) hm
  subst e;cases r3;exact wpAny_truthy_bool ⟨H3,I3,q3⟩
noncomputable def qB (r r':R2) (ta tb tc:TE):TE:=fun σ H Q=>ta σ H fun x H1=>tb σ H1 fun y H2=>r x y H2 fun z H3=>∃ k,z=.bl k /\
  (if k=true then tc σ H3 fun w' H4=>r' y w' H4 Q else Q (.bl false) H3)
theorem vr {op op':CmpOp} {r r':R2} (ho:gT X (compareOp op) r) (ho':gT X (compareOp op') r') (ha:PE X a ta) (hb:PE X b tb) (hc:PE X c tc)
    (hm:lastMarks [op,op'] [b,c]=false:=by with_unfolding_all rfl):PE X (.Compare a [op,op'] [b,c] pos) (qB r r' ta tb tc):=by
  intro pins s σ H Q I h;refine Compare_chain (dc (ha pins s σ H _ I h) fun v s1 ⟨x,H1,I1,r1,q1⟩=>chain_link (dc (hb pins s1 σ H1 _ I1 q1) fun u s2 ⟨y,H2,I2,r2,q2⟩ =>
    dc (ho pins s2 σ H2 x y v u _ I2 r1 r2 q2) fun d s3 ⟨z,H3,I3,r3,k,e,q3⟩=>?_)) hm
  subst e;cases r3;refine wpAny_truthy_bool ?_;cases k with
  | false=>exact ite_ff ⟨.bl false,H3,I3,rfl,q3⟩
  | true=>exact ite_tt (chain_last (dc (hc pins s3 σ H3 _ I3 q3) fun w' s4 ⟨z',H4,I4,r4,q4⟩=>ho' pins s4 σ H4 y z' u w' Q I4 r2 r4 q4))
theorem ua {op op':CmpOp} {r r':R2} (ho:gT X (compareOp op) r) (ho':gT X (compareOp op') r') (ha:PE X a ta) (hb:PE X b tb) (hc:PE X c tc)
    (hm:lastMarks [op,op'] [b,c]=false:=by with_unfolding_all rfl):PT X (.Compare a [op,op'] [b,c] pos) (xy (qB r r' ta tb tc)):=by
  intro pins s σ H Q I h;refine isTrue_chain (dc (ha pins s σ H _ I h) fun v s1 ⟨x,H1,I1,r1,q1⟩=>test_link (dc (hb pins s1 σ H1 _ I1 q1) fun u s2 ⟨y,H2,I2,r2,q2⟩ =>
    dc (ho pins s2 σ H2 x y v u _ I2 r1 r2 q2) fun d s3 ⟨z,H3,I3,r3,k,e,q3⟩=>?_)) hm
  subst e;cases r3;refine wpAny_truthy_bool ?_;cases k with
  | false =>
    obtain ⟨k',e',q'⟩:=q3;cases e';exact ite_ff ⟨H3,I3,q'⟩
  | true =>
    refine ite_tt (test_last (dc (hc pins s3 σ H3 _ I3 q3) fun w' s4 ⟨z',H4,I4,r4,q4⟩=>dc (ho' pins s4 σ H4 y z' u w' _ I4 r2 r4 q4) fun d' s5 ⟨z2,H5,I5,r5,k2,e2,q5⟩=>?_));subst e2;cases r5;exact wpAny_truthy_bool ⟨H5,I5,q5⟩
theorem li:(sizeLine:Nat) < 2 ^ 63:=by rw [sizeLine_eq];decide
theorem fM {x:V} {us:List Value} (r:bp [x] us):∃ u,us=[u]/\bz x u:=by
  cases r with
  | cons r1 r2=>cases r2;exact ⟨_,rfl,r1⟩
theorem kM {x y:V} {us:List Value} (r:bp [x,y] us):∃ u w',us=[u,w']/\bz x u/\bz y w':=by
  cases r with
  | cons r1 r2 =>
    cases r2 with
    | cons r3 r4=>cases r4;exact ⟨_,_,rfl,r1,r3⟩
theorem ss (hc:X.calm=true):cQ X (.builtin "max") (fun xs H Q=>∃ i j,xs=[.int i,.int j]/\Q (.int (if j > i then j else i)) H):=by
  intro pins s σ H xs us Q I r h;obtain ⟨i,j,rfl,q⟩:=h;obtain ⟨u,w',rfl,⟨t,rfl⟩,⟨t',rfl⟩⟩:=kM r;refine max_two_ints (I.ok.hd hc) fun h' tk k=>⟨_,H,I.kept k,?_,q⟩
  by_cases hj:j > i
  · rw [if_pos hj,if_pos hj];exact ⟨_,rfl⟩
  · rw [if_neg hj,if_neg hj];exact ⟨_,rfl⟩
theorem sJ (hc:X.calm=true):cQ X (.builtin "min") (fun xs H Q=>∃ i j,xs=[.int i,.int j]/\Q (.int (if j < i then j else i)) H):=by
  intro pins s σ H xs us Q I r h;obtain ⟨i,j,rfl,q⟩:=h;obtain ⟨u,w',rfl,⟨t,rfl⟩,⟨t',rfl⟩⟩:=kM r;refine min_two_ints (I.ok.hd hc) fun h' tk k=>⟨_,H,I.kept k,?_,q⟩
  by_cases hj:j < i
  · rw [if_pos hj,if_pos hj];exact ⟨_,rfl⟩
  · rw [if_neg hj,if_neg hj];exact ⟨_,rfl⟩
theorem l9:cQ X (.type "int") (fun xs H Q=>(∃ i,xs=[.int i]/\Q (.int i) H)\/∃ k,xs=[.bl k]/\Q (.int (if k then 1 else 0)) H):=by
  intro pins s σ H xs us Q I r h;rcases h with ⟨i,rfl,q⟩ | ⟨k,rfl,q⟩
  · obtain ⟨u,rfl,t,rfl⟩:=fM r;exact call_int_int ⟨.int i,H,I,⟨_,rfl⟩,q⟩
  · obtain ⟨u,rfl,r1⟩:=fM r;cases r1;exact call_int_bool ⟨.int (if k then 1 else 0),H,I.tok _,⟨_,rfl⟩,q⟩
theorem nO:cQ X (.type "str") (fun xs H Q=>∃ i,xs=[.int i]/\i.natAbs.log2 < 1920/\Q (.str (toString i)) H):=by
  intro pins s σ H xs us Q I r h;obtain ⟨i,rfl,hz,q⟩:=h;obtain ⟨u,rfl,t,rfl⟩:=fM r;exact PySem.P.str_of_int hz ⟨.str _,H,I.tok _,⟨_,rfl⟩,q⟩
end
structure yE (h:Heap) (x dx C:Addr) (mA:Str->Option Value):Prop where
  obj:h.get? x=some (PySem.W.instObj C dx)
  ns:h.Ns1 dx mA
  ne:dx≠x
theorem r9 {h:Heap} {dx:Addr} {mA:Str->Option Value} (n:h.Ns1 dx mA):∃ od,h.get? dx=some od/\∀ name,PySem.W.lookIn name od=some (mA name):=by
  obtain ⟨o,es,ep,ho,hd,hk,_,hm⟩:=n;refine ⟨o,ho,fun name=>?_⟩;have e:=hm name;unfold nsFind findBy at e;rw [<- Array.find?_toList] at e;unfold PySem.W.lookIn;rw [hd];dsimp only;split
  · rename_i y q;rw [q] at e;exact congrArg some e
  · rename_i q;rw [q] at e;have a:es.toList.any (·.refKey)=false:=by
      rw [List.any_eq_false];intro y hy;obtain ⟨z,t,hkey⟩:=hk y (Array.mem_toList_iff.mp hy);simp [DictEntry.refKey,hkey]
    have a':¬ es.toList.any (·.refKey)=true:=by rw [a];exact Bool.false_ne_true
    rw [if_neg a'];exact congrArg some e
theorem yE.look {h:Heap} {x dx C:Addr} {mA:Str->Option Value} (I:yE h x dx C mA):∃ od,PySem.W.InstAt h x (PySem.W.instObj C dx) C (some od)/\∀ name,PySem.W.lookIn name od=some (mA name) :=
  let ⟨od,ho,hl⟩:=r9 I.ns
  ⟨od,⟨I.obj,rfl,rfl,ho⟩,hl⟩
theorem jC.some_of {v:V} {o:Option Value} (r:jC (some v) o):∃ u,o=some u/\bz v u:=by
  cases o with
  | none=>exact (show False from r).elim
  | some u=>exact ⟨u,rfl,r⟩
section
variable {P:Program} {w:World} {H H':Hp} {h h':Heap} {a C dx:Addr} {fs fs':List (Str×V)}
theorem xg (hok:fI P w H h) (e:H a=some (.ins C dx fs)):∃ mA,yE h a dx C mA/\(∀ f,jC (fs.lookup f) (mA f))/\PySem.Within mA (fs.map (·.1))/\fs.length<=1000/\H dx=some (.own a):=by
  obtain ⟨d,z,ne,ob,mA,n,r,q⟩:=(show bY P w H h a (.ins C dx fs) from hok a _ e)
  exact ⟨mA,⟨ob,n,ne⟩,r,q,z,d⟩
end
structure AV (K:PySem.W.Frag) (C:Addr):Prop where
  pg:PySem.W.plainGet K C Str.empty=true
  hd:PySem.W.hasDictIn K C=true
  po:PySem.W.plainOver K C=true
  sa:PySem.W.findIn K (.ref C) "__setattr__" = some (some (.builtin "object.__setattr__"))
theorem AV.get {K:PySem.W.Frag} {C:Addr} (c:AV K C) (f:Str):PySem.W.plainGet K C f=true:=c.pg
section
variable {X:Cx} {pins:List (Addr×Obj)} {σ:St} {H:Hp} {s:Shared} {A:Around} {E:Value->Shared->Prop} {Q:Value->Shared->Prop} {c:Value} {b:Bool}
inductive jn (K:PySem.W.Frag) (H:Hp):V->Value->Prop where
  | non:jn K H .non (.type "NoneType")
  | bl (x:Bool):jn K H (.bl x) (.type "bool")
  | int (i:Int):jn K H (.int i) (.type "int")
  | str (x:Str):jn K H (.str x) (.type "str")
  | flt (x:UInt64):jn K H (.flt x) (.type "float")
  | lst {a:Addr} {xs:List V} (e:H a=some (.lst xs)):jn K H (.ref a) (.type "list")
  | frz {a:Addr} {o:Obj} {xs:List V} (e:H a=some (.frz o (.lst xs))):jn K H (.ref a) (.type "list")
  | tup {a:Addr} {xs:List V} (e:H a=some (.tup xs)):jn K H (.ref a) (.type "tuple")
  | dK {a:Addr} {kvs:List (bZ×V)} (e:H a=some (.dK kvs)):jn K H (.ref a) (.type "dict")
  | dT {a:Addr} {kvs:List (List bZ×V)} (e:H a=some (.dT kvs)):jn K H (.ref a) (.type "dict")
  | ins {a C dx:Addr} {fs:List (Str×V)} (e:H a=some (.ins C dx fs)) (cl:AV K C) (ha:PySem.W.findIn K (.ref C) "__class__" = some (some (.builtin "object.__class__")))
      (hn:PySem.W.specialIn K (.builtin "object.__class__") "__get__" = some (some (.builtin "getset_descriptor.__get__"))) (htk:PySem.W.takesIn K (.builtin "object.__class__")=some true)
      (hm:PySem.W.mroIn K C (.type "object")=some true):jn K H (.ref a) (.ref C)
theorem sD {x:V} {u t:Value} (I:ay X pins σ H s) (rx:bz x u) (ty:jn X.K H x t) (e:PySem.W.kitOne X.K t c=some b) (h:∀ tk,Q (.bool b) { s with toks:=tk }) :
    wpAny (model X.prog X.w) A (call (.builtin "isinstance") [u,c]) Q E s:=by
  cases ty with
  | non=>cases (show u=Value.none from rx);exact PySem.W.kia_one PySem.W.kitx_none I.kIn True.intro e (fun z=>nomatch z) h
  | bl y=>cases (show u=Value.bool y from rx);exact PySem.W.kia_one PySem.W.kitx_bool I.kIn True.intro e (fun z=>nomatch z) h
  | int i=>obtain ⟨t,q⟩:=(show ∃ t,u=Value.int i t from rx);cases q;exact PySem.W.kia_one PySem.W.kitx_int I.kIn True.intro e (fun z=>nomatch z) h
  | str y=>obtain ⟨t,q⟩:=(show ∃ t,u=Value.str y t from rx);cases q;exact PySem.W.kia_one PySem.W.kitx_str I.kIn True.intro e (fun z=>nomatch z) h
  | flt y=>obtain ⟨t,q⟩:=(show ∃ t,u=Value.float y t from rx);cases q;exact PySem.W.kia_one PySem.W.kitx_float I.kIn True.intro e (fun z=>nomatch z) h
  | @lst a xs ea =>
    cases (show u=Value.ref a from rx);obtain ⟨_,_,n,_,h1⟩:=(show bY X.prog X.w H s.heap a (.lst xs) from I.hok a _ ea)
    exact PySem.W.kia_one PySem.W.kitx_list I.kIn ⟨_,h1,rfl⟩ e (fun z=>nomatch z) h
  | @frz a ob xs ea =>
    cases (show u=Value.ref a from rx);obtain ⟨_,_,_,n,_,h1⟩:=(show bY X.prog X.w H s.heap a (.frz ob (.lst xs)) from I.hok a _ ea)
    exact PySem.W.kia_one PySem.W.kitx_list I.kIn ⟨_,h1,rfl⟩ e (fun z=>nomatch z) h
  | @tup a xs ea =>
    cases (show u=Value.ref a from rx);obtain ⟨_,_,_,p⟩:=(show bY X.prog X.w H s.heap a (.tup xs) from I.hok a _ ea)
    obtain ⟨o,h1,h2,_⟩:=p;exact PySem.W.kia_one PySem.W.kitx_tuple I.kIn ⟨o,h1,h2⟩ e (fun z=>nomatch z) h
  | @dK a kvs ea =>
    cases (show u=Value.ref a from rx);obtain ⟨_,_,vs,_,p⟩:=(show bY X.prog X.w H s.heap a (.dK kvs) from I.hok a _ ea)
    obtain ⟨o,es,ep,h1,h2,_⟩:=p;exact PySem.W.kia_one PySem.W.kitx_dict I.kIn ⟨o,h1,h2.1⟩ e (fun z=>nomatch z) h
  | @dT a kvs ea =>
    cases (show u=Value.ref a from rx);obtain ⟨_,_,xs,_,o,es,ep,h1,h2,_⟩:=(show bY X.prog X.w H s.heap a (.dT kvs) from I.hok a _ ea)
    exact PySem.W.kia_one PySem.W.kitx_dict I.kIn ⟨o,h1,h2.1⟩ e (fun z=>nomatch z) h
  | @ins a C dx fs ea cl ha hn htk hm =>
    cases (show u=Value.ref a from rx);obtain ⟨mA,O,_⟩:=xg I.hok ea;obtain ⟨od,J,_⟩:=O.look;exact PySem.W.kia_one (PySem.W.kitx_own (cl.get _) cl.hd ha hn htk hm) I.kIn J e (fun z=>nomatch z) h
end
structure eu (k:Nat) (A:Around):Prop where
  hd:A.handled=none
  dp:A.depth+3*k+5 < recursionLimit
  un:A.units+16*k+200 < cLine
theorem eu.mono {j k:Nat} {A:Around} (r:eu k A) (h:j<=k):eu j A:=⟨r.hd,by have:=r.dp;omega,by have:=r.un;omega⟩
theorem eu.deeper {k:Nat} {A:Around} (r:eu (k+1) A) (env:Env):eu k (A.deeper env) :=
  ⟨r.hd,by have:=r.dp;show A.depth+1+3*k+5 < _;omega,by have:=r.un;show A.units+3+16*k+200 < _;omega⟩
theorem eu.depth {k:Nat} {A:Around} (r:eu k A):A.depth < recursionLimit:=by have:=r.dp;omega
theorem eu.units {k:Nat} {A:Around} (r:eu k A):A.units+64 < cLine:=by have:=r.un;omega
noncomputable def zY:TA:=fun _ H Q=>Q [] H
noncomputable def z7 (ta:TE) (tr:TA):TA:=fun σ H Q=>ta σ H fun x H1=>tr σ H1 fun xs H2=>Q (x::xs) H2
section
variable {X:Cx} {e:Expr} {es:List Expr} {te:TE} {t:TA} {pos:Pos}
theorem lu:PA X [] zY:=fun _ _ _ _ H Q I h=>Calls.spliced_nil ⟨[],H,I,.nil,h⟩
theorem eW (ha:PE X e te) (hr:PA X es t) (hs:starEach (e::es) X.env=(false,eval e X.env)::starEach es X.env:=by rfl):PA X (e::es) (z7 te t):=by
  intro pos pins s σ H Q I h;rw [hs];show wpAny _ _ (spliced ((false,eval e X.env)::backTo pos (starEach es X.env))) _ _ s;refine Calls.spliced_cons (dc (ha pins s σ H _ I h) fun u s1 ⟨x,H1,I1,r1,q1⟩=>?_);exact dc (hr pos pins s1 σ H1 _ I1 q1) fun us s2 ⟨xs,H2,I2,r2,q2⟩=>⟨x::xs,H2,I2,.cons r1 r2,q2⟩
noncomputable def AE (t:TA):TE:=fun σ H Q=>t σ H fun xs H1=>xs.length<=sizeLine/\∀ p,H1 p=none->Q (.ref p) (dk H1 p (.tup xs))
noncomputable def AR (t:TA):TE:=fun σ H Q=>t σ H fun xs H1=>xs.length<=sizeLine/\∀ p,H1 p=none->Q (.ref p) (dk H1 p (.lst xs))
theorem xY {x1} (h:PA X es t):PE X (.Tuple es x1 pos) (AE t):=by
  intro pins s σ H Q I hq;refine wpAny_Tuple_spliced (dc (h pos pins s σ H _ I hq) fun us s1 ⟨xs,H1,I1,r,z,q⟩=>⟨by rw [<- r.length];exact z,?_⟩);have hf:H1 s1.heap.objs.size=none:=I1.hok.fresh (Nat.le_refl _);refine ⟨.ref s1.heap.objs.size,dk H1 s1.heap.objs.size (.tup xs),I1.laid (t':=s1.toks) (fun b u e=>Heap.get?_push_of_some _ e) (Nat.le_refl _) ?_,rfl,q _ hf⟩;exact ⟨z,us,r,⟨_,Heap.get?_push_size _ rfl,rfl,_,rfl⟩⟩
theorem yd (h:PA X es t):PE X (.List es pos) (AR t):=by
  intro pins s σ H Q I hq;refine wpAny_List_spliced (dc (h pos pins s σ H _ I hq) fun us s1 ⟨xs,H1,I1,r,z,q⟩=>⟨by rw [<- r.length];exact z,?_⟩);have hf:H1 s1.heap.objs.size=none:=I1.hok.fresh (Nat.le_refl _);refine ⟨.ref s1.heap.objs.size,dk H1 s1.heap.objs.size (.lst xs),I1.laid (t':=s1.toks) (fun b u e=>Heap.get?_push_of_some _ e) (Nat.le_refl _) ?_,rfl,q _ hf⟩;exact ⟨z,us,0,r,Heap.get?_push_size _ rfl⟩
end
noncomputable abbrev Sp:=List V->Hp->VK->XK->Prop
noncomputable abbrev tJ:=List Env->Hp->Shared->XK->Value->Shared->Prop
structure wx (P:Program) (w:World) (K:PySem.W.Frag) (mg:Str->Option Value) (base:Heap) (A:Around) (outer:List Env) (s:Shared) (H:Hp):Prop where
  frames:A.frames=some outer
  mod:Mod K mg base
  bs:∀ b o,base.get? b=some o->s.heap.get? b=some o/\H b=none
  bsz:base.objs.size<=s.heap.objs.size
  funs:s.heap.FunFrames base outer
  frf:∀ b∈ja outer,H b=none
  hok:fI P w H s.heap
  bare:AllBare s.gens
noncomputable def CE (outer:List Env) (P:Program) (w:World) (H:Hp) (s:Shared) (Q:VK) (u:Value) (s':Shared):Prop :=
  ∃ v H',s'.os=s.os/\AllBare s'.gens/\Un (ja outer) [] H H' s.heap s'.heap/\fI P w H' s'.heap/\bz v u/\Q v H'
noncomputable def CR (CX:tJ) (outer:List Env) (P:Program) (w:World) (H:Hp) (s:Shared) (Q:VK) (E:XK) (r:Result) (s':Shared):Prop :=
  match r with
  | .ok (.ret u)=>CE outer P w H s Q u s'
  | .ok _=>False
  | .error e=>CX outer H s E e s'
structure ba (P:Program) (w:World) (K:PySem.W.Frag) (mg:Str->Option Value) (base:Heap) (CX:tJ) (k:Nat) (f:Addr) (fd:FuncData) (ps:List Str) (sp:Sp):Prop where
  len:∀ vs H Q E,sp vs H Q E->vs.length=ps.length
  run:∀ (A:Around) (outer:List Env) (s:Shared) (H:Hp) (args:Args) (us:List Value) (vs:List V) (Q:VK) (E:XK),eu k A->wx P w K mg base A outer s H->BindsTo s fd args (ps.zip us)->bp vs us->sp vs H Q E ->
    codeAny (model P w) A (.call (.ref f) args) (CR CX outer P w H s Q E) s
theorem ba.mono {P:Program} {w:World} {K:PySem.W.Frag} {mg:Str->Option Value} {base:Heap} {CX:tJ} {j k:Nat} {f:Addr} {fd:FuncData} {ps:List Str} {sp:Sp} (F:ba P w K mg base CX j f fd ps sp) (h:j<=k) :
    ba P w K mg base CX k f fd ps sp:=⟨F.len,fun A outer s H args us vs Q E hr=>F.run A outer s H args us vs Q E (hr.mono h)⟩
theorem ba.imp {P:Program} {w:World} {K:PySem.W.Frag} {mg:Str->Option Value} {base:Heap} {CX:tJ} {k:Nat} {f:Addr} {fd:FuncData} {ps:List Str} {sp sp':Sp} (F:ba P w K mg base CX k f fd ps sp)
    (h:∀ vs H Q E,sp' vs H Q E->sp vs H Q E):ba P w K mg base CX k f fd ps sp' :=
  ⟨fun vs H Q E q=>F.len vs H Q E (h _ _ _ _ q),fun A outer s H args us vs Q E hr he hb hv hs=>F.run A outer s H args us vs Q E hr he hb hv (h _ _ _ _ hs)⟩
section
variable {X:Cx} {pins:List (Addr×Obj)} {σ:St} {H:Hp} {s s':Shared}
theorem ay.env0 (I:ay X pins σ H s):wx X.prog X.w X.K X.mg X.base X.A X.stack s H :=
  ⟨I.ok.frames,I.ok.mod,I.bs,Nat.le_trans I.ok.bsz I.sz,I.stack,I.stkFree,I.hok,I.bare⟩
theorem ay.after {Q:VK} {u:Value} (I:ay X pins σ H s) (h:CE X.stack X.prog X.w H s Q u s'):EP X pins σ Q u s':=by
  obtain ⟨v,H',os,bare,un,hok,r,q⟩:=h;obtain ⟨hh,g,d,t,os'⟩:=s';obtain rfl:os'=s.os:=os;exact ⟨v,H',I.call (h':=hh) (g':=g) (d':=d) (t':=t) (ch:=[]) un hok bare (fun b z=>absurd z (by simp)),r,q⟩
end
noncomputable def xE (sp:Sp) (dvs:List V) (E:XK) (t:TA):TE:=fun σ H Q=>t σ H fun vs H1=>sp (vs++dvs) H1 Q E
noncomputable def bF (K:PySem.W.Frag) (fd:FuncData) (ps:List Str) (ds:List Value):Prop :=
  ∀ (s:Shared) (us:List Value),K.In s.heap->(us++ds).length=ps.length->BindsTo s fd ⟨us,[]⟩ (ps.zip (us++ds))
theorem bF.all {K:PySem.W.Frag} {fd:FuncData} {ps:List Str} (h:∀ us:List Value,us.length=ps.length->bindArgs fd ⟨us,[]⟩=pure (ps.zip us)):bF K fd ps []:=fun s us _ hl=>by
  rw [List.append_nil] at hl ⊢;exact .of_eq (h us hl)
noncomputable def nS (CX:tJ) (X:Cx) (E:XK):Prop:=∀ (pins:List (Addr×Obj)) (σ:St) (H:Hp) (s:Shared) (e:Value) (s':Shared),ay X pins σ H s->CX X.stack H s E e s'->X.xe e s'
section
variable {X:Cx} {CX:tJ} {k:Nat} {f C:Addr} {fd:FuncData} {ps:List Str} {sp:Sp} {dvs:List V} {ds:List Value} {E:XK} {x m:Str} {p pos apos:Pos} {e o:Expr} {es:List Expr} {ta:TE} {t:TA}
theorem uz {pins:List (Addr×Obj)} {σ:St} {H:Hp} {s:Shared} {Q:VK} {us:List Value} {vs:List V} (F:ba X.prog X.w X.K X.mg X.base CX k f fd ps sp) (hr:eu k X.A) (hb:bF X.K fd ps ds) (hd:bp dvs ds) (hx:nS CX X E)
    (I:ay X pins σ H s) (r:bp vs us) (h:sp (vs++dvs) H Q E):wpAny (model X.prog X.w) X.A (call (.ref f) us) (EP X pins σ Q) X.xe s:=by
  have r2:bp (vs++dvs) (us++ds):=r.append hd;have hl:(us++ds).length=ps.length:=by rw [<- r2.length];exact F.len _ _ _ _ h
  refine wpAny_call (codeAny_mono (F.run X.A X.stack s H ⟨us,[]⟩ (us++ds) (vs++dvs) Q E hr I.env0 (hb s us I.kIn hl) r2 h) fun r s' hq=>?_);cases r with
  | error e=>exact hx pins σ H s e s' I hq
  | ok fl =>
    cases fl with
    | ret u=>exact I.after hq
    | next=>exact False.elim hq
    | brk=>exact False.elim hq
    | cont=>exact False.elim hq
theorem wO (F:ba X.prog X.w X.K X.mg X.base CX k f fd ps sp) (hr:eu k X.A) (hg:Gl X x) (hm:X.mg x=some (.ref f)) (hk:PySem.W.keepIn X.K (.ref f)=true) (hb:bF X.K fd ps ds) (hd:bp dvs ds) (hx:nS CX X E)
    (ha:PA X (e::es) t) (hdb:(x==("__debug__" : Str))=false:=by decide) (he:starEach (e::es) X.env=(false,eval e X.env)::starEach es X.env:=by rfl) (hpl:(backTo pos (starEach es X.env)).any (·.1)=false:=by rfl) :
    PE X (.Call (.Name x p) (e::es) [] pos) (xE sp dvs E t):=by
  intro pins s σ H Q I h;refine wpAny_Call_Name_kw (jl I hg hm ?_ hdb);refine PySem.W.callWith_K (h₀:=X.base) I.ok.mod.kin hk (dc (ha pos pins s σ H _ I h) fun us s1 ⟨vs,H1,I1,r,q⟩=>⟨I1.kIn,?_⟩) he hpl;exact uz F hr hb hd hx I1 r q
theorem vj (F:ba X.prog X.w X.K X.mg X.base CX k f fd ps sp) (hr:eu k X.A) (hg:Gl X x) (hm:X.mg x=some (.ref f)) (hk:PySem.W.keepIn X.K (.ref f)=true) (hb:bF X.K fd ps ds) (hd:bp dvs ds) (hx:nS CX X E)
    (hdb:(x==("__debug__" : Str))=false:=by decide):PE X (.Call (.Name x p) [] [] pos) (xE sp dvs E zY):=by
  intro pins s σ H Q I h;refine wpAny_Call_Name_kw (jl I hg hm ?_ hdb);exact PySem.W.callWith_K0 I.kIn hk (uz (us:=[]) F hr hb hd hx I .nil h)
end
structure aQ (N P:List Str) (sc:Scope):Prop where
  kind:sc.kind=.function
  co:sc.isCoroutine=false
  gen:sc.isGenerator=false
  nd:N.Nodup
  pre:N.take P.length=P
  par:∀ x∈P,sc.names.lookup x=some .local\/sc.names.lookup x=some .cell
  nofree:∀ y∈sc.names,y.2≠.free
theorem mB {kindOf:Str->Option NameKind} {x:Str}:∀ {binds:List (Str×Value)} {m:Str->Option Value},(∀ v,(x,v)∉binds)->bindL kindOf binds m x=m x
  | [],_,_=>rfl
  | (n,v)::r,m,h=>by
    unfold bindL;rw [mB fun w hw=>h w (List.mem_cons_of_mem _ hw)];split
    · have:x≠n:=by rintro rfl;exact h v List.mem_cons_self
      simp [this]
    · rfl
theorem mD {kindOf:Str->Option NameKind} {x:Str}:∀ {binds:List (Str×Value)} {m:Str->Option Value},(∀ v,(x,v)∉binds)->bindC kindOf binds m x=m x
  | [],_,_=>rfl
  | (n,v)::r,m,h=>by
    unfold bindC;rw [mD fun w hw=>h w (List.mem_cons_of_mem _ hw)];split
    · rfl
    · have:x≠n:=by rintro rfl;exact h v List.mem_cons_self
      simp [this]
theorem mo {kindOf:Str->Option NameKind} {x:Str} {v:Value}:∀ {P:List Str} {vs:List Value} {i:Nat} {m:Str->Option Value},P.Nodup->P[i]?=some x->vs[i]?=some v->kindOf x=some .local ->
    bindL kindOf (P.zip vs) m x=some v
  | [],_,_,_,_,h,_,_=>by simp at h
  | _::_,[],_,_,_,_,h,_=>by simp at h
  | p::P,w::vs,0,m,nd,h1,h2,hk=>by
    simp at h1 h2;subst h1;subst h2;show bindL kindOf ((p,w)::P.zip vs) m p=_;unfold bindL;rw [mB fun v hv=>(List.nodup_cons.mp nd).1 (List.of_mem_zip hv).1,if_pos hk];simp
  | p::P,w::vs,i+1,m,nd,h1,h2,hk=>by
    show bindL kindOf ((p,w)::P.zip vs) m x=_;unfold bindL;exact mo (i:=i) (List.nodup_cons.mp nd).2 (by simpa using h1) (by simpa using h2) hk
theorem l4 {kindOf:Str->Option NameKind} {x:Str} {v:Value}:∀ {P:List Str} {vs:List Value} {i:Nat} {m:Str->Option Value},P.Nodup->P[i]?=some x->vs[i]?=some v->kindOf x≠some .local ->
    bindC kindOf (P.zip vs) m x=some v
  | [],_,_,_,_,h,_,_=>by simp at h
  | _::_,[],_,_,_,_,h,_=>by simp at h
  | p::P,w::vs,0,m,nd,h1,h2,hk=>by
    simp at h1 h2;subst h1;subst h2;show bindC kindOf ((p,w)::P.zip vs) m p=_;unfold bindC;rw [mD fun v hv=>(List.nodup_cons.mp nd).1 (List.of_mem_zip hv).1,if_neg hk];simp
  | p::P,w::vs,i+1,m,nd,h1,h2,hk=>by
    show bindC kindOf ((p,w)::P.zip vs) m x=_;unfold bindC;exact l4 (i:=i) (List.nodup_cons.mp nd).2 (by simpa using h1) (by simpa using h2) hk
noncomputable def gR (N:List Str) (vs:List V):St:=vs.map some++List.replicate (N.length-vs.length) none
noncomputable def eN (CX:tJ) (P:Program) (w:World) (K:PySem.W.Frag) (mg:Str->Option Value) (base:Heap) (N:List Str) (qual:Str) (scope:Scope) (f:Addr) (cd:Value) (A:Around) (outer:List Env) (s:Shared) (H:Hp) (E:XK):Cx where
  prog:=P
  w:=w
  K:=K
  mg:=mg
  base:=base
  A:=A.deeper (envOfC qual scope s.heap.objs.size f cd)
  N:=N
  s₀:=s
  H₀:=H
  env:=envOfC qual scope s.heap.objs.size f cd
  outer:=outer
  stack:=envOfC qual scope s.heap.objs.size f cd::outer
  ex:=[]
  calm:=true
  fn:=fun _=>true
  pn:=[]
  xe:=fun e s'=>wpAny (model P w) (A.deeper (envOfC qual scope s.heap.objs.size f cd)) (leaving (envOfC qual scope s.heap.objs.size f cd) e) (fun _ s''=>CX outer H s E e s'') (fun e' s''=>CX outer H s E e' s'') s'
theorem oz {sc:Scope} {n:Nat} {x:Str} (h:sc.names.lookup x=some .cell):∃ c,(cellsFrom n sc.names []).lookup x=some c:=by
  have q:=PySem.W.cellsFrom_some sc.names n [] (.inl h);exact Option.isSome_iff_exists.mp q
theorem rQ {CX:tJ} {P:Program} {w:World} {K:PySem.W.Frag} {mg:Str->Option Value} {base:Heap} {N ps:List Str} {qual:Str} {scope:Scope} {f:Addr} {cd:Value} {A:Around} {outer:List Env} {s s1:Shared} {H:Hp} {E:XK} {us:List Value} {vs:List V}
    (S:aQ N ps scope) (hd:A.handled=none) (e0:wx P w K mg base A outer s H) (hl:vs.length=ps.length) (r:bp vs us)
    (x:InCallC s s.heap.objs.size (bindL (envOfC qual scope s.heap.objs.size f cd).kindOf (ps.zip us) fun _=>none) (cellsFrom (s.heap.objs.size+1) scope.names []) (bindC (envOfC qual scope s.heap.objs.size f cd).kindOf (ps.zip us) fun _=>none) s1) :
    ay (eN CX P w K mg base N qual scope f cd A outer s H E) [] (gR N vs) H s1:=by
  have hpl:ps.length<=N.length:=by have:=congrArg List.length S.pre;rw [List.length_take] at this;omega
  obtain ⟨h1,tk,rfl,hk⟩:=x.done;have noA:∀ b:Addr,b∉(eN CX P w K mg base N qual scope f cd A outer s H E).ex:=fun b z=>absurd (show b∈([]:List Addr) from z) (by simp)
  refine ⟨⟨e0.mod,S.kind,rfl,rfl,Nat.le_refl _,fun y z c h1 h2=>?_,fun y hy=>?_,fun y c _ h=>?_,fun _=>hd,Around.frames_deeper e0.frames,.inr ⟨rfl,rfl⟩,fun b z=>absurd z (noA b),e0.bs,e0.bsz,fun b _ _=>noA b,fun b z=>absurd z (noA b),e0.funs,e0.frf⟩,
    rfl,e0.bare,Un.kept hk,⟨_,x.toInCall.ns,fun i y v h1 h2 h3=>?_⟩,fun y c h=>⟨_,x.cell y c h⟩,e0.hok.fresh (Nat.le_refl _),fun y c h=>?_,fun p hp=>absurd (show p∈([]:List (Addr×Obj)) from hp) (by simp),e0.hok.kept hk,?_⟩
  · exact name_of_addr x.apart (PySem.mem_of_lookup h1) (PySem.mem_of_lookup h2)
  · have hy:scope.names.lookup y=some .cell\/scope.names.lookup y=some .free:=hy;rcases hy with hy | hy
    · exact oz hy
    · exact absurd rfl (S.nofree _ (PySem.mem_of_lookup hy))
  · exact Nat.le_of_lt (x.above y c (PySem.mem_of_lookup h))
  · have hi:i < vs.length:=by
      unfold gR at h2;by_cases hi:i < vs.length
      · exact hi
      · rw [List.getElem?_append_right (by simpa using hi)] at h2;rw [List.getElem?_replicate] at h2;split at h2 <;> cases h2
    have ha:vs[i]?=some v:=by
      unfold gR at h2;rw [List.getElem?_append_left (by simpa using hi),List.getElem?_map] at h2;cases e:vs[i]? with
      | none=>rw [e] at h2;cases h2
      | some a=>rw [e] at h2;cases h2;rfl
    obtain ⟨u,hu,rv⟩:=r.get ha;have hp:ps[i]?=some y:=by
      rw [<- S.pre,List.getElem?_take_of_lt (by omega)];exact h1
    have ndP:ps.Nodup:=by rw [<- S.pre];exact S.nd.sublist (List.take_sublist _ _)
    refine ⟨u,rv,?_⟩;rcases S.par y (List.mem_of_getElem? hp) with k | k
    · exact .inl ⟨k,mo ndP hp hu k⟩
    · obtain ⟨c,e⟩:=oz (n:=s.heap.objs.size+1) k;refine .inr ⟨.inl k,c,e,?_⟩;have q:=x.cell y c e;rw [l4 ndP hp hu (by show scope.names.lookup y≠_;rw [k];decide)] at q;exact q
  · exact e0.hok.fresh (Nat.le_of_lt (x.above y c (PySem.mem_of_lookup h)))
  · unfold gR;show _=N.length;rw [List.length_append,List.length_map,List.length_replicate];omega
theorem xJ {CX:tJ} {P:Program} {w:World} {K:PySem.W.Frag} {mg:Str->Option Value} {base:Heap} {k:Nat} {f:Addr} {name qual:Str} {params:Arguments} {body:List Stmt} {scope:Scope} {dV kV doc pm cdv ct oc:Value} {an od:Option Addr}
    {osl:Array (Option Value)} {N ps:List Str} {sp:Sp} (lk:K.lookup f=some ⟨oc,od,.func (PySem.W.fnOf name qual params body scope dV kV doc pm an cdv ct),osl⟩) (hcd:PySem.W.codeIn K cdv qual=true) (S:aQ N ps scope)
    (len:∀ vs H Q E,sp vs H Q E->vs.length=ps.length)
    (hbody:∀ (A:Around) (outer:List Env) (s:Shared) (H:Hp) (vs:List V) (Q:VK) (E:XK),eu k (A.deeper (envOfC qual scope s.heap.objs.size f cdv))->sp vs H Q E ->
      ∃ t,nX (eN CX P w K mg base N qual scope f cdv A outer s H E) body t/\t { nx:=fun _ H'=>Q .non H',rt:=Q } (gR N vs) H) :
    ba P w K mg base CX (k+1) f (PySem.W.fnOf name qual params body scope dV kV doc pm an cdv ct) ps sp:=by
  refine ⟨len,fun A outer s H args us vs Q E hr e0 hb r hsp=>?_⟩;have hl:=len _ _ _ _ hsp;have KX:K.In s.heap:=e0.mod.kin.keeps fun b o e=>(e0.bs b o e).1
  have lim:s.heap.NoLimit:=e0.mod.nolimit.keeps fun b o e=>(e0.bs b o e).1
  have hkind:∀ y∈ps.zip us,scope.names.lookup y.1=some .local\/(scope.names.lookup y.1=some .cell/\((cellsFrom (s.heap.objs.size+1) scope.names []).lookup y.1).isSome=true):=fun ⟨n,v⟩ hy=>by
    rcases S.par n (List.of_mem_zip hy).1 with q | q
    · exact .inl q
    · exact .inr ⟨q,PySem.W.cellsFrom_some _ _ _ (.inl q)⟩
  refine codeAny_call_function hr.depth (KX _ _ lk) rfl S.co S.gen rfl (PySem.W.codeRec_of KX hcd) (hb _ _ _ _ ?_);refine wpAny_newFunctionEnv_cells S.kind hkind fun env he s1 x=>?_
  subst he;refine ⟨lim.keeps x.toInCall.keep,codeAny_func ?_⟩;obtain ⟨t,ht,hq⟩:=hbody A outer s H vs Q E (hr.deeper _) hsp;have I:ay (eN CX P w K mg base N qual scope f cdv A outer s H E) [] (gR N vs) H s1:=rQ S hr.hd e0 hl r x;refine wpAny_mono (ht [] s1 (gR N vs) H _ I hq) (fun fl s' hs=>?_) fun e s' hs=>hs
  have fin:∀ {σ':St} {H':Hp} {v:V} {u:Value},ay (eN CX P w K mg base N qual scope f cdv A outer s H E) [] σ' H' s'->bz v u->Q v H'->CE outer P w H s Q u s' :=
    fun {σ' H' v u} J rv q=>⟨v,H',J.os,J.bare,J.base,J.hok,rv,q⟩
  cases fl with
  | ret u =>
    obtain ⟨v,σ',H',J,rv,q⟩:=hs;exact fin J rv q
  | next =>
    obtain ⟨σ',H',J,q⟩:=hs;exact fin (v:=V.non) (u:=Value.none) J rfl q
  | brk =>
    obtain ⟨_,_,_,q⟩:=hs;exact False.elim q
  | cont =>
    obtain ⟨_,_,_,q⟩:=hs;exact False.elim q
section
variable {X:Cx} {x:Str} {p pos:Pos} {e:Expr} {es:List Expr} {t:TA} {id T:String} {r:List V->Hp->VK->Prop}
noncomputable def AB (r:List V->Hp->VK->Prop) (t:TA):TE:=fun σ H Q=>t σ H fun vs H1=>r vs H1 Q
theorem fE (hc:cQ X (.builtin id) r) (hg:Gl X x) (hm:X.mg x=none) (hv:bootBuiltins x=some (.builtin id)) (ha:PA X (e::es) t) (hn:x ≠ "__name__" := by decide) (hdb:(x==("__debug__" : Str))=false:=by decide)
    (he:starEach (e::es) X.env=(false,eval e X.env)::starEach es X.env:=by rfl) (hpl:(backTo pos (starEach es X.env)).any (·.1)=false:=by rfl):PE X (.Call (.Name x p) (e::es) [] pos) (AB r t):=by
  intro pins s σ H Q I h;refine wpAny_Call_Name_kw (kJ I hg hm hv ?_ hn hdb);exact PyProof.Rows.callWith_builtin1 (dc (ha pos pins s σ H _ I h) fun us s1 ⟨vs,H1,I1,r1,q1⟩=>hc pins s1 σ H1 vs us Q I1 r1 q1) he hpl
theorem l6 (hc:cQ X (.type T) r) (hg:Gl X x) (hm:X.mg x=none) (hv:bootBuiltins x=some (.type T)) (ha:PA X (e::es) t) (hn:x ≠ "__name__" := by decide) (hdb:(x==("__debug__" : Str))=false:=by decide)
    (he:starEach (e::es) X.env=(false,eval e X.env)::starEach es X.env:=by rfl) (hpl:(backTo pos (starEach es X.env)).any (·.1)=false:=by rfl):PE X (.Call (.Name x p) (e::es) [] pos) (AB r t):=by
  intro pins s σ H Q I h;refine wpAny_Call_Name_kw (kJ I hg hm hv ?_ hn hdb);exact PyProof.Rows.callWith_type1 (dc (ha pos pins s σ H _ I h) fun us s1 ⟨vs,H1,I1,r1,q1⟩=>hc pins s1 σ H1 vs us Q I1 r1 q1) he hpl
end
end L2
namespace HT
open PySem PyProof.Rows
section
open PySem.SeqAt
open PySem.AutoSeq1 (wpAny_loadPart')
open PySem.MeetsSeq PySem.MeetsSeq2 PySem.MeetsSeq3
end
section
variable {prog:Program} {w:World} {A:Around} {E:Value->Shared->Prop} {s:Shared}
theorem cat_tup {t b:Addr} {vs ws:List Value} {Q:Value->Shared->Prop} (ht:IsTup s.heap t vs.toArray) (hb:IsTup s.heap b ws.toArray) (hv:vs≠[])
    (h1:ws=[]->Q (.ref t) s) (h2:ws≠[]->Q (.ref s.heap.objs.size) { s with heap:=s.heap.push { cls:=.type "tuple",data:=.seq (vs++ws).toArray } })
    (hsz:vs.length+ws.length<=sizeLine):wpAny (model prog w) A (binaryOp .Add (.ref t) (.ref b)) Q E s:=by
  obtain ⟨⟨cls,dd,data,sl⟩,ho,hc,n,hd⟩:=id ht;obtain ⟨⟨cls2,dd2,data2,sl2⟩,ho2,hc2,n2,hd2⟩:=id hb;simp only at hc hd hc2 hd2;subst hc hd hc2 hd2;have e:vs.toArray++ws.toArray=(vs++ws).toArray:=by simp
  by_cases hw:ws=[]
  · exact concat_meets ⟨_,ho,rfl⟩ ⟨_,ho2,rfl⟩ noFill_tuple_add seq_tuple_add PySem.F.slot_tuple_add PySem.F.entry_tuple_add (PySem.F.args_tuple_add_2 _ _)
      (tuple_addW1 t b vs.toArray ws.toArray n n2 dd dd2 sl sl2 (by simpa using hv) (by simp [hw])) ⟨ho,ho2,h1 hw⟩
  · refine concat_meets ⟨_,ho,rfl⟩ ⟨_,ho2,rfl⟩ noFill_tuple_add seq_tuple_add PySem.F.slot_tuple_add PySem.F.entry_tuple_add (PySem.F.args_tuple_add_2 _ _)
      (tuple_addW2 t b vs.toArray ws.toArray n n2 dd dd2 sl sl2 (by simpa using hv) (by simpa using hw) (by rw [List.size_toArray,List.size_toArray];exact hsz)) ⟨ho,ho2,?_⟩
    rw [e];exact h2 hw
noncomputable def sIx (n d:Nat):Option Int->Nat
  | none=>d
  | some v=>if v < 0 then (v+(n:Int)).toNat else min v.toNat n
theorem o7 (n d:Nat):sIx n d none=d:=rfl
theorem nR (n d k:Nat):sIx n d (some (k:Int))=min k n:=by
  show (if (k:Int) < 0 then ((k:Int)+(n:Int)).toNat else min (k:Int).toNat n)=min k n;rw [if_neg (by omega),Int.toNat_natCast]
theorem x9 (n d:Nat) (hd:d<=n) (o:Option Int):sIx n d o<=n:=by
  cases o with
  | none=>exact hd
  | some v =>
    show (if v < 0 then (v+(n:Int)).toNat else min v.toNat n)<=n;by_cases hv:v < 0
    · rw [if_pos hv];omega
    · rw [if_neg hv];exact Nat.min_le_right _ _
theorem ri (v:Int) (n d:Nat):(if v < 0 then max (v+(n:Int)) 0 else min v (n:Int))=((sIx n d (some v):Nat):Int):=by
  show (if v < 0 then max (v+(n:Int)) 0 else min v (n:Int))=(((if v < 0 then (v+(n:Int)).toNat else min v.toNat n):Nat):Int)
  by_cases hv:v < 0
  · simp only [if_pos hv];omega
  · simp only [if_neg hv];omega
theorem qJ (lo hi:Option Int) (n:Nat):Builtin.Slice.sliceAdjust lo hi 1 (n:Int)=(((sIx n 0 lo:Nat):Int),((sIx n n hi:Nat):Int)):=by
  have h1:¬ ((1:Int) < 0):=by omega
  unfold Builtin.Slice.sliceAdjust;simp only [h1,if_false];refine Prod.ext ?_ ?_
  · cases lo with
    | none=>rfl
    | some v=>exact ri v n 0
  · cases hi with
    | none=>rfl
    | some v=>exact ri v n n
theorem qm (i j:Nat):Builtin.Slice.slicePlaces (i:Int) (j:Int) 1=j-i:=by
  unfold Builtin.Slice.slicePlaces;have h1:(1:Int) > 0:=by omega
  simp only [h1,if_true,Int.ediv_one];split <;> omega
theorem lz {v:Value} {o:Option Int} {Q:Option Int->Shared->Prop} (p:IsPart v o) (h:Q o s):wpAny (model prog w) A (Builtin.Slice.slicePartIndex v) Q E s:=by
  cases p with
  | none=>exact slicePart_none h
  | int i t=>exact slicePart_int h
theorem sliceApplied_gen {sl:Addr} {vl vu:Value} {lo hi:Option Int} {n:Nat} {Q:Int×Int×Nat->Shared->Prop} (hs:s.heap.IsSliceOf sl vl vu .none) (pl:IsPart vl lo) (pu:IsPart vu hi)
    (h:Q (((sIx n 0 lo:Nat):Int),1,sIx n n hi-sIx n 0 lo) s):wpAny (model prog w) A (Builtin.Slice.sliceApplied (.ref sl) (pure (n:Int))) Q E s:=by
  obtain ⟨os,hos,hcs,hds⟩:=id hs;unfold Builtin.Slice.sliceApplied Builtin.Slice.sliceFields;refine wpAny_bind (wpAny_bind (wpAny_field hos hds (x:=vl) rfl (wpAny_bind (wpAny_field hos hds (x:=vu) rfl (wpAny_bind (wpAny_field hos hds (x:=.none) rfl (wpAny_pure ?_)))))));refine wpAny_bind (slicePart_none ?_);show wpAny _ _ (if ((1:Int)==0)=true then _ else _) _ _ s;rw [if_neg (by decide)];refine wpAny_bind (lz pl (wpAny_bind (lz pu (wpAny_bind (wpAny_pure ?_)))));show wpAny _ _ (match Builtin.Slice.sliceAdjust lo hi 1 (n:Int) with | (lo,hi)=>pure (lo,(1:Int),Builtin.Slice.slicePlaces lo hi 1)) _ _ s;rw [qJ lo hi n];show wpAny _ _ (pure (((sIx n 0 lo:Nat):Int),(1:Int),Builtin.Slice.slicePlaces ((sIx n 0 lo:Nat):Int) ((sIx n n hi:Nat):Int) 1)) _ _ s;rw [qm];exact wpAny_pure h
theorem vE (xs:Array Value) (i k:Nat):((List.range k).filterMap fun (m:Nat)=>xs[((i:Int)+(m:Int)*1).toNat]?).toArray=((xs.toList.drop i).take k).toArray:=by
  have e:(fun (m:Nat)=>xs[((i:Int)+(m:Int)*1).toNat]?)=fun m=>xs[i+m]?:=by
    funext m;have:((i:Int)+(m:Int)*1).toNat=i+m:=by omega
    rw [this]
  rw [e];have:=pick_run xs i k;rw [List.filterMap_map] at this;have e2:((fun x=>xs[x]?)∘fun x=>i+x)=fun m=>xs[i+m]?:=rfl
  rw [e2] at this;rw [this]
theorem getItem_tuple_cut {t sl:Addr} {items:Array Value} {vl vu:Value} {lo hi:Option Int} {Q:Value->Shared->Prop} (ht:IsTup s.heap t items) (hs:s.heap.IsSliceOf sl vl vu .none) (pl:IsPart vl lo) (pu:IsPart vu hi)
    (hw:¬ (sIx items.size 0 lo=0/\sIx items.size items.size hi=items.size))
    (h:Q (.ref s.heap.objs.size) { s with heap:=s.heap.push { cls:=.type "tuple",data:=.seq ((items.toList.drop (sIx items.size 0 lo)).take (sIx items.size items.size hi-sIx items.size 0 lo)).toArray } })
    (hsz:items.size<=sizeLine):wpAny (model prog w) A (getItem (.ref t) (.ref sl)) Q E s:=by
  have htake:sizeOk (.seq ((items.toList.drop (sIx items.size 0 lo)).take (sIx items.size items.size hi-sIx items.size 0 lo)).toArray):=by
    show ((items.toList.drop (sIx items.size 0 lo)).take (sIx items.size items.size hi-sIx items.size 0 lo)).toArray.size<=sizeLine;rw [List.size_toArray,List.length_take,List.length_drop,Array.length_toList];omega
  have hj:sIx items.size items.size hi<=items.size:=x9 _ _ (Nat.le_refl _) hi;obtain ⟨os,hos,hcs,hds⟩:=id hs;have hTs:s.TypeIs (.ref sl) "slice" := ⟨os,hos,hcs⟩
  unfold getItem
  try with_reducible refine wpAny_holding ?_
  first | refine wpAny_bind (wpAny_pure ?_) | skip
  refine wpAny_bind (wpAny_sequenceKey ht.typeIs (by decide) ?_);refine wpAny_bind (wpAny_callSpecial?_slot (name:=Str.ofString "__getitem__") ht.typeIs PyProof.Rows.slot_tuple_getitem
    (wpAny_call_entry PyProof.Rows.slot_tuple_getitem ht.typeIs entry_tuple_getitem ?_ (args_tuple_getitem _ _)))
  show wpAny _ _ (Builtin.Tuple.tupleItemsOf (.ref t)>>=_) _ _ s;refine wpAny_bind (tupleItemsOf_ ht ?_);refine wpAny_bind (wpAny_typeOf hTs ?_);rw [if_pos (by decide)];refine wpAny_bind (sliceApplied_gen hs pl pu ?_);have hno:¬ ((((sIx items.size 0 lo:Nat):Int)==0&&(1:Int)==1&&(sIx items.size items.size hi-sIx items.size 0 lo)==items.size)=true):=by
    intro q;rw [Bool.and_eq_true,Bool.and_eq_true] at q;have q1:((sIx items.size 0 lo:Nat):Int)=0:=eq_of_beq q.1.1;have q2:sIx items.size items.size hi-sIx items.size 0 lo=items.size:=eq_of_beq q.2;exact hw ⟨by omega,by omega⟩
  show wpAny _ _ (if (((sIx items.size 0 lo:Nat):Int)==0&&(1:Int)==1&&(sIx items.size items.size hi-sIx items.size 0 lo)==items.size)=true then _ else _) _ _ s;rw [if_neg hno,vE]
  first
    | exact wpAny_bind (m:=Builtin.Tuple.tupleExact _) (wpAny_newObj_type (wpAny_pure ⟨_,rfl,wpAny_pure h⟩) htake)
    | exact wpAny_bind (m:=Builtin.Tuple.tupleExact _) (wpAny_newObj_type (wpAny_bind (wpAny_pure (wpAny_pure ⟨_,rfl,wpAny_pure h⟩))) htake)
    | exact wpAny_bind (wpAny_bind (m:=Builtin.Tuple.tupleExact _) (wpAny_newObj_type (wpAny_pure (wpAny_pure ⟨_,rfl,wpAny_pure h⟩)) htake))
    | exact wpAny_bind (wpAny_bind (m:=Builtin.Tuple.tupleExact _) (wpAny_newObj_type (wpAny_pure ⟨_,rfl,wpAny_pure h⟩) htake))
end
end HT
namespace L2
open PySem PySem.Spec PyProof.Rows
noncomputable abbrev TO:=St->Hp->(Option Int->Hp->Prop)->Prop
noncomputable def PO (X:Cx) (e:Option Expr) (t:TO):Prop :=
  ∀ (pins:List (Addr×Obj)) (s:Shared) (σ:St) (H:Hp) (Q:Option Int->Hp->Prop),ay X pins σ H s->t σ H Q ->
    wpAny (model X.prog X.w) X.A (evalPart e X.env) (fun u s'=>∃ o H',ay X pins σ H' s'/\IsPart u o/\Q o H') X.xe s
noncomputable def xo:TO:=fun _ H Q=>Q none H
noncomputable def zP (t:TE):TO:=fun σ H Q=>t σ H fun x H1=>∃ i,x=.int i/\Q (some i) H1
theorem k9 {ns:List Int}:∀ {us:List Value},bp (ns.map V.int) us->IntsAre us ns:=by
  induction ns with
  | nil=>intro us r;rw [List.map_nil] at r;cases r;exact .nil
  | cons n ns ih =>
    intro us r;rw [List.map_cons] at r;cases r with
    | cons r1 r2 =>
      obtain ⟨t,e⟩:=r1;subst e;exact .cons n t (ih r2)
section
variable {X:Cx} {e:Expr} {te:TE} {lo hi:Option Expr} {tl th:TO} {pos p2:Pos}
theorem wD:PO X none xo:=by
  intro pins s σ H Q I h;rw [evalPart_none];exact wpAny_pure ⟨none,H,I,.none,h⟩
theorem wA (h:PE X e te):PO X (some e) (zP te):=by
  intro pins s σ H Q I hw;rw [evalPart_some];refine dc (h pins s σ H _ I hw) fun u s1 ⟨x,H1,I1,r1,q1⟩=>?_
  obtain ⟨i,rfl,q⟩:=q1;obtain ⟨t,rfl⟩:=r1;exact ⟨some i,H1,I1,.int i t,q⟩
noncomputable def wL (X:Cx) (r:V->Option Int->Option Int->Hp->VK->Prop):Prop :=
  ∀ (pins:List (Addr×Obj)) (s:Shared) (σ:St) (H:Hp) (x:V) (v vl vu:Value) (lo hi:Option Int) (sl:Addr) (Q:VK),ay X pins σ H s->bz x v->s.heap.IsSliceOf sl vl vu .none->IsPart vl lo->IsPart vu hi->r x lo hi H Q ->
    ∃ T id,typeLookup (.type T) "__getitem__" = pure (some (.builtin id))/\s.TypeIs v T/\wpAny (model X.prog X.w) X.A (getItem v (.ref sl)) (EP X pins σ Q) X.xe s
theorem wL.or {r r':V->Option Int->Option Int->Hp->VK->Prop} (h:wL X r) (h':wL X r'):wL X (fun x lo hi H Q=>r x lo hi H Q\/r' x lo hi H Q):=by
  intro pins s σ H x v vl vu lo hi sl Q I rx hs pl pu q;rcases q with q | q
  · exact h pins s σ H x v vl vu lo hi sl Q I rx hs pl pu q
  · exact h' pins s σ H x v vl vu lo hi sl Q I rx hs pl pu q
noncomputable def Bo (r:V->Option Int->Option Int->Hp->VK->Prop) (te:TE) (tl th:TO):TE:=fun σ H Q=>te σ H fun x H1=>tl σ H1 fun l H2=>th σ H2 fun u H3=>r x l u H3 Q
theorem vb {r:V->Option Int->Option Int->Hp->VK->Prop} (hr:wL X r) (he:PE X e te) (hl:PO X lo tl) (hu:PO X hi th):PE X (.Subscript e (.Slice lo hi none p2) pos) (Bo r te tl th):=by
  intro pins s σ H Q I h;refine Subscript_ (dc (he pins s σ H _ I h) fun v s1 ⟨x,H1,I1,r1,q1⟩=>?_);refine wpAny_Slice (dc (hl pins s1 σ H1 _ I1 q1) fun vl s2 ⟨l,H2,I2,pl,q2⟩=>dc (hu pins s2 σ H2 _ I2 q2) fun vu s3 ⟨u,H3,I3,pu,q3⟩=>?_);rw [evalPart_none];refine wpAny_pure ?_;have I4:ay X pins σ H3 { s3 with heap:=s3.heap.push { cls:=.type "slice",data:=.fields #[vl,vu,.none] } }:=I3.kept (t':=s3.toks) fun b ob q=>Heap.get?_push_of_some _ q
  obtain ⟨T,id,hT,ht,hg⟩:=hr pins { s3 with heap:=s3.heap.push { cls:=.type "slice",data:=.fields #[vl,vu,.none] } } σ H3 x v vl vu l u s3.heap.objs.size Q I4 r1 (Heap.IsSliceOf.new ..) pl pu q3;show wpAny (model X.prog X.w) X.A (subscriptTail e (.Slice lo hi none p2) v (.ref s3.heap.objs.size)) (EP X pins σ Q) X.xe { s3 with heap:=s3.heap.push { cls:=.type "slice",data:=.fields #[vl,vu,.none] } };exact tail_any (ops:=[.ref s3.heap.objs.size,v]) ht hT hg (by with_unfolding_all rfl)
noncomputable def om (xs:List V) (lo hi:Option Int):List V:=(xs.drop (HT.sIx xs.length 0 lo)).take (HT.sIx xs.length xs.length hi-HT.sIx xs.length 0 lo)
theorem j0 (xs:List V) (lo hi:Option Int):(om xs lo hi).length<=xs.length:=by
  unfold om;rw [List.length_take,List.length_drop];omega
noncomputable def AG (K:PySem.W.Frag):V->Option Int->Option Int->Hp->VK->Prop:=fun x lo hi H Q=>∃ a xs,x=.ref a/\iA K H a xs /\
  ¬ (HT.sIx xs.length 0 lo=0/\HT.sIx xs.length xs.length hi=xs.length)/\∀ p,H p=none->Q (.ref p) (dk H p (.tup (om xs lo hi)))
theorem yA:wL X (AG X.K):=by
  intro pins s σ H x v vl vu lo hi sl Q I rx hs pl pu h;obtain ⟨a,xs,rfl,hx,hw,q⟩:=h;cases rx;obtain ⟨its,r,ht,hz⟩:=I.tuple hx;have hlen:its.toArray.size=xs.length:=by rw [List.size_toArray];exact r.length.symm
  refine ⟨"tuple",_,PyProof.Rows.slot_tuple_getitem.lookup,ht.typeIs,?_⟩;refine HT.getItem_tuple_cut ht hs pl pu (by rw [hlen];exact hw) ?_ (by rw [hlen];exact hz);rw [hlen];refine ⟨.ref s.heap.objs.size,_,I.laid (t':=s.toks) (o:=.tup (om xs lo hi)) (fun b ob q=>Heap.get?_push_of_some _ q) (Nat.le_refl _) ?_,rfl,q _ (I.hok.fresh (Nat.le_refl _))⟩;exact ⟨Nat.le_trans (j0 xs lo hi) hz,_,(r.drop (HT.sIx xs.length 0 lo)).take (HT.sIx xs.length xs.length hi-HT.sIx xs.length 0 lo),IsTup.new _ _⟩
noncomputable def xu (K:PySem.W.Frag):R2:=fun x y H Q=>∃ a b xs ys,x=.ref a/\y=.ref b/\iA K H a xs/\iA K H b ys/\xs≠[]/\xs.length+ys.length<=sizeLine /\
  (ys=[]->Q (.ref a) H)/\(ys≠[]->∀ p,H p=none->Q (.ref p) (dk H p (.tup (xs++ys))))
theorem bp.nil_iff {xs:List V} {us:List Value} (r:bp xs us):us=[]<->xs=[]:=by
  cases r with
  | nil=>simp
  | cons _ _=>simp
theorem vX:gT X (binaryOp .Add) (xu X.K):=by
  intro pins s σ H x y v u Q I rx ry h;obtain ⟨a,b,xs,ys,rfl,rfl,ha,hb,hx,hz,q1,q2⟩:=h;cases rx;cases ry;obtain ⟨its,r1,p1,_⟩:=I.tuple ha;obtain ⟨its2,r2,p2,_⟩:=I.tuple hb;refine HT.cat_tup p1 p2 (fun z=>hx (r1.nil_iff.mp z)) (fun z=>⟨.ref a,H,I,rfl,q1 (r2.nil_iff.mp z)⟩) (fun z=>?_) (by rw [<- r1.length,<- r2.length];exact hz);refine ⟨.ref s.heap.objs.size,_,I.laid (t':=s.toks) (o:=.tup (xs++ys)) (fun b ob q=>Heap.get?_push_of_some _ q) (Nat.le_refl _) ?_,rfl,q2 (fun w=>z (r2.nil_iff.mpr w)) _ (I.hok.fresh (Nat.le_refl _))⟩;exact ⟨by rw [List.length_append];exact hz,_,r1.append r2,IsTup.new _ _⟩
end
noncomputable def vK (n:Nat) (i:Int):Option Nat:=if 0<=i then (if i < n then some i.toNat else none) else if -(n:Int)<=i then some (i+n).toNat else none
noncomputable def atI {α:Type} (xs:List α) (i:Int):Option α:=(vK xs.length i).bind fun j=>xs[j]?
theorem wI {n:Nat} {i:Int} {j:Nat} (h:vK n i=some j):seqIndex? i n=some j/\j < n/\-(n:Int)<=i/\i < n:=by
  unfold vK at h;by_cases h0:0<=i
  · rw [if_pos h0] at h;by_cases h1:i < n
    · rw [if_pos h1] at h;have e:i.toNat=j:=Option.some.inj h;exact ⟨by rw [seqIndex_of h0 h1,e],by omega,by omega,h1⟩
    · rw [if_neg h1] at h;cases h
  · rw [if_neg h0] at h;by_cases h1:-(n:Int)<=i
    · rw [if_pos h1] at h;have e:(i+n).toNat=j:=Option.some.inj h;exact ⟨by rw [seqIndex_neg (by omega) h1,e],by omega,h1,by omega⟩
    · rw [if_neg h1] at h;cases h
theorem nE {α:Type} {xs:List α} {i:Int} {v:α} (h:atI xs i=some v):∃ j,seqIndex? i xs.length=some j/\xs[j]?=some v/\j < xs.length/\-(xs.length:Int)<=i/\i < xs.length:=by
  unfold atI at h;cases e:vK xs.length i with
  | none=>rw [e] at h;cases h
  | some j =>
    rw [e] at h;obtain ⟨h1,h2,h3,h4⟩:=wI e;exact ⟨j,h1,h,h2,h3,h4⟩
theorem mO {α:Type} {xs:List α} {j:Nat} {v:α} (h:xs[j]?=some v):atI xs (j:Int)=some v:=by
  have hj:j < xs.length:=(List.getElem?_eq_some_iff.mp h).1;have e:vK xs.length (j:Int)=some j:=by
    unfold vK;rw [if_pos (by omega),if_pos (by omega)];simp
  unfold atI;rw [e];exact h
noncomputable def qV (b:Expr):Prop:=∀ o i,subscripted b false o i=operate [o,i] (getItem o i)
noncomputable def wJ (X:Cx) (r:R2):Prop :=
  ∀ (value slice:Expr) (pins:List (Addr×Obj)) (s:Shared) (σ:St) (H:Hp) (x y:V) (v u:Value) (Q:VK),ay X pins σ H s->bz x v->bz y u->r x y H Q ->
    subscripted slice false v u=operate [v,u] (getItem v u)->wpAny (model X.prog X.w) X.A (subscriptTail value slice v u) (EP X pins σ Q) X.xe s
noncomputable def AK (X:Cx) (id:String) (r:V->List V->Hp->VK->Prop):Prop :=
  ∀ (pins:List (Addr×Obj)) (s:Shared) (σ:St) (H:Hp) (x:V) (xs:List V) (v:Value) (us:List Value) (Q:VK),ay X pins σ H s->bz x v->bp xs us->r x xs H Q ->
    wpAny (model X.prog X.w) X.A (call (.builtin id) (v::us)) (EP X pins σ Q) X.xe s
section
variable {X:Cx} {a b:Expr} {ta tb:TE} {pos:Pos}
theorem wJ.or {r r':R2} (h:wJ X r) (h':wJ X r'):wJ X (fun x y H Q=>r x y H Q\/r' x y H Q):=by
  intro value slice pins s σ H x y v u Q I rx ry q hs;rcases q with q | q
  · exact h value slice pins s σ H x y v u Q I rx ry q hs
  · exact h' value slice pins s σ H x y v u Q I rx ry q hs
theorem zJ {r:R2} (hr:wJ X r) (ha:PE X a ta) (hb:PE X b tb) (hs:qV b):PE X (.Subscript a b pos) (Ad r ta tb):=by
  intro pins s σ H Q I h;exact Subscript_ (yI ha hb I h fun v u s2 x y H2 I2 rx ry q=>hr a b pins s2 σ H2 x y v u Q I2 rx ry q (hs _ _))
noncomputable def zC (K:PySem.W.Frag):R2:=fun x y H Q=>∃ p xs i v,x=.ref p/\y=.int i/\kW K H p xs/\atI xs i=some v/\Q v H
noncomputable def zW (K:PySem.W.Frag):R2:=fun x y H Q=>∃ p xs i v,x=.ref p/\y=.int i/\iA K H p xs/\atI xs i=some v/\Q v H
noncomputable def zD:R2:=fun x y H Q=>∃ z i c,x=.str z/\y=.int i/\z.length<=sizeLine/\atI z.cps.toList i=some c/\Q (.str ⟨#[c]⟩) H
theorem vW:wJ X (zC X.K):=by
  intro value slice pins s σ H x y v u Q I rx ry h hs;obtain ⟨p,xs,i,z,rfl,rfl,hq,he,q⟩:=h;cases rx;obtain ⟨t,rfl⟩:=ry;obtain ⟨its,r,pl,hz⟩:=I.list hq;obtain ⟨j,h1,h2,h3,h4,h5⟩:=nE he;obtain ⟨w,ew,rw'⟩:=r.get h2;have hl:=r.length;have hn:=li;have fin:EP X pins σ Q w s:=⟨z,H,I,rw',q⟩
  by_cases h0:0<=i
  · have hj:i.toNat=j:=by
      rw [seqIndex_of h0 h5] at h1;exact Option.some.inj h1
    exact item_listR pl.isList h0 (by omega) (by rw [hj];simpa using ew) fin hs
  · have hj:(i+(its.toArray.size:Int)).toNat=j:=by
      rw [seqIndex_neg (by omega) h4] at h1;rw [List.size_toArray,<- hl];exact Option.some.inj h1
    exact subscriptTail_builtinR (x:=w) pl.isList.typeIs slot_list_getitem.lookup
      (wpAny_getItem_list_neg (Q:=fun r s'=>r=w/\EP X pins σ Q r s') pl.isList (by omega) (by rw [List.size_toArray] <;> omega) (by omega) (by rw [hj];simpa using ew) ⟨rfl,fin⟩) hs
theorem xU:wJ X (zW X.K):=by
  intro value slice pins s σ H x y v u Q I rx ry h hs;obtain ⟨p,xs,i,z,rfl,rfl,hq,he,q⟩:=h;cases rx;obtain ⟨t,rfl⟩:=ry;obtain ⟨its,r,pl,hz⟩:=I.tuple hq;obtain ⟨j,h1,h2,h3,h4,h5⟩:=nE he;obtain ⟨w,ew,rw'⟩:=r.get h2;have hl:=r.length;have hn:=li;have fin:EP X pins σ Q w s:=⟨z,H,I,rw',q⟩
  exact subscriptTail_builtinR (x:=w) pl.typeIs slot_tuple_getitem.lookup
    (getItem_tuple (j:=j) (Q:=fun r s'=>r=w/\EP X pins σ Q r s') pl (by omega) (by omega) (by rw [List.size_toArray,<- hl];exact h1) (by simpa using ew) ⟨rfl,fin⟩) hs
theorem za:wJ X zD:=by
  intro value slice pins s σ H x y v u Q I rx ry h hs;obtain ⟨z,i,c,rfl,rfl,hz,he,q⟩:=h;obtain ⟨t,rfl⟩:=rx;obtain ⟨t',rfl⟩:=ry;obtain ⟨j,h1,h2,h3,h4,h5⟩:=nE he;have hl:z.cps.toList.length=z.length:=by simp [Str.length]
  rw [hl] at h1 h4 h5;have hn:=li;exact tail_any (typeIs_str s z t) slot_str_getitem.lookup (getItem_str (c:=c) (by
    have e1:decide (i < -(2 ^ 63:Int))=false:=decide_eq_false (by omega);have e2:decide (i>=2 ^ 63)=false:=decide_eq_false (by omega);rw [e1,e2,Bool.or_false]) (by rw [h1];simpa using h2) ⟨.str ⟨#[c]⟩,H,I.tok _,⟨_,rfl⟩,q⟩) hs
theorem nQ (lo hi:Option Int) (n:Nat):(sliceBounds lo hi none n).1=((HT.sIx n 0 lo:Nat):Int)/\(sliceBounds lo hi none n).2.1=((HT.sIx n n hi:Nat):Int)/\(sliceBounds lo hi none n).2.2=1:=by
  refine ⟨?_,?_,rfl⟩
  · cases lo with
    | none=>simp [sliceBounds,HT.sIx]
    | some i =>
      simp only [sliceBounds,HT.sIx,Option.getD_none,show (1:Int) > 0 by decide,if_true];by_cases h:i < 0
      · simp only [h,if_true] <;> omega
      · simp only [h,if_false] <;> omega
  · cases hi with
    | none=>simp [sliceBounds,HT.sIx]
    | some i =>
      simp only [sliceBounds,HT.sIx,Option.getD_none,show (1:Int) > 0 by decide,if_true];by_cases h:i < 0
      · simp only [h,if_true] <;> omega
      · simp only [h,if_false] <;> omega
theorem lV (its:List Value) (lo hi:Option Int):slicePick its.toArray lo hi none=((its.drop (HT.sIx its.length 0 lo)).take (HT.sIx its.length its.length hi-HT.sIx its.length 0 lo)).toArray:=by
  obtain ⟨h1,h2,h3⟩:=nQ lo hi its.toArray.size;unfold slicePick;rw [h1,h2,h3];simp only [sliceRange_one,pick_run,List.size_toArray] <;> rfl
noncomputable def AI (K:PySem.W.Frag):V->Option Int->Option Int->Hp->VK->Prop:=fun x lo hi H Q=>∃ a xs,x=.ref a/\kW K H a xs/\∀ p,H p=none->Q (.ref p) (dk H p (.lst (om xs lo hi)))
theorem wK:wL X (AI X.K):=by
  intro pins s σ H x v vl vu lo hi sl Q I rx hs pl pu h;obtain ⟨a,xs,rfl,hx,q⟩:=h;cases rx;obtain ⟨its,r,ht,hz⟩:=I.list hx;have hlen:=r.length;refine ⟨"list",_,slot_list_getitem.lookup,ht.isList.typeIs,?_⟩;refine wpAny_getItem_list_slice ht.isList hs pl pu .none (by simp) ?_ (by rw [List.size_toArray] <;> omega);rw [lV,<- hlen];refine ⟨.ref s.heap.objs.size,_,I.laid (t':=s.toks) (o:=.lst (om xs lo hi)) (fun b ob q=>Heap.get?_push_of_some _ q) (Nat.le_refl _) ?_,rfl,q _ (I.hok.fresh (Nat.le_refl _))⟩;exact ⟨Nat.le_trans (j0 xs lo hi) hz,_,0,(r.drop (HT.sIx xs.length 0 lo)).take (HT.sIx xs.length xs.length hi-HT.sIx xs.length 0 lo),Heap.get?_push_size _ rfl⟩
theorem nV:cQ X (.builtin "len") (fun xs H Q=>∃ p ys,xs=[.ref p]/\(kW X.K H p ys\/iA X.K H p ys)/\Q (.int ys.length) H):=by
  intro pins s σ H xs us Q I r h;obtain ⟨p,ys,rfl,hq,q⟩:=h;obtain ⟨u,rfl,rx⟩:=fM r;cases rx;have hn:=li;rcases hq with hq | hq
  · obtain ⟨its,r',pl,hz⟩:=I.list hq;have hlen:=r'.length;exact Calls.call_len_list pl.isList (by simp only [List.size_toArray] <;> omega) ⟨.int ys.length,H,I.tok _,⟨s.toks+1,by rw [List.size_toArray,hlen]⟩,q⟩
  · obtain ⟨its,r',pl,hz⟩:=I.tuple hq;have hlen:=r'.length;exact len_tuple pl (by simp only [List.size_toArray] <;> omega) ⟨.int ys.length,H,I.tok _,⟨s.toks+1,by rw [List.size_toArray,hlen]⟩,q⟩
theorem nB:cQ X (.builtin "len") (fun xs H Q=>∃ z,xs=[.str z]/\z.length<=sizeLine/\Q (.int z.length) H):=by
  intro pins s σ H xs us Q I r h;obtain ⟨z,rfl,hz,q⟩:=h;obtain ⟨u,rfl,t,rfl⟩:=fM r;have hn:=li;exact len_str (by omega) ⟨.int z.length,H,I.tok _,⟨_,rfl⟩,q⟩
theorem cQ.or {f:Value} {r r':List V->Hp->VK->Prop} (h:cQ X f r) (h':cQ X f r'):cQ X f (fun xs H Q=>r xs H Q\/r' xs H Q):=by
  intro pins s σ H xs us Q I rs q;rcases q with q | q
  · exact h pins s σ H xs us Q I rs q
  · exact h' pins s σ H xs us Q I rs q
theorem lU:cQ X (.type "tuple") (fun xs H Q=>∃ p ys,xs=[.ref p]/\((kW X.K H p ys/\∀ l,H l=none->Q (.ref l) (dk H l (.tup ys)))\/(iA X.K H p ys/\Q (.ref p) H))):=by
  intro pins s σ H xs us Q I r h;obtain ⟨p,ys,rfl,h⟩:=h;obtain ⟨u,rfl,rx⟩:=fM r;cases rx;rcases h with ⟨hq,q⟩ | ⟨hq,q⟩
  · obtain ⟨its,r',pl,hz⟩:=I.list hq;have hlen:=r'.length;refine call_tuple_list pl.isList (fun h' kp=>?_) (by simp only [List.size_toArray] <;> omega);have I1:ay X pins σ H { s with heap:=h' }:=I.kept (t':=s.toks) kp;have I2:ay X pins σ (dk H h'.objs.size (.tup ys)) { s with heap:=h'.push { cls:=.type "tuple",data:=.seq its.toArray } } :=
      I1.laid (t':=s.toks) (fun b o e=>Heap.get?_push_of_some _ e) (Nat.le_refl _) (show bY X.prog X.w _ _ _ (.tup ys) from ⟨hz,its,r',IsTup.new _ _⟩)
    exact ⟨.ref h'.objs.size,_,I2,rfl,q _ (I1.hok.fresh (Nat.le_refl _))⟩
  · obtain ⟨its,r',pl,hz⟩:=I.tuple hq;exact call_tuple_same pl ⟨.ref p,H,I,rfl,q⟩
noncomputable def A8 (K:PySem.W.Frag) (T:String) (x:V) (H:Hp):Prop:=match x with
  | .str _=>T = "str"
  | .int _=>T = "int"
  | .ref p=>(T = "list" /\ ∃ xs,kW K H p xs)\/(T = "tuple" /\ ∃ o,K.lookup p=some o/\o.cls=.type "tuple" /\ o.dict=none) \/
      (T = "dict" /\ ((∃ kvs,H p=some (.dK kvs))\/∃ kvs,H p=some (.dT kvs)))\/(T = "set" /\ ∃ S n,H p=some (.set S n))
  | _=>False
theorem zi {pins:List (Addr×Obj)} {σ:St} {H:Hp} {s:Shared} {T:String} {x:V} {v:Value} (I:ay X pins σ H s) (r:bz x v) (ty:A8 X.K T x H) :
    s.TypeIs v T/\∀ a,v=.ref a->∃ ob,s.heap.get? a=some ob/\ob.dict=none:=by
  cases x with
  | str z =>
    obtain ⟨t,rfl⟩:=r;cases (show T = "str" from ty);exact ⟨typeIs_str s z t,fun _ e=>nomatch e⟩
  | int i =>
    obtain ⟨t,rfl⟩:=r;cases (show T = "int" from ty);exact ⟨typeIs_int s i t,fun _ e=>nomatch e⟩
  | ref p =>
    cases r;rcases ty with ⟨rfl,xs,hq⟩ | ⟨rfl,o,hk,hc,hd⟩ | ⟨rfl,hk⟩ | ⟨rfl,S,n,hk⟩
    · obtain ⟨its,_,pl,_⟩:=I.list hq;refine ⟨pl.isList.typeIs,fun a e=>?_⟩;cases e;obtain ⟨o,n,e,c,hd,_⟩:=pl;exact ⟨o,e,hd⟩
    · refine ⟨⟨o,I.kIn p o hk,hc⟩,fun a e=>?_⟩;cases e;exact ⟨o,I.kIn _ o hk,hd⟩
    · have z:∃ o,s.heap.get? p=some o/\o.ExactDict:=by
        rcases hk with ⟨kvs,hk⟩ | ⟨kvs,hk⟩
        · obtain ⟨_,_,_,_,o,_,_,e,ex,_⟩:=I.hok p _ hk;exact ⟨o,e,ex⟩
        · obtain ⟨_,_,_,_,o,_,_,e,ex,_⟩:=I.hok p _ hk;exact ⟨o,e,ex⟩
      obtain ⟨o,e,ex⟩:=z;refine ⟨⟨o,e,ex.1⟩,fun a e2=>?_⟩;cases e2;exact ⟨o,e,ex.2.1⟩
    · obtain ⟨o,_,_,_,e,ex,_⟩:=I.hok p _ hk;refine ⟨⟨o,e,ex.1⟩,fun a e2=>?_⟩;cases e2;exact ⟨o,e,ex.2.1⟩
  | _=>exact False.elim ty
noncomputable def Bp (K:PySem.W.Frag) (T:String) (r:V->List V->Hp->VK->Prop) (to:TE) (t:TA):TE:=fun σ H Q=>to σ H fun x H1=>A8 K T x H1/\t σ H1 fun xs H2=>r x xs H2 Q
variable {o e:Expr} {es:List Expr} {to:TE} {t:TA} {name:Str} {apos cpos:Pos} {T id:String} {r:V->List V->Hp->VK->Prop}
theorem rh (pa:PlainAttrs T) (slot:Slot T name id) (hty:typeOf (.builtin id)=pure (.type "method_descriptor")) (hm:AK X id r) (ho:PE X o to) (ha:PA X (e::es) t)
    (hbase:attributeBase o name X.env (eval o X.env)=eval o X.env:=by rfl)
    (hfew:((backTo cpos (starEach (e::es) X.env)).all (fun x=>!x.1)&&(backToKw cpos (keywordEach [] X.env)).all (fun x=>x.1.isSome)
      && decide ((e::es).length+([]:List Keyword).length+(if ([]:List Keyword).isEmpty then 0 else 1) < 30))=true:=by rfl)
    (hline:(apos.endLine==cpos.line)=true:=by rfl) (hs:starEach (e::es) X.env=(false,eval e X.env)::starEach es X.env:=by rfl) (hplain:(backTo cpos (starEach es X.env)).any (·.1)=false:=by rfl) :
    PE X (.Call (.Attribute o name apos) (e::es) [] cpos) (Bp X.K T r to t):=by
  intro pins s σ H Q I h;refine wpAny_Call_method_late hbase hfew hline rfl (dc (ho pins s σ H _ I h) fun v s1 ⟨x,H1,I1,r1,ty,q1⟩=>?_);obtain ⟨h1,h2⟩:=zi I1 r1 ty;refine ⟨T,id,pa,slot,hty,h1,h2,?_⟩;have hA:=ha cpos pins s1 σ H1 _ I1 q1;rw [hs] at hA ⊢;refine Calls.callWith_builtin (by show (false||(backTo cpos (starEach es X.env)).any (·.1))=false;rw [hplain] <;> rfl) (Calls.evalArgs_plain ?_);exact dc hA fun us s2 ⟨vs,H2,I2,r2,q2⟩=>hm pins s2 σ H2 x vs v us Q I2 r1 r2 q2
end
noncomputable def Bf (X:Cx) (id:String) (r:V->List V->Hp->VK->Prop):Prop :=
  ∀ (pins:List (Addr×Obj)) (s:Shared) (σ:St) (H:Hp) (x:V) (xs:List V) (v:Value) (us:List Value) (Q:VK),ay X pins σ H s->bz x v->bp xs us->r x xs H Q ->
    wpAny (model X.prog X.w) X.A (call (.builtin id) (v::us)) (EP X pins σ Q) X.xe s
theorem bp.one:∀ {x:V} {us:List Value},bp [x] us->∃ u,us=[u]/\bz x u
  | _,_,.cons r .nil=>⟨_,rfl,r⟩
theorem bp.rep {xs:List V} {us:List Value} (h:bp xs us):∀ k:Nat,bp (List.replicate k xs).flatten (List.replicate k us).flatten
  | 0=>.nil
  | k+1=>by
    rw [List.replicate_succ,List.replicate_succ,List.flatten_cons,List.flatten_cons];exact bp.append h (bp.rep h k)
theorem mv (its:List Value):∀ (k:Nat) (acc:List Value),
    List.foldl (fun x1 x2=>x1++x2) acc.toArray (List.replicate k its.toArray)=(acc++(List.replicate k its).flatten).toArray
  | 0,acc=>by simp
  | k+1,acc=>by
    have e:acc.toArray++its.toArray=(acc++its).toArray:=by simp
    have e2:(acc++its)++(List.replicate k its).flatten=acc++(List.replicate (k+1) its).flatten:=by
      rw [List.replicate_succ,List.flatten_cons,List.append_assoc]
    rw [<- e2,<- mv its k (acc++its),<- e,List.replicate_succ,List.foldl_cons]
section
variable {X:Cx} {pins:List (Addr×Obj)} {σ:St} {H:Hp} {s:Shared} {l b:Addr} {xs ys zs:List V}
theorem ay.lset {its its':List Value} {n:Nat} {f:Array Value->Array Value} {t':Nat} (I:ay X pins σ H s) (hH:H l=some (.lst xs))
    (e:s.heap.get? l=some { cls:=.type "list",data:=.seq its.toArray n }) (hf:f its.toArray=its'.toArray) (hv:bp ys its') (hz:ys.length<=sizeLine) :
    ay X pins σ (dk H l (.lst ys)) { s with heap:=s.heap.update l (Obj.mapSeq f),toks:=t' }:=by
  have q:=PySem.IsL.update e f;rw [hf] at q;refine I.write (x:=l) (e:=l) (by rw [hH];exact trivial) (.inl rfl) (fun b' u hb hu=>(Heap.get?_update_other s.heap (Obj.mapSeq f) (Ne.symm hb)).trans hu) ⟨_,q⟩ ?_;exact ⟨hz,its',_,hv,q⟩
theorem ay.lnew {its:List Value} {t':Nat} (I:ay X pins σ H s) (hv:bp ys its) (hz:ys.length<=sizeLine) :
    ay X pins σ (dk H s.heap.objs.size (.lst ys)) { s with heap:=s.heap.push { cls:=.type "list",data:=.seq its.toArray },toks:=t' } :=
  I.laid (fun _ _ q=>Heap.get?_push_of_some _ q) (Nat.le_refl _) ⟨hz,its,0,hv,Heap.get?_push_size _ rfl⟩
theorem ay.fresh (I:ay X pins σ H s):H s.heap.objs.size=none:=I.hok.fresh (Nat.le_refl _)
theorem ay.lstM (I:ay X pins σ H s) (hH:H l=some (.lst xs)):xs.length<=sizeLine/\∃ (its:List Value) (n:Nat),bp xs its/\xs.length=its.length/\s.heap.get? l=some { cls:=.type "list",data:=.seq its.toArray n }:=by
  obtain ⟨z,its,n,r,e⟩:=I.hok l _ hH;exact ⟨z,its,n,r,r.length,e⟩
theorem uw {n:Nat} (h:n<=sizeLine):Builtin.List.listTooLong n=false:=by
  unfold Builtin.List.listTooLong;exact decide_eq_false (by omega)
end
section
variable {X:Cx}
noncomputable def xi:V->List V->Hp->VK->Prop:=fun x vs H Q=>∃ l xs y,x=.ref l/\vs=[y]/\H l=some (.lst xs)/\xs.length < sizeLine/\Q .non (dk H l (.lst (xs++[y])))
theorem mJ:Bf X "list.append" xi:=by
  intro pins s σ H x vs v us Q I rx rv h;obtain ⟨l,xs,y,rfl,rfl,hH,hz,q⟩:=h;cases rx;obtain ⟨u,rfl,ru⟩:=rv.one;obtain ⟨z,its,n,r,hl,e⟩:=I.lstM hH;refine call_meets F.slot_list_append ⟨_,e,rfl⟩ F.entry_list_append (F.args_list_append_2 _ _) (PySem.list_append l its.toArray n u (by rw [List.size_toArray];omega)) ⟨e,?_⟩;refine ⟨.non,_,I.lset (its':=its++[u]) hH e (by simp) (r.append (.cons ru .nil)) ?_,rfl,q⟩;rw [List.length_append,List.length_singleton];omega
theorem qZ {α:Type} (xs:List α) (k:Nat):(List.replicate k xs).flatten.length=k*xs.length:=by
  induction k with
  | zero=>simp
  | succ k ih=>rw [List.replicate_succ,List.flatten_cons,List.length_append,ih,Nat.succ_mul,Nat.add_comm]
end
end L2
namespace Att
open PySem PySem.W PySem.Calls PyProof.Rows
theorem ka {P:Params} {h:Heap}:∀ (ns:List Int) (vs:List Value),WellAll P h vs (ns.map WData.int)->IntsAre vs ns:=by
  intro ns;induction ns with
  | nil =>
    intro vs w;rw [List.map_nil] at w;cases w;exact .nil
  | cons n ns ih =>
    intro vs w;rw [List.map_cons] at w;cases w with
    | cons a b =>
      cases a;exact .cons _ _ (ih _ b)
theorem rX {l:OpenLaw} {n:Nat} (hn:l.most=some n) {P:Params} {h:Heap} {args:List WData} {vals:List Value}
    (hpre:l.row.toRowW.claim.pre args=true) (hwl:WellAll P h vals args) :
    ∃ a vs ns,vals=[Value.ref a]/\args=[WData.list (ns.map WData.int)]/\h.get? a=some { cls:=.type "list",data:=.seq vs.toArray }/\IntsAre vs ns/\ns.length<=n:=by
  have hsh:WShape.hasAll [] args [.list .int]=true:=(pre_splitW hpre).1;have hc:l.pre.holds [] { args:=args }=true:=(pre_splitW hpre).2;obtain ⟨d,r,rfl,h1,h2⟩:=hasAllW_cons hsh;obtain rfl:=hasAllW_nil h2;obtain ⟨xs,rfl,h3⟩:=hasW_list h1;obtain ⟨ns,rfl⟩:=items_int h3;have hlen:ns.length<=n:=by
    unfold OpenLaw.pre at hc;have h4:(WTm.not (.lt (.lit (.int (n:Int))) (.len (.arg 0)))).holds [] { args:=[.list (ns.map .int)] }=true:=by
      have h4:=(holds_andW hc).1;rw [hn] at h4;exact h4
    have h5:=condW_of h4 (w_not (w_lt w_lit (w_len_list (w_arg rfl))));rw [List.length_map] at h5;refine Nat.le_of_not_lt fun q=>?_
    have q':(n:Int) < ((ns.length:Nat):Int):=by omega
    first
      | (rw [decide_eq_true q'] at h5;exact absurd h5 (by decide))
      | (simp at h5;omega)
  cases hwl with
  | cons w1 w2 =>
    cases w2;cases w1 with
    | list ho hall=>exact ⟨_,_,ns,rfl,rfl,ho,ka ns _ hall,hlen⟩
theorem sU (l:OpenLaw) (args:List WData):l.row.toRowW.claim.post args (.bool true) args=true :=
  postW_of (r:=l.row.toRowW) (X:=(true==true))
    (show WShape.has [] (.bool true) .bool=true by first | rfl | decide | simp [WShape.has,WShape.arms,WShape.armsAll])
    (show (WTm.eq .res (.lit (.bool true))).value [] { args:=args,res:=some (.bool true),after:=args }=some (.bool (true==true)) from w_eq_bool (w_res rfl) w_lit) rfl
theorem attach_call {l:OpenLaw} {n:Nat} {q:Program} {loose:List Str} {XP:(Str->Option Value)->Heap->Prop} {YP:World->Heap->Prop} {d:DefRec}
    (hn:l.most=some n) (hdf:d.params.defaults=[])
    (call:∀ (w:World) (s₀ s₁:Shared) (mg mb:Str->Option Value) (fa:Addr) (o:Obj) (pm cd doc:Value) (a:Addr) (vs:List Value) (ns:List Int),
      Ground q loose [] XP w s₀ mg mb s₁.heap->YP w s₁.heap ->
      s₁.heap.get? fa=some o->o.data=.func (docDef d.name d.params d.body d.scope pm cd doc)->s₁.heap.CodeRec cd d.name->mg d.name=some (.ref fa) ->
      s₁.heap.get? a=some { cls:=.type "list",data:=.seq vs.toArray }->IntsAre vs ns->ns.length<=n->s₁.gens=#[] ->
      codeAny (model l.prog w) callerA (.call (.ref fa) ⟨[.ref a],[]⟩) (fun r s'=>r=.ok (.ret (.bool true))/\OldK s₁.heap s'.heap/\s'.os=s₁.os/\AllBare s'.gens) s₁) :
    WalkO q loose XP YP l.row.toRowW d [] (fun f vs=>PySem.call f vs):=by
  intro w s₀ s₁ mg mb G Y fa o pm cd doc dV kV ho hd hcd hD hmg hg args vals as hpre hlay hrd hwl hlo;obtain rfl:dV=.none:=Dflts.none hD hdf;obtain rfl:kV=.none:=Dflts.noKw hD;obtain ⟨a,vs,ns,rfl,rfl,hobj,hints,hlen⟩:=rX hn hpre hwl;refine enter_call (codeAny_mono (call w s₀ s₁ mg mb fa o pm cd doc a vs ns G Y ho (fd_plain hd) hcd hmg hobj hints hlen hg) fun r s' hq=>?_);obtain ⟨rfl,h2,h3,h4⟩:=hq;exact ⟨.inl ⟨.bool true,.bool true,[],rfl,fun _=>rfl,.bool true,sU l _,fun _=>⟨List.Pairwise.nil,fun _ hm=>(nomatch hm)⟩⟩,h2,h3,h4⟩
end Att
namespace L2
open PySem PySem.Spec PyProof.Rows
theorem iD:∀ {vs:List Value} {ns:List Int},IntsAre vs ns->bp (ns.map V.int) vs
  | _,_,.nil=>.nil
  | _,_,.cons n t h=>.cons ⟨t,rfl⟩ (iD h)
noncomputable def Ai (H:Hp):Prop:=∀ b,H b=none\/∃ o xs,H b=some (.frz o (.lst xs))
theorem ut {P:Program} {w:World} {K:PySem.W.Frag} {mg mb:Str->Option Value} {CX:tJ} {k:Nat} {fa a:Addr} {fd:FuncData} {x:Str} {sp:Sp} {s₁:Shared} {vs:List Value} {ns:List Int}
    (KX:K.In s₁.heap) (hns:s₁.heap.Ns mainGlobals mg) (hb:s₁.heap.Ns builtinsNs mb) (hbb:∀ x:Str,x ≠ "__name__" -> mb x=bootBuiltins x) (hlim:s₁.heap.NoLimit) (hg:s₁.gens=#[])
    (ha:s₁.heap.get? a=some { cls:=.type "list",data:=.seq vs.toArray }) (hi:IntsAre vs ns) (hl:ns.length<=sizeLine) (hr:eu k callerA)
    (F:∀ base:Heap,K.In base->base.Ns mainGlobals mg->ba P w K mg base CX k fa fd [x] sp) (hbind:∀ (s:Shared) (u:Value),BindsTo s fd ⟨[u],[]⟩ [(x,u)])
    (hsp:∀ H:Hp,Ai H->kW K H a (ns.map V.int)->sp [.ref a] H (fun v _=>v=.bl true) fun _ _ _=>False)
    (hCX:∀ H e s',CX [] H s₁ (fun _ _ _=>False) e s'->False) :
    codeAny (model P w) callerA (.call (.ref fa) ⟨[.ref a],[]⟩) (fun r s'=>r=.ok (.ret (.bool true))/\OldK s₁.heap s'.heap/\s'.os=s₁.os/\AllBare s'.gens) s₁:=by
  have rv:=iD hi;have lenV:=hi.length
  -- from an abstract heap in which nothing but the script may be tracked
  have core:∀ H:Hp,Ai H->kW K H a (ns.map V.int)->fI P w H s₁.heap->(∀ b,H b≠none->b=a)->(H a≠none->K.lookup a=none) ->
      codeAny (model P w) callerA (.call (.ref fa) ⟨[.ref a],[]⟩) (fun r s'=>r=.ok (.ret (.bool true))/\OldK s₁.heap s'.heap/\s'.os=s₁.os/\AllBare s'.gens) s₁:=by
    intro H hO hS hok hA hK;have base_of:∀ {b:Addr} {o:Obj},s₁.heap.get? b=some o->H b=none->(na s₁.heap H).get? b=some o:=fun e n=>ux e n
    have noA:∀ {b:Addr} {o:Obj} {es:Array DictEntry} {ep:Nat},s₁.heap.get? b=some o->o.data=.dict es ep->H b=none:=fun {b o es ep} e d=>by
      cases q:H b with
      | none=>rfl
      | some u =>
        have e':b=a:=hA b (by rw [q];simp);subst e';rw [ha] at e;cases e;have d':Data.seq vs.toArray _=Data.dict es ep:=d;cases d'
    have nsK:∀ {b:Addr} {m:Str->Option Value},s₁.heap.Ns b m->(na s₁.heap H).Ns b m:=fun {b m} ⟨o,es,ep,e,d,r⟩=>⟨o,es,ep,base_of e (noA e d),d,r⟩
    have hKb:K.In (na s₁.heap H):=fun b o e=>base_of (KX b o e) (by
      cases q:H b with
      | none=>rfl
      | some u =>
        have e':b=a:=hA b (by rw [q];simp);subst e';rw [hK (by rw [q];simp)] at e;cases e)
    have hM:Mod K mg (na s₁.heap H):=⟨hKb,nsK hns,⟨mb,nsK hb,hbb⟩,let ⟨mc,h1,h2⟩:=hlim;⟨mc,nsK h1,h2⟩⟩
    have e0:wx P w K mg (na s₁.heap H) callerA [] s₁ H:=⟨rfl,hM,fun b o e=>vS e,Nat.le_of_eq (sv _ _),trivial,fun b hb=>absurd (show b∈([]:List Addr) from hb) (by simp),hok,.of_eq hg⟩
    refine codeAny_mono ((F _ hKb (nsK hns)).run callerA [] s₁ H ⟨[.ref a],[]⟩ [.ref a] [.ref a] _ _ hr e0 (hbind s₁ (.ref a)) (.cons rfl .nil) (hsp H hO hS)) fun r s' h=>?_
    cases r with
    | error e=>exact (hCX H e s' h).elim
    | ok fl =>
      cases fl with
      | next=>exact False.elim h
      | brk=>exact False.elim h
      | cont=>exact False.elim h
      | ret u =>
        obtain ⟨v,H',os,bare,un,hok',r',q⟩:=h;have q':v=.bl true:=q;subst q';obtain rfl:u=Value.bool true:=r';refine ⟨rfl,OldK.of_keep fun b o e=>?_,os,bare⟩;cases q:H b with
        | none=>exact un.keep b o e q (by intro z;exact absurd (show b∈([]:List Addr) from z) (by simp)) (by simp)
        | some u =>
          rcases hO b with z | ⟨ob,xs,z⟩
          · rw [q] at z;cases z
          · have z2:=un.frzs b ob _ z;obtain ⟨e1,_⟩:=hok b _ z;obtain ⟨e2,_⟩:=hok' b _ z2;rw [e] at e1;cases e1;exact e2
  cases hk:K.lookup a with
  | some o =>
    -- the script is one of the module's own objects
    have e:=KX a o hk;rw [ha] at e;cases e;refine core (fun _=>none) (fun _=>.inl rfl) (.inr ⟨_,vs.toArray,_,hk,rfl,rfl,rfl,by rw [List.size_toArray,lenV];exact hl,by simpa using rv⟩) (fun b u z=>by have z':(none:Option HO)=some u:=z;cases z') (fun b z=>absurd rfl z) fun z=>absurd rfl z
  | none =>
    refine core (fun b=>if b=a then some (.frz { cls:=.type "list",data:=.seq vs.toArray } (.lst (ns.map V.int))) else none) (fun b=>?_) (.inl (.inr ⟨{ cls:=.type "list",data:=.seq vs.toArray },if_pos rfl⟩)) (fun b u z=>?_) (fun b z=>?_) fun _=>hk
    · by_cases hb:b=a
      · exact .inr ⟨_,_,if_pos hb⟩
      · exact .inl (if_neg hb)
    · by_cases hb:b=a
      · have z':=(if_pos hb).symm.trans z;cases z';subst hb;exact ⟨ha,by rw [List.length_map];exact hl,vs,_,rv,ha⟩
      · have z':=(if_neg hb).symm.trans z;cases z'
    · by_cases hb:b=a
      · exact hb
      · exact absurd (if_neg hb) z
noncomputable def dC (s:Stmt):Arguments:=match s with
  | .FunctionDef _ a _ _ _ _ _ _ _ _=>a
  | _=>{ posonlyargs:=[],args:=[],vararg:=none,kwonlyargs:=[],kw_defaults:=[],kwarg:=none,defaults:=[] }
noncomputable def cI (s:Stmt):List Stmt:=match s with
  | .FunctionDef _ _ b _ _ _ _ _ _ _=>b
  | _=>[]
noncomputable def ak (s:Stmt):Scope:=match s with
  | .FunctionDef _ _ _ _ _ _ sc _ _ _=>sc
  | _=>{ kind:=.function,names:=[],isGenerator:=false,isCoroutine:=false }
noncomputable abbrev Bc:tJ:=fun _ _ _ _ _ _=>False
structure gP (K:PySem.W.Frag) (x qual:Str) (st:Stmt) (f:Addr) (fd:FuncData):Prop where
  ex:∃ (oc:Value) (od:Option Addr) (kV doc pm:Value) (an:Option Addr) (cdv ct:Value) (osl:Array (Option Value)),
    fd=PySem.W.fnOf x qual (dC st) (cI st) (ak st) .none kV doc pm an cdv ct/\K.lookup f=some ⟨oc,od,.func fd,osl⟩/\PySem.W.codeIn K cdv qual=true
  kp:PySem.W.keepIn K (.ref f)=true
section
variable {P:Program} {w:World} {K:PySem.W.Frag} {mg:Str->Option Value} {base:Heap}
theorem gP.ok {x qual:Str} {st:Stmt} {f:Addr} {fd:FuncData} {N ps:List Str} {k:Nat} {sp:Sp} (F:gP K x qual st f fd) (S:aQ N ps (ak st)) (len:∀ vs H Q E,sp vs H Q E->vs.length=ps.length)
    (hbody:∀ (cdv:Value) (A:Around) (outer:List Env) (s:Shared) (H:Hp) (vs:List V) (Q:VK) (E:XK),eu k (A.deeper (envOfC qual (ak st) s.heap.objs.size f cdv))->sp vs H Q E ->
      ∃ t,nX (eN Bc P w K mg base N qual (ak st) f cdv A outer s H E).nox (cI st) t/\t { nx:=fun _ H'=>Q .non H',rt:=Q } (gR N vs) H):ba P w K mg base Bc (k+1) f fd ps sp:=by
  obtain ⟨oc,od,kV,doc,pm,an,cdv,ct,osl,rfl,lk,hcd⟩:=F.ex;refine xJ lk hcd S len fun A outer s H vs Q E hr hsp=>?_
  obtain ⟨t,h,q⟩:=hbody cdv A outer s H vs Q E hr hsp;exact ⟨t,h.nox,q⟩
theorem gP.binds {x qual:Str} {st:Stmt} {f:Addr} {fd:FuncData} {ps:List Str} (F:gP K x qual st f fd)
    (h:∀ (kV doc pm:Value) (an:Option Addr) (cdv ct:Value) (us:List Value),us.length=ps.length->bindArgs (PySem.W.fnOf x qual (dC st) (cI st) (ak st) .none kV doc pm an cdv ct) ⟨us,[]⟩=pure (ps.zip us)):bF K fd ps []:=by
  obtain ⟨oc,od,kV,doc,pm,an,cdv,ct,osl,rfl,lk,hcd⟩:=F.ex;exact .all (h kV doc pm an cdv ct)
theorem uc {x qual:Str} {st:Stmt} {f:Addr} {oc:Value} {od an:Option Addr} {osl:Array (Option Value)} {kV doc pm cdv ct:Value} (l:K.lookup f=some ⟨oc,od,.func (PySem.W.fnOf x qual (dC st) (cI st) (ak st) .none kV doc pm an cdv ct),osl⟩)
    (c:PySem.W.codeIn K cdv qual=true) (k:PySem.W.keepIn K (.ref f)=true):gP K x qual st f (PySem.W.fnOf x qual (dC st) (cI st) (ak st) .none kV doc pm an cdv ct):=⟨⟨oc,od,kV,doc,pm,an,cdv,ct,osl,rfl,l,c⟩,k⟩
end
noncomputable def aq (H H':Hp):Prop:=∀ b o,H b=some o->H' b=some o
theorem aq.refl (H:Hp):aq H H:=fun _ _ h=>h
theorem aq.trans {H H1 H2:Hp} (a:aq H H1) (b:aq H1 H2):aq H H2:=fun c o h=>b c o (a c o h)
theorem aq.free {H H':Hp} (e:aq H H') {l:Addr} (h:H' l=Option.none):H l=Option.none:=by
  cases q:H l with
  | none=>rfl
  | some o =>
    rw [e l o q] at h;cases h
section
variable {κ:Type} [DecidableEq κ]
noncomputable def iI (kvs:List (κ×V)) (k:κ):Option V:=(kvs.find? fun kv=>decide (kv.1=k)).map (·.2)
noncomputable def iF (kvs:List (κ×V)) (k:κ) (v:V):List (κ×V) :=
  if (kvs.any fun kv=>decide (kv.1=k))=true then kvs.map (fun kv=>if kv.1=k then (kv.1,v) else kv) else kvs++[(k,v)]
theorem lq {p:κ×V} {r:List (κ×V)} {k:κ} (e:p.1=k):iI (p::r) k=some p.2:=by simp [iI,List.find?_cons,e]
theorem kB {p:κ×V} {r:List (κ×V)} {k:κ} (e:¬ p.1=k):iI (p::r) k=iI r k:=by simp [iI,List.find?_cons,e]
theorem o4 (k:κ):∀ kvs:List (κ×V),(kvs.any fun kv=>decide (kv.1=k))=(iI kvs k).isSome
  | []=>rfl
  | p::r=>by
    rw [List.any_cons];by_cases e:p.1=k
    · simp only [lq e,decide_eq_true e,Bool.true_or,Option.isSome_some]
    · rw [kB e,decide_eq_false e,Bool.false_or];exact o4 k r
theorem gW (kvs:List (κ×V)) (k:κ) (v:V):(iF kvs k v).length<=kvs.length+1:=by
  unfold iF;split
  · rw [List.length_map];omega
  · rw [List.length_append,List.length_cons,List.length_nil];omega
theorem jC.isSome_eq {o:Option V} {u:Option Value} (r:jC o u):o.isSome=u.isSome:=by
  cases o with
  | none=>cases u with
    | none=>rfl
    | some _=>exact (show False from r).elim
  | some _=>cases u with
    | none=>exact (show False from r).elim
    | some _=>rfl
theorem jC.getD {o:Option V} {u:Option Value} {d:V} {d':Value} (r:jC o u) (rd:bz d d'):bz (o.getD d) (u.getD d'):=by
  cases o with
  | none=>cases u with
    | none=>exact rd
    | some _=>exact (show False from r).elim
  | some _=>cases u with
    | none=>exact (show False from r).elim
    | some _=>exact r
theorem KV.val {kvs:List (κ×V)} {vs:List (κ×Value)} (r:KV kvs vs) (k:κ):jC (iI kvs k) (valueAt vs k):=by
  unfold KV at r;induction r with
  | nil=>exact True.intro
  | @cons p q ps qs h t ih =>
    obtain ⟨h1,h2⟩:=h;by_cases e:p.1=k
    · have e':q.1=k:=h1.symm.trans e;have b:valueAt (q::qs) k=some q.2:=by simp [valueAt,List.find?_cons,e']
      rw [lq e,b];exact h2
    · have e':¬ q.1=k:=fun z=>e (h1.trans z)
      have b:valueAt (q::qs) k=valueAt qs k:=by simp [valueAt,List.find?_cons,e']
      rw [kB e,b];exact ih
theorem KV.any {kvs:List (κ×V)} {vs:List (κ×Value)} (r:KV kvs vs) (k:κ):(kvs.any fun kv=>decide (kv.1=k))=vs.any fun kv=>decide (kv.1=k):=by
  unfold KV at r;induction r with
  | nil=>rfl
  | cons h t ih=>rw [List.any_cons,List.any_cons,ih,h.1]
theorem KV.repl {kvs:List (κ×V)} {vs:List (κ×Value)} (r:KV kvs vs) (k:κ) {y:V} {u:Value} (ry:bz y u) :
    KV (kvs.map fun kv=>if kv.1=k then (kv.1,y) else kv) (vs.map fun kv=>if kv.1=k then (kv.1,u) else kv):=by
  unfold KV at r ⊢;induction r with
  | nil=>exact .nil
  | @cons p q ps qs h t ih =>
    rw [List.map_cons,List.map_cons];refine .cons ?_ ih;obtain ⟨h1,h2⟩:=h;by_cases e:p.1=k
    · rw [if_pos e,if_pos (h1.symm.trans e)];exact ⟨h1,ry⟩
    · rw [if_neg e,if_neg (fun z=>e (h1.trans z))];exact ⟨h1,h2⟩
theorem KV.put {kvs:List (κ×V)} {vs:List (κ×Value)} (r:KV kvs vs) (k:κ) {y:V} {u:Value} (ry:bz y u):KV (iF kvs k y) (stored vs k u):=by
  unfold iF stored;rw [r.any k];by_cases e:(vs.any fun kv=>decide (kv.1=k))=true
  · rw [if_pos e,if_pos e];exact r.repl k ry
  · rw [if_neg e,if_neg e];exact Paired.snoc r ⟨rfl,ry⟩
theorem KV.keys {kvs:List (κ×V)} {vs:List (κ×Value)} (r:KV kvs vs):kvs.map (·.1)=vs.map (·.1):=by
  unfold KV at r;induction r with
  | nil=>rfl
  | cons h t ih=>rw [List.map_cons,List.map_cons,ih,h.1]
theorem KV.length {kvs:List (κ×V)} {vs:List (κ×Value)} (r:KV kvs vs):kvs.length=vs.length:=Paired.length r
end
theorem oU {P:Program} {w:World} {k:bZ} {u:Value} (r:bz (kV k) u):(cf P w).is k u=true:=by
  cases k with
  | inl i=>obtain ⟨t,e⟩:=(show ∃ t,u=Value.int i t from r);subst e;exact pG P w i t
  | inr x=>obtain ⟨t,e⟩:=(show ∃ t,u=Value.str x t from r);subst e;exact oC P w x t
theorem ml {P:Program} {w:World}:∀ {ks:List bZ} {us:List Value},bp (ks.map kV) us->ItemsAre (cf P w) ks us
  | [],_,r=>by rw [List.map_nil] at r;cases r;exact .nil
  | k::ks,_,r=>by
    rw [List.map_cons] at r;cases r with
    | cons h t=>exact .cons (oU h) (ml t)
noncomputable abbrev KT (H:Hp):List (List bZ×V)->List (List bZ×Addr×Value)->Prop:=Paired fun p q=>p.1=q.1/\H q.2.1=some (.tup (p.1.map kV))/\bz p.2 q.2.2
theorem KT.val {H:Hp} {kvs:List (List bZ×V)} {xs:List (List bZ×Addr×Value)} (r:KT H kvs xs) (k:List bZ):jC (iI kvs k) ((atKey xs k).map (·.2)):=by
  induction r with
  | nil=>exact True.intro
  | @cons p q ps qs h t ih =>
    obtain ⟨h1,_,h2⟩:=h;by_cases e:p.1=k
    · have e':q.1=k:=h1.symm.trans e;have b:atKey (q::qs) k=some q.2:=by simp [atKey,List.find?_cons,e']
      rw [lq e,b];exact h2
    · have e':¬ q.1=k:=fun z=>e (h1.trans z)
      have b:atKey (q::qs) k=atKey qs k:=by simp [atKey,List.find?_cons,e']
      rw [kB e,b];exact ih
theorem KT.repl {H:Hp} {kvs:List (List bZ×V)} {xs:List (List bZ×Addr×Value)} (r:KT H kvs xs) (k:List bZ) {y:V} {u:Value} (ry:bz y u) :
    KT H (kvs.map fun kv=>if kv.1=k then (kv.1,y) else kv) (xs.map (putAt k u)):=by
  induction r with
  | nil=>exact .nil
  | @cons p q ps qs h t ih =>
    rw [List.map_cons,List.map_cons];refine .cons ?_ ih;obtain ⟨h1,h2,h3⟩:=h;unfold putAt;by_cases e:p.1=k
    · rw [if_pos e,if_pos (h1.symm.trans e)];exact ⟨h1,h2,ry⟩
    · rw [if_neg e,if_neg (fun z=>e (h1.trans z))];exact ⟨h1,h2,h3⟩
theorem KT.put {H:Hp} {kvs:List (List bZ×V)} {xs:List (List bZ×Addr×Value)} (r:KT H kvs xs) (k:List bZ) {b:Addr} {y:V} {u:Value} (hb:H b=some (.tup (k.map kV))) (ry:bz y u) :
    KT H (iF kvs k y) (storedH xs k b u):=by
  have e:(kvs.any fun kv=>decide (kv.1=k))=(atKey xs k).isSome:=by
    rw [o4,(r.val k).isSome_eq,Option.isSome_map]
  unfold iF storedH;rw [e];by_cases q:(atKey xs k).isSome=true
  · rw [if_pos q,if_pos q];exact r.repl k ry
  · rw [if_neg q,if_neg q];exact Paired.snoc r ⟨rfl,hb,ry⟩
theorem KT.keeps {H H':Hp} {kvs:List (List bZ×V)} {xs:List (List bZ×Addr×Value)} (r:KT H kvs xs) (ht:∀ b ys,H b=some (.tup ys)->H' b=some (.tup ys)):KT H' kvs xs :=
  Paired.mapP r fun _ _ z=>⟨z.1,ht _ _ z.2.1,z.2.2⟩
section
variable {P:Program} {w:World} {H:Hp} {h:Heap} {a:Addr}
theorem xz {u:HO} (ok:fI P w H h) (e:Rd H a u):bY P w H h a u:=e.ok ok
theorem la {kvs:List (bZ×V)} (ok:fI P w H h) (e:Rd H a (.dK kvs)):kvs.length<=sizeLine/\(a==sysModules)=false/\∃ vs,KV kvs vs/\h.DictOf (cf P w) a vs :=
  show bY P w H h a (.dK kvs) from xz ok e
theorem zS {kvs:List (bZ×V)} (ok:fI P w H h) (e:H a=some (.dK kvs)):kvs.length<=sizeLine/\(a==sysModules)=false/\∃ vs,KV kvs vs/\h.DictOf (cf P w) a vs:=la ok (.inl e)
theorem mK {ks:List bZ} (ok:fI P w H h) (e:H a=some (.tup (ks.map kV))):(tupleKind (cf P w)).is h ks a:=by
  obtain ⟨_,its,r,o,h1,h2,n,h3⟩:=(show bY P w H h a (.tup (ks.map kV)) from ok a _ e)
  exact ⟨o,its.toArray,n,h1,h2,h3,by simpa using ml r⟩
theorem pv {kvs:List (List bZ×V)} (ok:fI P w H h) (e:Rd H a (.dT kvs)):kvs.length<=sizeLine/\(a==sysModules)=false /\
    ∃ xs,KT H kvs xs/\h.DictOfH (tupleKind (cf P w)) a xs:=by
  obtain ⟨z,y,xs,r,o,es,ep,h1,h2,h3,h4,h5⟩:=(show bY P w H h a (.dT kvs) from xz ok e)
  refine ⟨z,y,xs,r,o,es,ep,h1,h2,h3,h4,fun x hx=>?_,h5⟩;have all:∀ {l:List (List bZ×V)} {m:List (List bZ×Addr×Value)},KT H l m->∀ x∈m,(tupleKind (cf P w)).is h x.1 x.2.1:=by
    intro l m q;induction q with
    | nil=>intro x hx;exact nomatch hx
    | @cons p q ps qs hq t ih =>
      intro x hx;rcases List.mem_cons.mp hx with e | hx
      · subst e;exact mK ok (by rw [<- hq.1];exact hq.2.1)
      · exact ih x hx
  exact all r x hx
theorem zM {kvs:List (List bZ×V)} (ok:fI P w H h) (e:H a=some (.dT kvs)):kvs.length<=sizeLine/\(a==sysModules)=false /\
    ∃ xs,KT H kvs xs/\h.DictOfH (tupleKind (cf P w)) a xs:=pv ok (.inl e)
end
noncomputable def kO (H:Hp) (a:Addr) (y:V) (r:Option V):Prop :=
  (∃ kvs k,Rd H a (.dK kvs)/\y=kV k/\r=iI kvs k)\/∃ kvs k b,Rd H a (.dT kvs)/\y=.ref b/\H b=some (.tup (k.map kV))/\r=iI kvs k
noncomputable def qQ (H:Hp) (a:Addr) (y v:V) (H':Hp):Prop :=
  (∃ kvs k,H a=some (.dK kvs)/\y=kV k/\kvs.length < sizeLine/\H'=dk H a (.dK (iF kvs k v))) \/
  ∃ kvs k b,H a=some (.dT kvs)/\y=.ref b/\H b=some (.tup (k.map kV))/\kvs.length < sizeLine/\H'=dk H a (.dT (iF kvs k v))
theorem kO.k {H:Hp} {a:Addr} {kvs:List (bZ×V)} {k:bZ} (e:H a=some (.dK kvs)):kO H a (kV k) (iI kvs k):=.inl ⟨kvs,k,.inl e,rfl,rfl⟩
theorem kO.t {H:Hp} {a b:Addr} {kvs:List (List bZ×V)} {k:List bZ} (e:H a=some (.dT kvs)) (eb:H b=some (.tup (k.map kV))):kO H a (.ref b) (iI kvs k):=.inr ⟨kvs,k,b,.inl e,rfl,eb,rfl⟩
theorem qQ.k {H:Hp} {a:Addr} {kvs:List (bZ×V)} {k:bZ} {v:V} (e:H a=some (.dK kvs)) (hl:kvs.length < sizeLine):qQ H a (kV k) v (dk H a (.dK (iF kvs k v))):=.inl ⟨kvs,k,e,rfl,hl,rfl⟩
theorem qQ.t {H:Hp} {a b:Addr} {kvs:List (List bZ×V)} {k:List bZ} {v:V} (e:H a=some (.dT kvs)) (eb:H b=some (.tup (k.map kV))) (hl:kvs.length < sizeLine) :
    qQ H a (.ref b) v (dk H a (.dT (iF kvs k v))):=.inr ⟨kvs,k,b,e,rfl,eb,hl,rfl⟩
section
variable {X:Cx} {pins:List (Addr×Obj)} {σ:St} {H:Hp} {s:Shared} {a:Addr} {y v:V} {u r:Value} {o:Option V} {A:Around} {E:Value->Shared->Prop}
theorem ay.big (I:ay X pins σ H s):sysModules < s.heap.objs.size:=by
  have h:mainGlobals < s.heap.objs.size:=(I.mod.glob.keeps I.bk).lt;exact Nat.lt_trans (by decide) h
theorem sf {Q:Value->Shared->Prop} (hu:A.units+1 < cLine) (I:ay X pins σ H s) (g:kO H a y (some v)) (ry:bz y u) (h:∀ w' s',ay X pins σ H s'->bz v w'->Q w' s') :
    wpAny (model X.prog X.w) A (getItem (.ref a) u) Q E s:=by
  rcases g with ⟨kvs,k,e,ey,l⟩ | ⟨kvs,k,b,e,ey,eb,l⟩
  · subst ey;obtain ⟨z,hd,vs,rel,dd⟩:=la I.hok e;obtain ⟨w',hw,rw'⟩:=jC.some_of (v:=v) (o:=valueAt vs k) (by rw [l];exact rel.val k);exact wpAny_getItem_of (oU ry) dd.mapOf hw (h w' _ (I.tok _) rw')
  · subst ey;cases (show u=Value.ref b from ry);obtain ⟨z,hd,xs,rel,dd⟩:=pv I.hok e;obtain ⟨w',hw,rw'⟩:=jC.some_of (v:=v) (o:=(atKey xs k).map (·.2)) (by rw [l];exact rel.val k);obtain ⟨p,hp,hp2⟩:=Option.map_eq_some_iff.mp hw;refine wpAny_getItem_heap (tupleKind_room_in1 hu) (mK I.hok eb) dd hp ?_;rw [hp2];exact h w' _ (I.tok _) rw'
theorem rH {h':Heap} {t':Nat} {ob:HO} (I:ay X pins σ H s) (mu:zI (H a)) (hs:Heap.SameBut a s.heap h') (he:∃ q,h'.get? a=some q) (new:bY X.prog X.w (dk H a ob) h' a ob) :
    ay X pins σ (dk H a ob) { s with heap:=h',toks:=t' } :=
  I.write (x:=a) (e:=a) mu (.inl rfl) (fun b q hb z=>(hs.2 b hb).trans z) he new
theorem vH {P:Program} {w:World} {H':Hp} {h':Heap} {kvs:List (bZ×V)} {vs:List (bZ×Value)} (z:kvs.length<=sizeLine) (hd:(a==sysModules)=false) (rel:KV kvs vs) (dd:h'.DictOf (cf P w) a vs) :
    bY P w H' h' a (.dK kvs):=⟨z,hd,vs,rel,dd⟩
theorem sN {H':Hp} {Q:Unit->Shared->Prop} (hu:A.units+1 < cLine) (I:ay X pins σ H s) (g:qQ H a y v H') (ry:bz y u) (rv:bz v r) (h:∀ s',ay X pins σ H' s'->Q () s') :
    wpAny (model X.prog X.w) A (setItem (.ref a) u r) Q E s:=by
  rcases g with ⟨kvs,k,e,ey,l,eH⟩ | ⟨kvs,k,b,e,ey,eb,l,eH⟩
  · subst ey eH;obtain ⟨z,hd,vs,rel,dd⟩:=zS I.hok e;have hz:vs.length<=sizeLine:=by rw [<- rel.length];exact z
    have hl:(iF kvs k v).length<=sizeLine:=by have:=gW kvs k v;omega
    refine wpAny_setItem_pairs (hsz:=hz) (oU ry) dd fun h' dd' hs=>h _ ?_
    have he:∃ q,h'.get? a=some q:=let ⟨q,_,_,hq,_⟩:=dd';⟨q,hq⟩
    exact rH I (by rw [e];exact True.intro) hs he (vH hl hd (rel.put k rv) dd')
  · subst ey eH;cases (show u=Value.ref b from ry);obtain ⟨z,hd,xs,rel,dd⟩:=zM I.hok e;have hz:xs.length<=sizeLine:=by rw [<- Paired.length rel];exact z
    have hl:(iF kvs k v).length<=sizeLine:=by have:=gW kvs k v;omega
    refine wpAny_setItem_heap (hsz:=hz) (tupleKind_room_in1 hu) (mK I.hok eb) dd fun h' dd' hs=>h _ ?_
    obtain ⟨q,es,ep,hq,h2,h3,h4,_,h5⟩:=dd';refine rH I (by rw [e];exact True.intro) hs ⟨q,hq⟩ ⟨hl,hd,_,(rel.put k eb rv).keeps fun c ys ec=>?_,q,es,ep,hq,h2,h3,h4,h5⟩;rw [aH (zB ec e (fun z=>nomatch z))];exact ec
end
section
variable {X:Cx} {pins:List (Addr×Obj)} {σ:St} {H:Hp} {s:Shared} {a:Addr} {kvs:List (bZ×V)} {k:bZ} {u:Value} {A:Around} {E:Value->Shared->Prop}
theorem zE {Q:Value->Shared->Prop} (I:ay X pins σ H s) (e:Rd H a (.dK kvs)) (h:∀ t s',ay X pins σ H s'->Q (.int kvs.length t) s'):wpAny (model X.prog X.w) A (call (.builtin "len") [.ref a]) Q E s:=by
  obtain ⟨z,hd,vs,rel,dd⟩:=la I.hok e;refine call_len_dict hd dd (by rw [<- rel.length];rw [sizeLine_eq] at z;omega) ?_;rw [<- rel.length];exact h _ _ (I.tok _)
end
theorem oO {X:Cx} {pins:List (Addr×Obj)} {σ:St} {H:Hp} {s:Shared} {a:Addr} {y:V} {o:Option V} (I:ay X pins σ H s) (g:kO H a y o):s.TypeIs (.ref a) "dict" := by
  rcases g with ⟨kvs,k,e,_,_⟩ | ⟨kvs,k,b,e,_,_,_⟩
  · obtain ⟨_,_,vs,_,dd⟩:=la I.hok e;exact dd.typeIs
  · obtain ⟨_,_,xs,_,dd⟩:=pv I.hok e;exact dd.typeIs
noncomputable def Ae (td ty tv:TE):TS:=fun D σ H=>tv σ H fun v H1=>td σ H1 fun x H2=>ty σ H2 fun y H3=>∃ a H4,x=.ref a/\qQ H3 a y v H4/\D.nx σ H4
section
variable {X:Cx} {o i e value:Expr} {pos pos' tpos:Pos} {td ty tv:TE}
theorem wP (hu:X.A.units+1 < cLine) (ho:PE X o td) (hi:PE X i ty) (hv:PE X value tv) (hs:swapsWith value (some (.Subscript o i pos')) pos.line X.env=pure false) :
    PS X (.Assign [.Subscript o i pos'] value pos) (Ae td ty tv):=by
  intro pins s σ H D I h;refine wpAny_Assign_Subscript (dc (hv pins s σ H _ I h) fun r s1 ⟨v,H1,I1,rv,q1⟩=>dc (ho pins s1 σ H1 _ I1 q1) fun u s2 ⟨x,H2,I2,rx,q2⟩=>dc (hi pins s2 σ H2 _ I2 q2) fun iv s3 ⟨y,H3,I3,ry,a,H4,ex,g,q3⟩=>?_) hs;subst ex;obtain rfl:u=Value.ref a:=rx;exact sN hu I3 g ry rv fun s4 I4=>⟨σ,H4,I4,q3⟩
end
theorem uI {P:Program} {w:World} {H:Hp} (h:Heap) (hb:sysModules < h.objs.size):bY P w H (h.push { cls:=.type "dict",data:=.dict #[] }) h.objs.size (.dK []) :=
  ⟨Nat.zero_le _,beq_eq_false_iff_ne.mpr (Ne.symm (Nat.ne_of_lt hb)),[],.nil,Heap.DictOf.new h⟩
noncomputable def yz:TE:=fun _ H Q=>∀ p,H p=none->Q (.ref p) (dk H p (.dK []))
section
variable {X:Cx} {pos:Pos}
theorem u0:PE X (.Dict [] [] pos) yz:=fun pins s σ H Q I h =>
  wpAny_Dict_empty ⟨.ref s.heap.objs.size,_,I.laid (a:=s.heap.objs.size) (o:=.dK []) (t':=s.toks) (fun _ _ q=>Heap.get?_push_of_some _ q) (Nat.le_refl _) (uI s.heap I.big),rfl,h _ (I.hok.fresh (Nat.le_refl _))⟩
end
structure M1 (X:Cx) (o:Expr) (m:Str) (apos:Pos) (e:Expr) (cpos:Pos):Prop where
  base:attributeBase o m X.env (eval o X.env)=eval o X.env
  few:((backTo cpos (starEach [e] X.env)).all (fun x=>!x.1)&&(backToKw cpos (keywordEach [] X.env)).all (fun x=>x.1.isSome)
    && decide (([e]:List Expr).length+([]:List Keyword).length+(if ([]:List Keyword).isEmpty then 0 else 1) < 30))=true
  line:(apos.endLine==cpos.line)=true
  trees:backTo cpos (starEach [e] X.env)=[(false,eval e X.env)]
noncomputable def Bg (H:Hp) (a:Addr):Prop:=(∃ kvs,Rd H a (.dK kvs))\/∃ kvs,Rd H a (.dT kvs)
theorem yS {X:Cx} {pins:List (Addr×Obj)} {σ:St} {H:Hp} {s:Shared} {a:Addr} (I:ay X pins σ H s) (d:Bg H a) :
    s.TypeIs (.ref a) "dict" /\ (∀ b,Value.ref a=.ref b->∃ ob,s.heap.get? b=some ob/\ob.dict=none)/\(a==sysModules)=false:=by
  rcases d with ⟨kvs,e⟩ | ⟨kvs,e⟩
  · obtain ⟨_,hd,vs,_,dd⟩:=la I.hok e;refine ⟨dd.typeIs,fun b q=>?_,hd⟩;cases q;obtain ⟨ob,_,_,h1,h2,_⟩:=dd;exact ⟨ob,h1,h2.2.1⟩
  · obtain ⟨_,hd,xs,_,dd⟩:=pv I.hok e;refine ⟨dd.typeIs,fun b q=>?_,hd⟩;cases q;obtain ⟨ob,_,_,h1,h2,_⟩:=dd;exact ⟨ob,h1,h2.2.1⟩
section
variable {X:Cx} {pins:List (Addr×Obj)} {σ:St} {H:Hp} {s:Shared} {a:Addr} {y d:V} {u r:Value} {o:Option V} {A:Around} {E:Value->Shared->Prop}
theorem yN {Q:Value->Shared->Prop} (hu:A.units+1 < cLine) (I:ay X pins σ H s) (g:kO H a y o) (ry:bz y u) (h:∀ w' s',ay X pins σ H s'->bz (o.getD .non) w'->Q w' s') :
    wpAny (model X.prog X.w) A (call (.builtin "dict.get") [.ref a,u]) Q E s:=by
  rcases g with ⟨kvs,k,e,ey,l⟩ | ⟨kvs,k,b,e,ey,eb,l⟩
  · subst ey;obtain ⟨z,hd,vs,rel,dd⟩:=la I.hok e;refine call_meetsIn PySem.F.slot_dict_get dd.typeIs PySem.F.entry_dict_get (PySem.F.args_dict_get_2 _ _) (meets_dict_get (cf X.prog X.w) a (oU ry) hd) ⟨_,dd.mapOf,h _ _ (I.tok _) ?_⟩;rw [l];exact (rel.val k).getD rfl
  · subst ey;cases (show u=Value.ref b from ry);obtain ⟨z,hd,xs,rel,dd⟩:=pv I.hok e;refine call_meetsIn PySem.F.slot_dict_get dd.typeIs PySem.F.entry_dict_get (PySem.F.args_dict_get_2 _ _) (meetsH_dict_get (tupleKind (cf X.prog X.w)) a b hd) ⟨tupleKind_room_in1 hu,k,xs,mK I.hok eb,dd,h _ _ (I.tok _) ?_⟩;rw [l];exact (rel.val k).getD rfl
end
noncomputable def xS (td ty:TE):TE:=fun σ H Q=>td σ H fun x H1=>∃ a,x=.ref a/\Bg H1 a/\ty σ H1 fun y H2=>∃ o,kO H2 a y o/\Q (o.getD .non) H2
section
variable {X:Cx} {o e f:Expr} {apos cpos:Pos} {td ty tx:TE}
theorem uK (hu:X.A.units+1 < cLine) (ho:PE X o td) (he:PE X e ty) (m:M1 X o "get" apos e cpos):PE X (.Call (.Attribute o "get" apos) [e] [] cpos) (xS td ty):=by
  intro pins s σ H Q I h;refine wpAny_Call_method m.base m.few m.line PySem.F.plainAttrs_dict PySem.F.slot_dict_get PySem.F.type_dict_get (dc (ho pins s σ H _ I h) fun u s1 ⟨x,H1,I1,rx,a,ex,d,q1⟩=>?_);subst ex;obtain rfl:u=Value.ref a:=rx;obtain ⟨t1,t2,_⟩:=yS I1 d;refine ⟨t1,t2,?_⟩;rw [m.trees];refine Calls.callWith_builtin rfl (Calls.evalArgs_plain (Calls.spliced_cons (dc (he pins s1 σ H1 _ I1 q1) fun iv s2 ⟨y,H2,I2,ry,ov,g,q2⟩=>Calls.spliced_nil ?_)));exact yN hu I2 g ry fun w' s3 I3 rw'=>⟨_,H2,I3,rw',q2⟩
end
end L2
set_option maxHeartbeats 4000000
namespace D2
open PySem PySem.Spec PyProof.Rows L2
noncomputable def oQ (base:Heap) (l:List Env) (e:Addr) (cls a0:Value) (h:Heap):Prop:=base.StaysIn h/\base.get? e=none/\h.FunFrames base l/\∃ fl,h.TracedAtW base e cls a0 fl
theorem oQ.of {base h:Heap} {l:List Env} {e:Addr} {cls a0:Value} (x:Heap.FlyingW base l e cls a0 h):oQ base l e cls a0 h:=⟨x.1,x.2.1,x.2.2.1,.none,x.2.2.2⟩
section
variable {M:Model} {A:Around} {E:Value->Shared->Prop} {s:Shared} {base:Heap} {l:List Env} {env:Env} {outer:List Env} {L e:Addr} {cls a0:Value} {Q:Unit->Shared->Prop}
theorem wU {h:Heap}:h.UpToSlots h:=fun b o hb _=>⟨o.slots,hb⟩
theorem oX (hfr:A.frames=some (env::outer)) (hf:env.frame=some L) (t:oQ base (env::outer) e cls a0 s.heap)
    (hQ:∀ h',oQ base (env::outer) e cls a0 h'->s.heap.UpToSlots h'->Q () { s with heap:=h' }):wpAny M A (noteFrame (.ref e) env) Q E s:=by
  have t':=t;obtain ⟨hkb,hen,hl,fl,oe,vs,T,oT,ts,he,⟨hcls,h0⟩,hd,h1,hnT,hTe,hT,hdT,h3⟩:=t;subst hcls;unfold noteFrame;simp only [hf];refine wpAny_bind (wpAny_field he hd h1 ?_);rw [if_pos (show (Value.ref T != Value.none)=true from by simp)];refine wpAny_bind (wpAny_field hT hdT h3 ?_);by_cases hfl:(fl==rawInt L)=true
  · rw [if_pos hfl];exact wpAny_pure (hQ s.heap t' wU)
  · rw [if_neg hfl];refine wpAny_bind (wpAny_setField hT hdT (Array.getElem?_eq_some_iff.mp h3).1 ?_);have other:∀ b,b≠T->(s.heap.update T (Obj.mapFields (·.setIfInBounds 3 Value.none))).get? b=s.heap.get? b:=fun b hb=>Heap.get?_update_other _ _ (Ne.symm hb)
    have noRecord:∀ b o,s.heap.get? b=some o->(∀ vs,o.data≠.fields vs)->b≠T:=fun b o hb hnf q=>by
      rw [q,hT] at hb;injection hb with hb;subst hb;exact hnf ts hdT
    refine wpAny_entryW hfr (hl.of_keeps fun b o hb hnf=>⟨o,(other b (noRecord b o hb hnf)).trans hb,rfl⟩) hf ((other e (Ne.symm hTe)).trans he)
      (fun b o hbo=>(other b fun q=>by rw [q,hnT] at hbo;cases hbo).trans (hkb b o hbo)) hen hd (Array.getElem?_eq_some_iff.mp h1).1 h0
      fun h' ⟨x1,x2,x3,x4⟩=>hQ h' ⟨x1,hen,x2,_,x3⟩ fun b o hb hnf=>x4 b o ((other b (noRecord b o hb hnf)).trans hb) hnf
theorem qw (f:Option Addr) (t:oQ base l e cls a0 s.heap) (hQ:∀ h',oQ base l e cls a0 h'->s.heap.UpToSlots h'->Q () { s with heap:=h' }):wpAny M A (setFlight (.ref e) f) Q E s:=by
  obtain ⟨hkb,hen,hl,fl,oe,vs,T,oT,ts,he,hcls,hd,h1,hnT,hTe,hT,hdT,h3⟩:=t;have hsz3:3 < ts.size:=(Array.getElem?_eq_some_iff.mp h3).1;have other:∀ b,b≠T->(s.heap.update T (Obj.mapFields (·.setIfInBounds 3 (f.elim Value.none fun f=>rawInt f)))).get? b=s.heap.get? b :=
    fun b hb=>Heap.get?_update_other _ _ (Ne.symm hb)
  have noRecord:∀ b o,s.heap.get? b=some o->(∀ vs,o.data≠.fields vs)->b≠T:=fun b o hb hnf q=>by
    rw [q,hT] at hb;injection hb with hb;subst hb;exact hnf ts hdT
  unfold setFlight;refine wpAny_bind (wpAny_field he hd h1 ?_);rw [if_pos (show (Value.ref T != Value.none)=true from by simp)];refine wpAny_setField hT hdT hsz3 (hQ _ ⟨fun b o hbo=>(other b fun q=>by rw [q,hnT] at hbo;cases hbo).trans (hkb b o hbo),hen,
    hl.of_keeps fun b o hb hnf=>⟨o,(other b (noRecord b o hb hnf)).trans hb,rfl⟩,(f.elim Value.none fun f=>rawInt f),?_⟩ fun b o hb hnf=>⟨o.slots,(other b (noRecord b o hb hnf)).trans hb⟩)
  exact ⟨oe,vs,T,_,_,(other e (Ne.symm hTe)).trans he,hcls,hd,h1,hnT,hTe,Heap.get?_update_self _ hT (Obj.isFreed_of_fields (Obj.data_mapFields hdT _)),Obj.data_mapFields hdT _,by simp [hsz3]⟩
theorem vt (t:oQ base l e cls a0 s.heap) (hQ:∀ h',Heap.FlyingW base l e cls a0 h'->s.heap.UpToSlots h'->Q () { s with heap:=h' }):wpAny M A (setFlight (.ref e) none) Q E s:=by
  obtain ⟨hkb,hen,hl,fl,ht⟩:=t;exact wpAny_setFlight_noneW hkb hl ht fun h' k1 k2 k3 k4=>hQ h' ⟨k1,hen,k2,k3⟩ fun b o hb hn=>⟨o.slots,k4 b o hb hn⟩
theorem tD (hfr:A.frames=some (env::outer)) (hf:env.frame=some L) (t:oQ base (env::outer) e cls a0 s.heap)
    (hQ:∀ h',Heap.FlyingW base outer e cls a0 h'->s.heap.UpToSlots h'->Q () { s with heap:=h' }):wpAny M A (leaving env (.ref e)) Q E s:=by
  unfold leaving;refine wpAny_bind (oX hfr hf t fun h1 t1 u1=>?_);refine vt (s:={ s with heap:=h1 }) t1 fun h2 t2 u2=>?_
  obtain ⟨k1,k2,⟨_,_,k3⟩,k4⟩:=t2;exact hQ h2 ⟨k1,k2,k3,k4⟩ (u1.trans u2)
theorem vI {α:Type} {k:Value->Sem α} {Q:α->Shared->Prop} (t:oQ base l e cls a0 s.heap) (hQ:∀ T,wpAny M A (k (.ref T)) Q E s):wpAny M A (field (.ref e) 1>>=k) Q E s:=by
  obtain ⟨hkb,hen,hl,fl,oe,vs,T,oT,ts,he,hcls,hd,h1,r⟩:=t;exact wpAny_bind (wpAny_field he hd h1 (hQ T))
theorem vD {α:Type} {what:String} {Q:α->Shared->Prop} (t:oQ base l e cls a0 s.heap) (hQ:∀ h',oQ base l e cls a0 h'->s.heap.UpToSlots h'->E (.ref e) { s with heap:=h' }):wpAny M A (PySem.passOn what (.ref e) env:Sem α) Q E s:=by
  unfold PySem.passOn;refine vI t fun T=>?_
  rw [if_neg (show ¬ ((Value.ref T==Value.none)=true) from by simp)];refine wpAny_bind (qw _ t fun h' t' u=>?_);exact wpAny_throw (hQ h' t' u)
theorem oQ.first {h:Heap} (x:oQ base l e cls a0 h):∃ oe vs,h.get? e=some oe/\oe.cls=cls/\oe.data=.fields vs/\vs[0]?=some a0 :=
  let ⟨_,_,_,_,oe,vs,_,_,_,he,hc,hd,_⟩:=x;⟨oe,vs,he,hc.1,hd,hc.2⟩
end
noncomputable abbrev St:=L2.St
noncomputable abbrev ay:=@L2.ay
noncomputable def dQ:bZ->PyData
  | .inl i=>.int i
  | .inr x=>.str x
mutual
noncomputable def Rp (H:Hp):PyData->V->Prop
  | .none,v=>v=.non
  | .bool b,v=>v=.bl b
  | .int i,v=>v=.int i
  | .str x,v=>v=.str x
  | .tuple ds,v=>∃ a vs,v=.ref a/\H a=some (.tup vs)/\br H ds vs
  | .list ds,v=>∃ a o vs,v=.ref a/\H a=some (.frz o (.lst vs))/\br H ds vs
  | .dict kvs,v=>(∃ a o ks,v=.ref a/\H a=some (.frz o (.dK ks))/\cZ H kvs ks)\/∃ a o C dx fs,v=.ref a/\H a=some (.frz o (.ins C dx fs))/\vL H C fs kvs
noncomputable def br (H:Hp):List PyData->List V->Prop
  | [],vs=>vs=[]
  | d::ds,vs=>∃ v r,vs=v::r/\Rp H d v/\br H ds r
noncomputable def cZ (H:Hp):List (PyData×PyData)->List (bZ×V)->Prop
  | [],ks=>ks=[]
  | kd::kvs,ks=>∃ x v r,ks=(x,v)::r/\xm H kd x v/\cZ H kvs r
noncomputable def xm (H:Hp):PyData×PyData->bZ->V->Prop
  | (k,d),x,v=>k=dQ x/\Rp H d v
noncomputable def vL (H:Hp) (C:Addr) (fs:List (Str×V)):List (PyData×PyData)->Prop
  | []=>False
  | kd::kvs=>kd=(.none,.int C)/\wG H kvs fs
noncomputable def wG (H:Hp):List (PyData×PyData)->List (Str×V)->Prop
  | [],fs=>fs=[]
  | kd::kvs,fs=>∃ x v r,fs=(x,v)::r/\zp H kd x v/\wG H kvs r
noncomputable def zp (H:Hp):PyData×PyData->Str->V->Prop
  | (k,d),x,v=>k=.str x/\Rp H d v
end
noncomputable def gN:List (PyData×PyData)->Bool
  | (.none,_)::_=>true
  | _=>false
noncomputable def Kp (H H':Hp):Prop:=(∀ b xs,H b=some (.tup xs)->H' b=some (.tup xs))/\∀ b o u,H b=some (.frz o u)->H' b=some (.frz o u)
theorem Kp.trans {H H1 H2:Hp} (a:Kp H H1) (b:Kp H1 H2):Kp H H2:=⟨fun c xs h=>b.1 c xs (a.1 c xs h),fun c o u h=>b.2 c o u (a.2 c o u h)⟩
theorem Kp.of {H H':Hp} (s:aq H H'):Kp H H':=⟨fun b xs h=>s b _ h,fun b o u h=>s b _ h⟩
mutual
theorem Rp.kp {H H':Hp} (k:Kp H H'):∀ (d:PyData) (v:V),Rp H d v->Rp H' d v
  | .none,v,h=>by simpa only [Rp] using h
  | .bool b,v,h=>by simpa only [Rp] using h
  | .int i,v,h=>by simpa only [Rp] using h
  | .str x,v,h=>by simpa only [Rp] using h
  | .tuple ds,v,h=>by
    simp only [Rp] at h ⊢;obtain ⟨a,vs,e,ha,r⟩:=h;exact ⟨a,vs,e,k.1 _ _ ha,br.kp k ds vs r⟩
  | .list ds,v,h=>by
    simp only [Rp] at h ⊢;obtain ⟨a,o,vs,e,ha,r⟩:=h;exact ⟨a,o,vs,e,k.2 _ _ _ ha,br.kp k ds vs r⟩
  | .dict kvs,v,h=>by
    simp only [Rp] at h ⊢;rcases h with ⟨a,o,ks,e,ha,r⟩ | ⟨a,o,C,dx,fs,e,ha,r⟩
    · exact .inl ⟨a,o,ks,e,k.2 _ _ _ ha,cZ.kp k kvs ks r⟩
    · exact .inr ⟨a,o,C,dx,fs,e,k.2 _ _ _ ha,vL.kp k C fs kvs r⟩
theorem br.kp {H H':Hp} (k:Kp H H'):∀ (ds:List PyData) (vs:List V),br H ds vs->br H' ds vs
  | [],vs,h=>by simpa only [br] using h
  | d::ds,vs,h=>by
    simp only [br] at h ⊢;obtain ⟨v,r,e,h1,h2⟩:=h;exact ⟨v,r,e,Rp.kp k d v h1,br.kp k ds r h2⟩
theorem cZ.kp {H H':Hp} (k:Kp H H'):∀ (kvs:List (PyData×PyData)) (ks:List (bZ×V)),cZ H kvs ks->cZ H' kvs ks
  | [],ks,h=>by simpa only [cZ] using h
  | kd::kvs,ks,h=>by
    simp only [cZ] at h ⊢;obtain ⟨x,v,r,e,h1,h2⟩:=h;exact ⟨x,v,r,e,xm.kp k kd x v h1,cZ.kp k kvs r h2⟩
theorem xm.kp {H H':Hp} (k:Kp H H'):∀ (kd:PyData×PyData) (x:bZ) (v:V),xm H kd x v->xm H' kd x v
  | (c,d),x,v,h=>by
    simp only [xm] at h ⊢;exact ⟨h.1,Rp.kp k d v h.2⟩
theorem vL.kp {H H':Hp} (k:Kp H H') (C:Addr) (fs:List (Str×V)):∀ (kvs:List (PyData×PyData)),vL H C fs kvs->vL H' C fs kvs
  | [],h=>by simpa only [vL] using h
  | kd::kvs,h=>by
    simp only [vL] at h ⊢;exact ⟨h.1,wG.kp k kvs fs h.2⟩
theorem wG.kp {H H':Hp} (k:Kp H H'):∀ (kvs:List (PyData×PyData)) (fs:List (Str×V)),wG H kvs fs->wG H' kvs fs
  | [],fs,h=>by simpa only [wG] using h
  | kd::kvs,fs,h=>by
    simp only [wG] at h ⊢;obtain ⟨x,v,r,e,h1,h2⟩:=h;exact ⟨x,v,r,e,zp.kp k kd x v h1,wG.kp k kvs r h2⟩
theorem zp.kp {H H':Hp} (k:Kp H H'):∀ (kd:PyData×PyData) (x:Str) (v:V),zp H kd x v->zp H' kd x v
  | (c,d),x,v,h=>by
    simp only [zp] at h ⊢;exact ⟨h.1,Rp.kp k d v h.2⟩
end
theorem Rp.mono {H H':Hp} {d:PyData} {v:V} (h:Rp H d v) (s:aq H H'):Rp H' d v:=Rp.kp (Kp.of s) d v h
theorem br.mono {H H':Hp} {ds:List PyData} {vs:List V} (h:br H ds vs) (s:aq H H'):br H' ds vs:=br.kp (Kp.of s) ds vs h
noncomputable def gQ (H:Hp):PyData->V->Prop
  | .list ds,v=>∃ a vs,v=.ref a/\H a=some (.lst vs)/\br H ds vs
  | .dict kvs,v=>∃ a ks,v=.ref a/\H a=some (.dK ks)/\cZ H kvs ks
  | _,_=>False
theorem gQ.mono {H H':Hp} {d:PyData} {v:V} (h:gQ H d v) (s:aq H H'):gQ H' d v:=by
  cases d <;> simp only [gQ] at h ⊢
  · obtain ⟨a,vs,e,ha,r⟩:=h;exact ⟨a,vs,e,s _ _ ha,br.mono r s⟩
  · obtain ⟨a,vs,e,ha,r⟩:=h;exact ⟨a,vs,e,s _ _ ha,cZ.kp (Kp.of s) _ _ r⟩
noncomputable def fS (H:Hp) (d:PyData) (v:V):Prop:=Rp H d v\/gQ H d v
theorem fS.mono {H H':Hp} {d:PyData} {v:V} (h:fS H d v) (s:aq H H'):fS H' d v:=h.elim (fun h=>.inl (h.mono s)) fun h=>.inr (h.mono s)
noncomputable def yb (H H':Hp) (d:PyData) (v:V):Prop:=gQ H' d v/\∃ a,v=.ref a/\H a=none
inductive cg where
  | non
  | val (d:PyData)
  | own (d:PyData)
  | exc (p:Addr)
noncomputable abbrev aI:=List cg
noncomputable def gV (H:Hp):cg->Option V->Prop
  | .non,_=>True
  | .val d,o=>∃ v,o=some v/\Rp H d v
  | .own d,o=>∃ v,o=some v/\gQ H d v
  | .exc p,o=>o=some (.ref p)
noncomputable def Sl (H:Hp) (σ:St) (ρ:aI):Prop:=σ.length=ρ.length/\∀ (i:Nat) (c:cg) (o:Option V),ρ[i]?=some c->σ[i]?=some o->gV H c o
theorem gV.mono {H H':Hp} {c:cg} {o:Option V} (h:gV H c o) (s:aq H H'):gV H' c o:=by
  cases c <;> simp only [gV] at h ⊢
  · obtain ⟨v,e,h⟩:=h;exact ⟨v,e,h.mono s⟩
  · obtain ⟨v,e,h⟩:=h;exact ⟨v,e,h.mono s⟩
  · exact h
theorem Sl.mono {H H':Hp} {σ:St} {ρ:aI} (h:Sl H σ ρ) (s:aq H H'):Sl H' σ ρ:=⟨h.1,fun i c o h1 h2=>(h.2 i c o h1 h2).mono s⟩
inductive R (α:Type) where
  | ok (a:α)
  | ex (c:Str)
  | no
noncomputable def R.bind {α β:Type}:R α->(α->R β)->R β
  | .ok a,f=>f a
  | .ex c,_=>.ex c
  | .no,_=>.no
noncomputable instance:Monad R where
  pure:=.ok
  bind:=R.bind
@[simp] theorem R.ok_bind {α β:Type} (a:α) (f:α->R β):(R.ok a>>=f)=f a:=(rfl)
@[simp] theorem R.ex_bind {α β:Type} (c:Str) (f:α->R β):((R.ex c:R α)>>=f)=.ex c:=(rfl)
structure jW (P:Program) (w:World) (outer:List Env) (H:Hp) (s:Shared) (C:Addr) (H':Hp) (e:Value) (s':Shared):Prop where
  os:s'.os=s.os
  bare:AllBare s'.gens
  same:aq H H'
  ex:∃ (p:Addr) (a0:Value) (B:Heap),e=.ref p/\Heap.FlyingW B outer p (.ref C) a0 s'.heap/\fI P w H' B/\H' p=none/\∀ b o,s.heap.get? b=some o->H b=none->b∉ja outer->B.get? b=some o/\H' b=none
  slot:∀ b o,s.heap.get? b=some o->H b=none->b∈ja outer->(∃ sl,s'.heap.get? b=some { o with slots:=sl })/\H' b=none
structure nJ (P:Program) (w:World) (outer:List Env) (H:Hp) (s:Shared) (C:Addr) (H':Hp) (e:Value) (s':Shared):Prop where
  os:s'.os=s.os
  bare:AllBare s'.gens
  same:aq H H'
  ex:∃ (p:Addr) (a0:Value) (B:Heap),e=.ref p/\oQ B outer p (.ref C) a0 s'.heap/\fI P w H' B/\H' p=none/\∀ b o,s.heap.get? b=some o->H b=none->b∉ja outer->B.get? b=some o/\H' b=none
  slot:∀ b o,s.heap.get? b=some o->H b=none->b∈ja outer->(∃ sl,s'.heap.get? b=some { o with slots:=sl })/\H' b=none
theorem jW.hld {P:Program} {w:World} {outer:List Env} {H:Hp} {s:Shared} {C:Addr} {H':Hp} {e:Value} {s':Shared} (f:jW P w outer H s C H' e s'):nJ P w outer H s C H' e s' :=
  ⟨f.os,f.bare,f.same,let ⟨p,a0,B,h1,h2,h3⟩:=f.ex;⟨p,a0,B,h1,oQ.of h2,h3⟩,f.slot⟩
noncomputable def cY (P:Program) (w:World) (mg:Str->Option Value):tJ:=fun outer H s E e s'=>∃ n C H',mg n=some (.ref C)/\jW P w outer H s C H' e s'/\E (.str n 0) none H'
noncomputable def EX (X:Cx):XK:=fun v _ H'=>∀ (n:Str) (C:Addr),v=.str n 0->X.mg n=some (.ref C)->∀ (pins:List (Addr×Obj)) (σ:St) (H:Hp) (s:Shared) (e:Value) (s':Shared),ay X pins σ H s->jW X.prog X.w X.stack H s C H' e s'->X.xe e s'
theorem rK {X:Cx}:nS (cY X.prog X.w X.mg) X (EX X):=fun pins σ H s e s' I ⟨n,C,H',hm,f,q⟩=>q n C rfl hm pins σ H s e s' I f
noncomputable def Xw (X:Cx) (c:Str) (H:Hp):Prop:=∀ H1,aq H H1->∀ (C:Addr),X.mg c=some (.ref C)->∀ (pins:List (Addr×Obj)) (σ:St) (Hc:Hp) (s:Shared) (e:Value) (s':Shared),ay X pins σ Hc s->nJ X.prog X.w X.stack Hc s C H1 e s'->X.xe e s'
theorem Xw.mono {X:Cx} {c:Str} {H H':Hp} (h:Xw X c H) (s:aq H H'):Xw X c H':=fun H1 s1=>h H1 (s.trans s1)
theorem Xw.ex {X:Cx} {c:Str} {H:Hp} (h:Xw X c H):∀ H1,aq H H1->EX X (.str c 0) none H1:=fun H1 s1 n C en hm pins σ Hc s e s' I f=>by
  have en':c=n:=by injection en
  subst en';exact h H1 s1 C hm pins σ Hc s e s' I f.hld
noncomputable def zG (X:Cx) (c:Str) (Fm:Hp):Prop:=∀ C,X.mg c=some (.ref C)->∀ (pins:List (Addr×Obj)) (σ:St) (H:Hp) (s:Shared),aq Fm H->ay X pins σ H s->∀ (h':Heap) (p:Addr) (vs:List Value),Heap.MadeExcOf s.heap h' p (.ref C) vs->X.xe (.ref p) { s with heap:=h' }
theorem zG.mono {X:Cx} {c:Str} {H H':Hp} (h:zG X c H) (s:aq H H'):zG X c H':=fun C hm pins σ H1 s1 e=>h C hm pins σ H1 s1 (s.trans e)
noncomputable def qq (X:Cx) (P:Hp->Hp->PyData->V->Prop) (r:R PyData) (H:Hp) (Q:VK):Prop :=
  match r with
  | .ok d=>∀ v H',aq H H'->P H H' d v->Q v H'
  | .ex c=>Xw X c H
  | .no=>False
noncomputable abbrev gj:Hp->Hp->PyData->V->Prop:=fun _ H' d v=>Rp H' d v
noncomputable abbrev o5:Hp->Hp->PyData->V->Prop:=fun _ H' d v=>fS H' d v
noncomputable abbrev Am:Hp->Hp->PyData->V->Prop:=fun H H' d v=>Rp H' d v\/yb H H' d v
noncomputable abbrev Fe:=aI->R PyData
noncomputable def gS (X:Cx) (P:Hp->Hp->PyData->V->Prop) (f:Fe):TE:=fun σ H Q=>∃ ρ,Sl H σ ρ/\qq X P (f ρ) H Q
noncomputable def cD (X:Cx) (e:Expr) (f:Fe):Prop:=PE X e (gS X gj f)
structure Z.cD (X:Cx) (e:Expr) (f:Fe):Prop where
  un:D2.cD X e f
noncomputable def c5 (X:Cx) (e:Expr) (f:Fe):Prop:=PE X e (gS X o5 f)
structure Z.c5 (X:Cx) (e:Expr) (f:Fe):Prop where
  un:D2.c5 X e f
noncomputable def xt (X:Cx) (e:Expr) (f:Fe):Prop:=PE X e (gS X Am f)
structure Z.xt (X:Cx) (e:Expr) (f:Fe):Prop where
  un:D2.xt X e f
noncomputable def k7 (X:Cx) (e:Expr) (f:Fe):Prop:=PE X e (gS X yb f)
structure Z.k7 (X:Cx) (e:Expr) (f:Fe):Prop where
  un:D2.k7 X e f
noncomputable def RA (I:Hp->PyData->V->Prop) (H:Hp):List PyData->List V->Prop
  | [],vs=>vs=[]
  | d::ds,vs=>∃ v r,vs=v::r/\I H d v/\RA I H ds r
theorem kz {H:Hp}:∀ {ds:List PyData} {vs:List V},RA Rp H ds vs<->br H ds vs
  | [],vs=>by simp only [RA,br]
  | d::ds,vs=>by simp only [RA,br,kz (ds:=ds)]
noncomputable def uq (X:Cx) (I:Hp->PyData->V->Prop) (f:aI->R (List PyData)):TA:=fun σ H Q=>∃ ρ,Sl H σ ρ/\match f ρ with
  | .ok ds=>∀ vs H',aq H H'->RA I H' ds vs->Q vs H'
  | .ex c=>Xw X c H
  | .no=>False
noncomputable def pS (X:Cx) (es:List Expr) (f:aI->R (List PyData)):Prop:=PA X es (uq X Rp f)
structure Z.pS (X:Cx) (es:List Expr) (f:aI->R (List PyData)):Prop where
  un:D2.pS X es f
noncomputable def zd (X:Cx) (es:List Expr) (f:aI->R (List PyData)):Prop:=PA X es (uq X fS f)
noncomputable def vY (X:Cx) (f:aI->R Bool):TT:=fun σ H Q=>∃ ρ,Sl H σ ρ/\match f ρ with
  | .ok b=>∀ H',aq H H'->Q b H'
  | .ex c=>Xw X c H
  | .no=>False
noncomputable def pT (X:Cx) (e:Expr) (f:aI->R Bool):Prop:=PT X e (vY X f)
structure Z.pT (X:Cx) (e:Expr) (f:aI->R Bool):Prop where
  un:D2.pT X e f
noncomputable def vR (X:Cx) (e:Expr) (f:aI->R Bool):Prop:=PW X e (vY X f)
structure Z.vR (X:Cx) (e:Expr) (f:aI->R Bool):Prop where
  un:D2.vR X e f
theorem PE.imp {X:Cx} {e:Expr} {t t':TE} (h:PE X e t) (i:∀ σ H Q,t' σ H Q->t σ H Q):PE X e t':=fun pins s σ H Q I q=>h pins s σ H Q I (i σ H Q q)
theorem PT.imp {X:Cx} {e:Expr} {t t':TT} (h:PT X e t) (i:∀ σ H Q,t' σ H Q->t σ H Q):PT X e t':=fun pins s σ H Q I q=>h pins s σ H Q I (i σ H Q q)
theorem PW.imp {X:Cx} {e:Expr} {t t':TT} (h:PW X e t) (i:∀ σ H Q,t' σ H Q->t σ H Q):PW X e t':=fun wh pins s σ H Q I q=>h wh pins s σ H Q I (i σ H Q q)
theorem PA.imp {X:Cx} {e:List Expr} {t t':TA} (h:PA X e t) (i:∀ σ H Q,t' σ H Q->t σ H Q):PA X e t':=fun pos pins s σ H Q I q=>h pos pins s σ H Q I (i σ H Q q)
theorem gS.post {X:Cx} {P:Hp->Hp->PyData->V->Prop} {f:Fe} {σ:St} {H:Hp} {Q Q':VK} (h:gS X P f σ H Q) (i:∀ v H',Q v H'->Q' v H'):gS X P f σ H Q':=by
  obtain ⟨ρ,sl,q⟩:=h;refine ⟨ρ,sl,?_⟩;cases e:f ρ with
  | ok d=>rw [e] at q;exact fun v H' s p=>i _ _ (q v H' s p)
  | ex c=>rw [e] at q;exact q
  | no=>rw [e] at q;exact q
theorem vY.post {X:Cx} {f:aI->R Bool} {σ:St} {H:Hp} {Q Q':Bool->Hp->Prop} (h:vY X f σ H Q) (i:∀ b H',Q b H'->Q' b H'):vY X f σ H Q':=by
  obtain ⟨ρ,sl,q⟩:=h;refine ⟨ρ,sl,?_⟩;cases e:f ρ with
  | ok d=>rw [e] at q;exact fun H' s=>i _ _ (q H' s)
  | ex c=>rw [e] at q;exact q
  | no=>rw [e] at q;exact q
theorem uq.post {X:Cx} {I:Hp->PyData->V->Prop} {f:aI->R (List PyData)} {σ:St} {H:Hp} {Q Q':List V->Hp->Prop} (h:uq X I f σ H Q) (i:∀ vs H',Q vs H'->Q' vs H'):uq X I f σ H Q':=by
  obtain ⟨ρ,sl,q⟩:=h;refine ⟨ρ,sl,?_⟩;cases e:f ρ with
  | ok d=>rw [e] at q;exact fun vs H' s p=>i _ _ (q vs H' s p)
  | ex c=>rw [e] at q;exact q
  | no=>rw [e] at q;exact q
theorem gS.weaken {X:Cx} {P P':Hp->Hp->PyData->V->Prop} {f:Fe} (h:∀ H H' d v,P H H' d v->P' H H' d v) (σ:St) (H:Hp) (Q:VK) (q:gS X P' f σ H Q):gS X P f σ H Q:=by
  obtain ⟨ρ,sl,q⟩:=q;refine ⟨ρ,sl,?_⟩;cases e:f ρ with
  | ok d=>rw [e] at q;exact fun v H' s p=>q v H' s (h _ _ _ _ p)
  | ex c=>rw [e] at q;exact q
  | no=>rw [e] at q;exact q
section
variable {X:Cx} {e:Expr} {f:Fe}
theorem cD.b (h:cD X e f):c5 X e f:=PE.imp h (gS.weaken fun _ _ _ _ p=>Or.inl p)
theorem aa (h:Z.cD X e f):Z.c5 X e f :=
  ⟨D2.cD.b h.un⟩
theorem k7.b (h:k7 X e f):c5 X e f:=PE.imp h (gS.weaken fun _ _ _ _ p=>Or.inr p.1)
theorem cX (h:Z.k7 X e f):Z.c5 X e f :=
  ⟨D2.k7.b h.un⟩
theorem k7.toF (h:k7 X e f):xt X e f:=PE.imp h (gS.weaken fun _ _ _ _ p=>Or.inr p)
end
section
variable {X:Cx} {pins:List (Addr×Obj)} {σ:St} {H:Hp} {s:Shared} {a:Addr} {u:HO}
theorem iO (I:ay X pins σ H s) (h:H a=some u) (hm:(∃ xs,u=.lst xs)\/∃ ks,u=.dK ks):∃ o,ay X pins σ (dk H a (.frz o u)) s:=by
  have ob:=I.hok a u h;have hg:∃ o,s.heap.get? a=some o:=by
    rcases hm with ⟨xs,rfl⟩ | ⟨ks,rfl⟩
    · obtain ⟨_,_,_,_,e⟩:=ob;exact ⟨_,e⟩
    · obtain ⟨_,_,_,_,o,_,_,e,_⟩:=ob;exact ⟨_,e⟩
  obtain ⟨o,hg⟩:=hg;have nt:∀ b xs,H b=some (.tup xs)->b≠a:=fun b xs q z=>by subst z;rw [h] at q;rcases hm with ⟨_,rfl⟩ | ⟨_,rfl⟩ <;> cases q
  have nf:∀ b o' u',H b=some (.frz o' u')->b≠a:=fun b o' u' q z=>by subst z;rw [h] at q;rcases hm with ⟨_,rfl⟩ | ⟨_,rfl⟩ <;> cases q
  have nb:∀ b ps,H b=some (.tbl ps)->b≠a:=fun b ps q z=>by subst z;rw [h] at q;rcases hm with ⟨_,rfl⟩ | ⟨_,rfl⟩ <;> cases q
  have nw:∀ b y,H b=some (.own y)->b≠a:=fun b y q z=>by subst z;rw [h] at q;rcases hm with ⟨_,rfl⟩ | ⟨_,rfl⟩ <;> cases q
  have nn:∀ b,H b=none->b≠a:=fun b q z=>by subst z;rw [h] at q;cases q
  have st:∀ b x,bY X.prog X.w H s.heap b x->bY X.prog X.w (dk H a (.frz o u)) s.heap b x:=fun b x q =>
    q.stay (fun c v _ e=>e) (fun c e=>by rw [aH (nw _ _ e)];exact e) fun c xs e=>by rw [aH (nt _ _ e)];exact e
  refine ⟨o,⟨I.ok,I.os,I.bare,⟨I.base.keep,I.base.slot,fun b ob' e n hx=>?_,I.base.there,fun b xs e=>?_,fun b ob' v e=>?_,fun b ps e=>?_⟩,I.loc,I.cell,?_,fun x c e=>?_,fun p hp=>?_,fun b x e=>?_,I.len⟩⟩
  · have:=I.base.free b ob' e n hx;rw [aH (nn _ this)];exact this
  · have:=I.base.tups b xs e;rw [aH (nt _ _ this)];exact this
  · have:=I.base.frzs b ob' v e;rw [aH (nf _ _ _ this)];exact this
  · obtain ⟨m,q⟩:=I.base.tbls b ps e;exact ⟨m,by rw [aH (nb _ _ q)];exact q⟩
  · rw [aH (nn _ I.free)];exact I.free
  · rw [aH (nn _ (I.freeC x c e))];exact I.freeC x c e
  · obtain ⟨p1,p2,p3⟩:=I.pin p hp;exact ⟨p1,by rw [aH (nn _ p2)];exact p2,p3⟩
  · by_cases hb:b=a
    · subst hb;rw [bJ] at e;cases e;exact ⟨hg,st b u ob⟩
    · rw [aH hb] at e;exact st b x (I.hok b x e)
theorem gm {o':HO} (h:H a=some u) (hm:(∃ xs,u=.lst xs)\/∃ ks,u=.dK ks):Kp H (dk H a o'):=by
  refine ⟨fun b xs e=>?_,fun b o v e=>?_⟩
  · rw [aH];exact e;rintro rfl;rw [h] at e;rcases hm with ⟨_,rfl⟩ | ⟨_,rfl⟩ <;> cases e
  · rw [aH];exact e;rintro rfl;rw [h] at e;rcases hm with ⟨_,rfl⟩ | ⟨_,rfl⟩ <;> cases e
theorem zl {H0:Hp} {d:PyData} {v:V} (I:ay X pins σ H s) (hs:aq H0 H) (n:yb H0 H d v):∃ H',ay X pins σ H' s/\aq H0 H'/\Rp H' d v:=by
  obtain ⟨n,a,rfl,h0⟩:=n;have go:∀ u:HO,H a=some u->((∃ xs,u=.lst xs)\/∃ ks,u=.dK ks)->∃ o,ay X pins σ (dk H a (.frz o u)) s/\aq H0 (dk H a (.frz o u))/\Kp H (dk H a (.frz o u)):=fun u hu hm=>by
    obtain ⟨o,J⟩:=iO I hu hm;refine ⟨o,J,fun b x e=>?_,gm hu hm⟩;rw [aH (aZ e h0)];exact hs b x e
  cases d <;> simp only [gQ] at n
  · obtain ⟨a',vs,e,ha,r⟩:=n;cases e;obtain ⟨o,J,S,K⟩:=go _ ha (.inl ⟨_,rfl⟩);refine ⟨_,J,S,?_⟩;simp only [Rp];exact ⟨a,o,vs,rfl,bJ,br.kp K _ _ r⟩
  · obtain ⟨a',vs,e,ha,r⟩:=n;cases e;obtain ⟨o,J,S,K⟩:=go _ ha (.inr ⟨_,rfl⟩);refine ⟨_,J,S,?_⟩;simp only [Rp];exact .inl ⟨a,o,vs,rfl,bJ,cZ.kp K _ _ r⟩
end
theorem xt.e {X:Cx} {e:Expr} {f:Fe} (h:xt X e f):cD X e f:=by
  intro pins s σ H Q I q;obtain ⟨ρ,sl,q⟩:=q;cases ef:f ρ with
  | ok d =>
    rw [ef] at q;refine dc (h pins s σ H (fun v H'=>aq H H'/\Am H H' d v) I ⟨ρ,sl,by rw [ef];exact fun v H' hs p=>⟨hs,p⟩⟩) fun u s' ⟨v,H',I',r,hs,p⟩=>?_
    rcases p with p | p
    · exact ⟨v,H',I',r,q v H' hs p⟩
    · obtain ⟨H2,I2,S2,p2⟩:=zl I' hs p;exact ⟨v,H2,I2,r,q v H2 S2 p2⟩
  | ex c=>rw [ef] at q;exact dc (h pins s σ H (fun _ _=>False) I ⟨ρ,sl,by rw [ef];exact q⟩) fun u s' ⟨v,H',I',r,z⟩=>z.elim
  | no=>rw [ef] at q;exact q.elim
theorem At {X:Cx} {e:Expr} {f:Fe} (h:Z.xt X e f):Z.cD X e f :=
  ⟨D2.xt.e h.un⟩
theorem k7.e {X:Cx} {e:Expr} {f:Fe} (h:k7 X e f):cD X e f:=(k7.toF h).e
theorem jj {X:Cx} {e:Expr} {f:Fe} (h:Z.k7 X e f):Z.cD X e f :=
  ⟨D2.k7.e h.un⟩
structure wu {β:Type} (X:Cx) (T:R β->Hp->Prop):Prop where
  mono:∀ r H H',T r H->aq H H'->T r H'
  ex:∀ c H,T (.ex c) H->Xw X c H
  no:∀ H,¬ T .no H
noncomputable def Dn (P:Hp->Hp->PyData->V->Prop):Prop:=∀ H H1 H' d v,aq H H1->P H1 H' d v->P H H' d v
theorem eE:Dn gj:=fun _ _ _ _ _ _ p=>p
theorem sA:Dn yb:=fun _ _ _ _ _ s p=>⟨p.1,let ⟨a,e,h⟩:=p.2;⟨a,e,s.free h⟩⟩
theorem wj:Dn Am:=fun _ _ _ _ _ s p=>p.elim .inl fun p=>.inr (sA _ _ _ _ _ s p)
section
variable {X:Cx} {σ:St} {H:Hp}
theorem dP {P:Hp->Hp->PyData->V->Prop} (hP:Dn P) (Q:VK):wu X (fun r H=>qq X P r H Q) where
  mono:=fun r H H' h s=>by
    cases r with
    | ok d=>exact fun v H2 s2 p=>h v H2 (s.trans s2) (hP _ _ _ _ _ s p)
    | ex c=>exact Xw.mono h s
    | no=>exact h
  ex:=fun c H h=>h
  no:=fun H h=>h
theorem uN (Q:Bool->Hp->Prop):wu X (fun (r:R Bool) H=>match r with | .ok b=>∀ H',aq H H'->Q b H' | .ex c=>Xw X c H | .no=>False) where
  mono:=fun r H H' h s=>by
    cases r with
    | ok d=>exact fun H2 s2=>h H2 (s.trans s2)
    | ex c=>exact Xw.mono h s
    | no=>exact h
  ex:=fun c H h=>h
  no:=fun H h=>h
theorem xD (I:Hp->PyData->V->Prop) (Q:List V->Hp->Prop):wu X (fun (r:R (List PyData)) H=>match r with | .ok ds=>∀ vs H',aq H H'->RA I H' ds vs->Q vs H' | .ex c=>Xw X c H | .no=>False) where
  mono:=fun r H H' h s=>by
    cases r with
    | ok d=>exact fun vs H2 s2=>h vs H2 (s.trans s2)
    | ex c=>exact Xw.mono h s
    | no=>exact h
  ex:=fun c H h=>h
  no:=fun H h=>h
theorem dl {β:Type} {T:R β->Hp->Prop} (t:wu X T) {P:Hp->Hp->PyData->V->Prop} {f:Fe} {k:aI->PyData->R β} (h:∃ ρ,Sl H σ ρ/\T (f ρ>>=k ρ) H) :
    gS X P f σ H (fun v H1=>∃ ρ d,Sl H1 σ ρ/\aq H H1/\P H H1 d v/\T (k ρ d) H1):=by
  obtain ⟨ρ,sl,q⟩:=h;refine ⟨ρ,sl,?_⟩;cases e:f ρ with
  | ok d=>rw [e] at q;exact fun v H1 s p=>⟨ρ,d,sl.mono s,s,p,t.mono _ _ _ q s⟩
  | ex c=>rw [e] at q;exact t.ex _ _ q
  | no=>rw [e] at q;exact (t.no _ q).elim
theorem uG {β:Type} {T:R β->Hp->Prop} (t:wu X T) {f:aI->R Bool} {k:aI->Bool->R β} (h:∃ ρ,Sl H σ ρ/\T (f ρ>>=k ρ) H) :
    vY X f σ H (fun b H1=>∃ ρ,Sl H1 σ ρ/\aq H H1/\T (k ρ b) H1):=by
  obtain ⟨ρ,sl,q⟩:=h;refine ⟨ρ,sl,?_⟩;cases e:f ρ with
  | ok d=>rw [e] at q;exact fun H1 s=>⟨ρ,sl.mono s,s,t.mono _ _ _ q s⟩
  | ex c=>rw [e] at q;exact t.ex _ _ q
  | no=>rw [e] at q;exact (t.no _ q).elim
theorem jz {β:Type} {T:R β->Hp->Prop} (t:wu X T) {I:Hp->PyData->V->Prop} {f:aI->R (List PyData)} {k:aI->List PyData->R β} (h:∃ ρ,Sl H σ ρ/\T (f ρ>>=k ρ) H) :
    uq X I f σ H (fun vs H1=>∃ ρ ds,Sl H1 σ ρ/\aq H H1/\RA I H1 ds vs/\T (k ρ ds) H1):=by
  obtain ⟨ρ,sl,q⟩:=h;refine ⟨ρ,sl,?_⟩;cases e:f ρ with
  | ok d=>rw [e] at q;exact fun vs H1 s p=>⟨ρ,d,sl.mono s,s,p,t.mono _ _ _ q s⟩
  | ex c=>rw [e] at q;exact t.ex _ _ q
  | no=>rw [e] at q;exact (t.no _ q).elim
end
noncomputable def ag (i:Nat):Fe:=fun ρ=>match ρ[i]? with
  | some (.val d)=>.ok d
  | _=>.no
noncomputable def kD (i:Nat):Fe:=fun ρ=>match ρ[i]? with
  | some (.val d)=>.ok d
  | some (.own d)=>.ok d
  | _=>.no
noncomputable def eC (d:PyData):Fe:=fun _=>.ok d
structure Tb (X:Cx) (nl:Nat) (G:List Str):Prop where
  hu:X.A.units+64 < cLine
  calm:X.calm=true
  nd:X.N.Nodup
  vis:∀ x∈X.N,zU X.env.scope x/\(x==("__debug__" : Str))=false/\(x==("__classdict__" : Str))=false
  loc:∀ x∈X.N.take nl,yr X.env.scope x/\(X.fn x=true\/X.env.scope.names.lookup x=some .local)
  gl:∀ x∈G,Gl X x/\(x==("__debug__" : Str))=false/\x≠("__name__" : Str)
section
variable {X:Cx} {nl:Nat} {G:List Str} {x:Str} {pos:Pos}
theorem Sl.at {H:Hp} {σ:St} {ρ:aI} {i:Nat} {c:cg} (h:Sl H σ ρ) (e:ρ[i]?=some c):∃ o,σ[i]?=some o/\gV H c o:=by
  have hi:i < σ.length:=by rw [h.1];exact (List.getElem?_eq_some_iff.mp e).1
  exact ⟨σ[i],List.getElem?_eq_getElem hi,h.2 i c _ e (List.getElem?_eq_getElem hi)⟩
theorem ad (T:Tb X nl G) (i:Nat) (hN:X.N[i]?=some x):Z.cD X (.Name x pos) (ag i):=⟨by
  have hm:=T.vis x (List.mem_of_getElem? hN);refine PE.imp (fA hN hm.1 hm.2.1 hm.2.2) fun σ H Q ⟨ρ,sl,q⟩=>?_
  unfold ag at q;split at q
  · rename_i d e;obtain ⟨o,h1,v,rfl,h2⟩:=sl.at e;exact ⟨v,h1,q v H (aq.refl H) h2⟩
  · exact q.elim⟩
theorem kZ (T:Tb X nl G) (i:Nat) (hN:X.N[i]?=some x):Z.c5 X (.Name x pos) (kD i):=⟨by
  have hm:=T.vis x (List.mem_of_getElem? hN);refine PE.imp (fA hN hm.1 hm.2.1 hm.2.2) fun σ H Q ⟨ρ,sl,q⟩=>?_
  unfold kD at q;split at q
  · rename_i d e;obtain ⟨o,h1,v,rfl,h2⟩:=sl.at e;exact ⟨v,h1,q v H (aq.refl H) (.inl h2)⟩
  · rename_i d e;obtain ⟨o,h1,v,rfl,h2⟩:=sl.at e;exact ⟨v,h1,q v H (aq.refl H) (.inr h2)⟩
  · exact q.elim⟩
theorem lg {e:Expr} {d:PyData} {v:V} (h:PE X e (tC v)) (r:∀ H,Rp H d v):cD X e (eC d) :=
  PE.imp h fun σ H Q ⟨ρ,sl,q⟩=>q v H (aq.refl H) (r H)
theorem af {i j}:Z.cD X (.Constant (.int i) j pos) (eC (.int i)):=⟨lg yx fun H=>by simp only [Rp]⟩
theorem cn {b j}:Z.cD X (.Constant (.bool b) j pos) (eC (.bool b)):=⟨lg zQ fun H=>by simp only [Rp]⟩
theorem jR {j}:Z.cD X (.Constant .none j pos) (eC .none):=⟨lg yB fun H=>by simp only [Rp]⟩
theorem bB {y j}:Z.cD X (.Constant (.str y) j pos) (eC (.str y)):=⟨lg uB fun H=>by simp only [Rp]⟩
theorem aX {i:Int} {t:Tok} (T:Tb X nl G) (j:Nat) (hG:G[j]?=some x) (hm:X.mg x=some (.int i t)):Z.cD X (.Name x pos) (eC (.int i)):=⟨by
  have g:=T.gl x (List.mem_of_getElem? hG);exact lg (mP g.1 hm (v:=.int i) ⟨t,rfl⟩ g.2.1) fun H=>by simp only [Rp]⟩
end
section
variable {X:Cx} {a b c:Expr} {fa fb fc:Fe} {pos:Pos}
noncomputable def e2 (g:PyData->PyData->R PyData) (fa fb:Fe):Fe:=fun ρ=>fa ρ>>=fun x=>fb ρ>>=fun y=>g x y
noncomputable def e1 (g:PyData->R PyData) (fa:Fe):Fe:=fun ρ=>fa ρ>>=fun x=>g x
noncomputable def bS (X:Cx) (P:Hp->Hp->PyData->V->Prop) (r:R2) (g:PyData->PyData->R PyData):Prop :=
  ∀ H x y dx dy Q,fS H dx x->fS H dy y->qq X P (g dx dy) H Q->r x y H Q
theorem Ak {P:Hp->Hp->PyData->V->Prop} {r:R2} {g:PyData->PyData->R PyData} (hP:Dn P) (hg:bS X P r g) (σ:St) (H:Hp) (Q:VK) (h:gS X P (e2 g fa fb) σ H Q) :
    Ad r (gS X o5 fa) (gS X o5 fb) σ H Q :=
  (dl (P:=o5) (dP (X:=X) hP Q) h).post fun v H1 ⟨ρ1,d1,sl1,_,p1,q1⟩ =>
    (dl (P:=o5) (f:=fb) (k:=fun _ y=>g d1 y) (dP (X:=X) hP Q) ⟨ρ1,sl1,q1⟩).post fun u H2 ⟨_,d2,_,s2,p2,q2⟩=>hg H2 v u d1 d2 Q (fS.mono p1 s2) p2 q2
theorem kG {op:Operator} {P:Hp->Hp->PyData->V->Prop} {r:R2} {g:PyData->PyData->R PyData} (hP:Dn P) (ho:gT X (binaryOp op) r) (hg:bS X P r g) (ha:c5 X a fa) (hb:c5 X b fb) :
    PE X (.BinOp a op b pos) (gS X P (e2 g fa fb)):=PE.imp (zx ho ha hb) (Ak hP hg)
theorem qh {op:CmpOp} {r:R2} {g:PyData->PyData->R PyData} (ho:gT X (compareOp op) r) (hg:bS X gj r g) (ha:c5 X a fa) (hb:c5 X b fb) (hm:behindInMarks op b=false) :
    cD X (.Compare a [op] [b] pos) (e2 g fa fb):=PE.imp (xn ho ha hb hm) (Ak eE hg)
end
noncomputable def pf:PyData->R Bool
  | .bool b=>.ok b
  | _=>.no
noncomputable def tE (f:Fe):aI->R Bool:=fun ρ=>f ρ>>=pf
theorem nu {X:Cx} {f:Fe} {σ:St} {H:Hp} {Q:Bool->Hp->Prop} (h:vY X (tE f) σ H Q):gS X gj f σ H (fun x H'=>∃ k,x=.bl k/\Q k H') :=
  (dl (P:=gj) (f:=f) (k:=fun _=>pf) (uN (X:=X) Q) h).post fun v H1 ⟨ρ1,d1,_,_,p1,q1⟩=>by
    cases d1 with
    | bool b =>
      have p2:v=.bl b:=by simpa only [Rp] using p1
      exact ⟨b,p2,q1 H1 (aq.refl _)⟩
    | _=>exact q1.elim
section
variable {X:Cx} {a b c:Expr} {fa fb fc:Fe} {pos:Pos}
theorem mR {op:CmpOp} {r:R2} {g:PyData->PyData->R PyData} (ho:gT X (compareOp op) r) (hg:bS X gj r g) (ha:c5 X a fa) (hb:c5 X b fb) (hm:behindInMarks op b=false) :
    pT X (.Compare a [op] [b] pos) (tE (e2 g fa fb)) :=
  PT.imp (wo ho ha hb hm) fun σ H Q h=>Ak eE hg σ H _ (nu h)
theorem bo {e:Expr} {f:Fe} (h:Z.cD X e f) (he:∀ whole,isTrue e X.env whole=(do let v <- whole;standAt e.pos;holding [v] (truthy v)):=by intro _;rfl):Z.pT X e (tE f):=⟨have h:=h.un;PT.imp (yl h he) fun σ H Q h=>nu h⟩
noncomputable def g9 (f g:aI->R Bool):aI->R Bool:=fun ρ=>f ρ>>=fun b=>if b=true then .ok true else g ρ
noncomputable def cG (f:aI->R Bool):aI->R Bool:=fun ρ=>f ρ>>=fun b=>.ok (!b)
variable {ga gb:aI->R Bool} {dn:List Expr}
theorem dO (ha:Z.pT X a ga):Z.vR X (.BoolOp .Or [a] pos) ga:=⟨have ha:=ha.un;pw_or1 ha⟩
theorem dz (ha:Z.pT X a ga) (hb:Z.vR X (.BoolOp .Or (b::dn) pos) gb):Z.vR X (.BoolOp .Or (a::b::dn) pos) (g9 ga gb):=⟨have ha:=ha.un;have hb:=hb.un;PW.imp (pw_or ha hb) fun σ H Q h=>(uG (f:=ga) (k:=fun ρ b=>if b=true then .ok true else gb ρ) (uN (X:=X) Q) h).post fun d H1 ⟨ρ1,sl1,_,q1⟩=>by
    cases d with
    | false=>exact ⟨ρ1,sl1,q1⟩
    | true=>exact q1 H1 (aq.refl _)⟩
theorem vR.t {e:Expr} (h:vR X e ga):pT X e ga:=PW.pt h
theorem fP {e:Expr} (h:Z.vR X e ga):Z.pT X e ga :=
  ⟨D2.vR.t h.un⟩
theorem bf (ha:Z.pT X a ga):Z.pT X (.UnaryOp .Not a pos) (cG ga):=⟨have ha:=ha.un;PT.imp (yD ha) fun σ H Q h=>(uG (f:=ga) (k:=fun _ b=>.ok (!b)) (uN (X:=X) Q) h).post fun d H1 ⟨ρ1,sl1,_,q1⟩=>q1 H1 (aq.refl _)⟩
noncomputable def iu (f g:Fe):Fe:=fun ρ=>f ρ>>=fun d=>pf d>>=fun b=>if b=true then g ρ else .ok (.bool false)
noncomputable def AW (f g:Fe):Fe:=fun ρ=>f ρ>>=fun d=>pf d>>=fun b=>if b=true then .ok (.bool true) else g ρ
noncomputable def qe (f:Fe):Fe:=fun ρ=>f ρ>>=fun d=>pf d>>=fun b=>.ok (.bool (!b))
theorem nG {k:aI->Bool->R PyData} {f:Fe} {σ:St} {H:Hp} {Q:VK} (h:gS X gj (fun ρ=>f ρ>>=fun d=>pf d>>=fun b=>k ρ b) σ H Q) :
    gS X gj f σ H (fun x H'=>∃ c,x=.bl c/\gS X gj (fun ρ=>k ρ c) σ H' Q) :=
  (dl (P:=gj) (f:=f) (k:=fun ρ d=>pf d>>=fun b=>k ρ b) (dP (X:=X) eE Q) h).post fun v H1 ⟨ρ1,d1,sl1,_,p1,q1⟩=>by
    cases d1 with
    | bool b =>
      have p2:v=.bl b:=by simpa only [Rp] using p1
      exact ⟨b,p2,ρ1,sl1,q1⟩
    | _=>exact q1.elim
theorem dq {op} (h:Z.cD X a fa):Z.cD X (.BoolOp op [a] pos) fa:=⟨have h:=h.un;yG h⟩
theorem da (ha:Z.cD X a fa) (hb:Z.cD X (.BoolOp .And (b::dn) pos) fb):Z.cD X (.BoolOp .And (a::b::dn) pos) (iu fa fb):=⟨have ha:=ha.un;have hb:=hb.un;PE.imp (yy ha hb) fun σ H Q h=>(nG (k:=fun ρ b=>if b=true then fb ρ else .ok (.bool false)) h).post fun v H1 ⟨c,e1,q1⟩=>by
    refine ⟨c,e1,?_⟩;cases c with
    | true=>exact q1
    | false =>
      obtain ⟨_,_,q2⟩:=q1;exact q2 _ H1 (aq.refl _) (by simp only [Rp])⟩
theorem xq (ha:Z.cD X a fa) (hb:Z.cD X (.BoolOp .Or (b::dn) pos) fb):Z.cD X (.BoolOp .Or (a::b::dn) pos) (AW fa fb):=⟨have ha:=ha.un;have hb:=hb.un;PE.imp (z0 ha hb) fun σ H Q h=>(nG (k:=fun ρ b=>if b=true then .ok (.bool true) else fb ρ) h).post fun v H1 ⟨c,e1,q1⟩=>by
    refine ⟨c,e1,?_⟩;cases c with
    | false=>exact q1
    | true =>
      obtain ⟨_,_,q2⟩:=q1;exact q2 _ H1 (aq.refl _) (by simp only [Rp])⟩
theorem lr (ha:Z.cD X a fa):Z.cD X (.UnaryOp .Not a pos) (qe fa):=⟨have ha:=ha.un;PE.imp (yX ha) fun σ H Q h=>(nG (k:=fun ρ b=>.ok (.bool (!b))) h).post fun v H1 ⟨c,e1,_,_,q2⟩=>⟨c,e1,q2 _ H1 (aq.refl _) (by simp only [Rp])⟩⟩
end
noncomputable def az:Expr->Bool
  | .Starred ..=>false
  | _=>true
theorem aO {e:Expr} {es:List Expr} {env:Env} (h:az e=true):starEach (e::es) env=(false,eval e env)::starEach es env:=by
  cases e <;> first | rfl | (cases h)
theorem je {es:List Expr} {env:Env} {pos:Pos} (h:es.all az=true):(backTo pos (starEach es env)).any (·.1)=false:=by
  induction es with
  | nil=>rfl
  | cons e es ih =>
    rw [List.all_cons,Bool.and_eq_true] at h;rw [aO h.1];have:=ih h.2;simpa [backTo] using this
noncomputable def aB:aI->R (List PyData):=fun _=>.ok []
noncomputable def ai (f:Fe) (g:aI->R (List PyData)):aI->R (List PyData):=fun ρ=>f ρ>>=fun d=>g ρ>>=fun ds=>.ok (d::ds)
section
variable {X:Cx} {e:Expr} {es:List Expr} {f:Fe} {g:aI->R (List PyData)}
theorem qW {I:Hp->PyData->V->Prop}:PA X [] (uq X I aB):=PA.imp lu fun σ H Q ⟨ρ,sl,q⟩=>q [] H (aq.refl _) (by simp only [RA])
theorem kU:pS X [] aB:=qW
theorem al  : Z.pS X [] aB :=
  ⟨D2.kU⟩
theorem jD:zd X [] aB:=qW
theorem nZ {I:Hp->PyData->V->Prop} (hI:∀ H H' d v,I H d v->aq H H'->I H' d v) (ha:PE X e (gS X (fun _ H' d v=>I H' d v) f)) (hr:PA X es (uq X I g))
    (hs:starEach (e::es) X.env=(false,eval e X.env)::starEach es X.env:=by rfl):PA X (e::es) (uq X I (ai f g)) :=
  PA.imp (eW ha hr hs) fun σ H Q h =>
    (dl (P:=fun _ H' d v=>I H' d v) (f:=f) (k:=fun ρ d=>g ρ>>=fun ds=>.ok (d::ds)) (xD (X:=X) I Q) h).post fun v H1 ⟨ρ1,d1,sl1,_,p1,q1⟩ =>
      (jz (I:=I) (f:=g) (k:=fun _ ds=>.ok (d1::ds)) (xD (X:=X) I Q) ⟨ρ1,sl1,q1⟩).post fun vs H2 ⟨_,ds1,_,s2,p3,q3⟩ =>
        q3 (v::vs) H2 (aq.refl _) (by simp only [RA];exact ⟨v,vs,rfl,hI _ _ _ _ p1 s2,p3⟩)
theorem jx (ha:cD X e f) (hr:pS X es g) (hs:az e=true:=by rfl):pS X (e::es) (ai f g):=nZ (fun _ _ _ _ h s=>h.mono s) ha hr (aO hs)
theorem ae (ha:Z.cD X e f) (hr:Z.pS X es g) (hs:az e=true:=by rfl):Z.pS X (e::es) (ai f g) :=
  ⟨D2.jx ha.un hr.un hs⟩
theorem eZ (ha:c5 X e f) (hr:zd X es g) (hs:az e=true:=by rfl):zd X (e::es) (ai f g):=nZ (fun _ _ _ _ h s=>h.mono s) ha hr (aO hs)
end
section
variable {K:PySem.W.Frag} {H:Hp} {x:V}
theorem k6 (h:fS H .none x):x=.non:=by
  rcases h with h | h
  · simpa only [Rp] using h
  · simp only [gQ] at h
theorem jg {b:Bool} (h:fS H (.bool b) x):x=.bl b:=by
  rcases h with h | h
  · simpa only [Rp] using h
  · simp only [gQ] at h
theorem aS {i:Int} (h:fS H (.int i) x):x=.int i:=by
  rcases h with h | h
  · simpa only [Rp] using h
  · simp only [gQ] at h
theorem eX {y:Str} (h:fS H (.str y) x):x=.str y:=by
  rcases h with h | h
  · simpa only [Rp] using h
  · simp only [gQ] at h
theorem dg {ds:List PyData} (h:fS H (.tuple ds) x):∃ a vs,x=.ref a/\H a=some (.tup vs)/\br H ds vs:=by
  rcases h with h | h
  · simpa only [Rp] using h
  · simp only [gQ] at h
theorem dU {ds:List PyData} (h:fS H (.list ds) x):∃ a vs,x=.ref a/\kW K H a vs/\br H ds vs:=by
  rcases h with h | h
  · simp only [Rp] at h;obtain ⟨a,o,vs,e,ha,r⟩:=h;exact ⟨a,vs,e,.inl (.inr ⟨o,ha⟩),r⟩
  · simp only [gQ] at h;obtain ⟨a,vs,e,ha,r⟩:=h;exact ⟨a,vs,e,.inl (.inl ha),r⟩
theorem xr {C:Addr} {fs:List (Str×V)} {kvs:List (PyData×PyData)} (h:vL H C fs kvs):gN kvs=true:=by
  cases kvs with
  | nil=>simp only [vL] at h
  | cons kd kvs=>simp only [vL] at h;rw [h.1];rfl
theorem u8 {kvs:List (PyData×PyData)} (h:fS H (.dict kvs) x):∃ a,x=.ref a:=by
  rcases h with h | h
  · simp only [Rp] at h;rcases h with ⟨a,o,vs,e,_⟩ | ⟨a,o,C,dx,fs,e,_⟩
    · exact ⟨a,e⟩
    · exact ⟨a,e⟩
  · simp only [gQ] at h;obtain ⟨a,vs,e,_⟩:=h;exact ⟨a,e⟩
theorem ig {kvs:List (PyData×PyData)} (hi:gN kvs=false) (h:fS H (.dict kvs) x):∃ a ks,x=.ref a/\Rd H a (.dK ks)/\cZ H kvs ks:=by
  rcases h with h | h
  · simp only [Rp] at h;rcases h with ⟨a,o,vs,e,ha,r⟩ | ⟨a,o,C,dx,fs,e,ha,r⟩
    · exact ⟨a,vs,e,.inr ⟨o,ha⟩,r⟩
    · rw [xr r] at hi;cases hi
  · simp only [gQ] at h;obtain ⟨a,vs,e,ha,r⟩:=h;exact ⟨a,vs,e,.inl ha,r⟩
end
theorem br.nil {H:Hp}:br H [] []:=by simp only [br]
theorem br.cons {H:Hp} {d:PyData} {ds:List PyData} {v:V} {vs:List V} (h:Rp H d v) (t:br H ds vs):br H (d::ds) (v::vs):=by simp only [br];exact ⟨v,vs,rfl,h,t⟩
theorem br.nil_inv {H:Hp} {vs:List V} (h:br H [] vs):vs=[]:=by simpa only [br] using h
theorem br.cons_inv {H:Hp} {d:PyData} {ds:List PyData} {vs:List V} (h:br H (d::ds) vs):∃ v r,vs=v::r/\Rp H d v/\br H ds r:=by simpa only [br] using h
theorem br.length {H:Hp}:∀ {ds:List PyData} {vs:List V},br H ds vs->vs.length=ds.length
  | [],vs,h=>by rw [h.nil_inv];rfl
  | d::ds,vs,h=>by
    obtain ⟨v,r,rfl,_,t⟩:=h.cons_inv;rw [List.length_cons,List.length_cons,br.length t]
theorem br.get {H:Hp}:∀ {ds:List PyData} {vs:List V} {i:Nat} {d:PyData},br H ds vs->ds[i]?=some d->∃ v,vs[i]?=some v/\Rp H d v
  | [],vs,i,d,h,e=>by simp at e
  | d0::ds,vs,0,d,h,e=>by
    obtain ⟨v,r,rfl,p,_⟩:=h.cons_inv;simp at e;subst e;exact ⟨v,rfl,p⟩
  | d0::ds,vs,i+1,d,h,e=>by
    obtain ⟨v,r,rfl,_,t⟩:=h.cons_inv;obtain ⟨u,e1,p⟩:=br.get (i:=i) t (by simpa using e);exact ⟨u,by simpa using e1,p⟩
theorem br.append {H:Hp}:∀ {ds es:List PyData} {vs us:List V},br H ds vs->br H es us->br H (ds++es) (vs++us)
  | [],es,vs,us,h,g=>by rw [h.nil_inv];exact g
  | d::ds,es,vs,us,h,g=>by
    obtain ⟨v,r,rfl,p,t⟩:=h.cons_inv;exact br.cons p (br.append t g)
theorem br.take {H:Hp}:∀ {ds:List PyData} {vs:List V} (n:Nat),br H ds vs->br H (ds.take n) (vs.take n)
  | ds,vs,0,h=>by simp only [List.take_zero];exact br.nil
  | [],vs,n+1,h=>by rw [h.nil_inv];exact br.nil
  | d::ds,vs,n+1,h=>by
    obtain ⟨v,r,rfl,p,t⟩:=h.cons_inv;exact br.cons p (br.take n t)
theorem br.drop {H:Hp}:∀ {ds:List PyData} {vs:List V} (n:Nat),br H ds vs->br H (ds.drop n) (vs.drop n)
  | ds,vs,0,h=>h
  | [],vs,n+1,h=>by rw [h.nil_inv];exact br.nil
  | d::ds,vs,n+1,h=>by
    obtain ⟨v,r,rfl,p,t⟩:=h.cons_inv;exact br.drop n t
theorem br.rep {H:Hp} {ds:List PyData} {vs:List V} (h:br H ds vs):∀ k:Nat,br H (List.replicate k ds).flatten (List.replicate k vs).flatten
  | 0=>br.nil
  | k+1=>by rw [List.replicate_succ,List.replicate_succ,List.flatten_cons,List.flatten_cons];exact br.append h (br.rep h k)
theorem br.ints {H:Hp}:∀ ns:List Int,br H (ns.map PyData.int) (ns.map V.int)
  | []=>br.nil
  | n::ns=>br.cons (by simp only [Rp]) (br.ints ns)
theorem cu {H:Hp} {p:Addr} (h:H p=none) (o:HO):aq H (dk H p o):=fun b u q=>by rw [aH (aZ q h)];exact q
theorem fu {H:Hp} {p:Addr} {ds:List PyData} {vs:List V} (h:H p=none) (r:br H ds vs):Rp (dk H p (.tup vs)) (.tuple ds) (.ref p):=by
  simp only [Rp];exact ⟨p,vs,rfl,bJ,r.mono (cu h _)⟩
theorem eM {H:Hp} {p:Addr} {ds:List PyData} {vs:List V} (h:H p=none) (r:br H ds vs):yb H (dk H p (.lst vs)) (.list ds) (.ref p):=by
  refine ⟨?_,p,rfl,h⟩;simp only [gQ];exact ⟨p,vs,rfl,bJ,r.mono (cu h _)⟩
section
variable {P:Program} {w:World} {H:Hp} {h:Heap}
mutual
theorem pI (ok:fI P w H h):∀ (d:PyData) (v:V) (u:Value),d.canLay0=true->Rp H d v->bz v u->∃ as,Reads h u d as
  | .none,v,u,_,r,e=>by simp only [Rp] at r;subst r;cases e;exact ⟨_,.none⟩
  | .bool b,v,u,_,r,e=>by simp only [Rp] at r;subst r;cases e;exact ⟨_,.bool b⟩
  | .int i,v,u,_,r,e=>by simp only [Rp] at r;subst r;obtain ⟨t,rfl⟩:=e;exact ⟨_,.int i t⟩
  | .str x,v,u,_,r,e=>by simp only [Rp] at r;subst r;obtain ⟨t,rfl⟩:=e;exact ⟨_,.str x t⟩
  | .tuple ds,v,u,c,r,e=>by
    simp only [Rp] at r;obtain ⟨a,vs,rfl,ha,r⟩:=r;cases e;obtain ⟨_,its,rv,o,h1,h2,n,h3⟩:=(show bY P w H h a (.tup vs) from ok a _ ha)
    obtain ⟨as,q⟩:=fH ok ds vs its (by simpa only [PyData.canLay0] using c) r rv;exact ⟨as,.tuple h1 h2 h3 (by simpa using q)⟩
  | .list ds,v,u,c,r,e=>by
    simp only [Rp] at r;obtain ⟨a,ob,vs,rfl,ha,r⟩:=r;cases e;obtain ⟨_,_,its,n,rv,h1⟩:=(show bY P w H h a (.frz ob (.lst vs)) from ok a _ ha)
    obtain ⟨as,q⟩:=fH ok ds vs its (by simpa only [PyData.canLay0] using c) r rv;exact ⟨a::as,.list h1 rfl rfl (by simpa using q)⟩
  | .dict kvs,v,u,c,r,e=>by simp [PyData.canLay0] at c
theorem fH (ok:fI P w H h):∀ (ds:List PyData) (vs:List V) (us:List Value),PyData.canLayAll0 ds=true->br H ds vs->bp vs us->∃ as,ReadsAll h us ds as
  | [],vs,us,_,r,e=>by rw [r.nil_inv] at e;cases e;exact ⟨_,.nil⟩
  | d::ds,vs,us,c,r,e=>by
    obtain ⟨v,r',rfl,p,t⟩:=r.cons_inv;have c':d.canLay0=true/\PyData.canLayAll0 ds=true:=by simpa [PyData.canLayAll0] using c
    cases e with
    | cons e1 e2 =>
      obtain ⟨as,q1⟩:=pI ok d v _ c'.1 p e1;obtain ⟨bs,q2⟩:=fH ok ds r' _ c'.2 t e2;exact ⟨as++bs,.cons q1 q2⟩
end
theorem iy (ok:fI P w H h) {d:PyData} {v:V} {u:Value} (c:d.canLay0=true) (r:fS H d v) (e:bz v u):∃ as,Reads h u d as:=by
  rcases r with r | r
  · exact pI ok d v u c r e
  · cases d <;> simp only [gQ] at r
    · rename_i ds;obtain ⟨a,vs,rfl,ha,r⟩:=r;cases e;obtain ⟨_,its,n,rv,h1⟩:=(show bY P w H h a (.lst vs) from ok a _ ha)
      obtain ⟨as,q⟩:=fH ok ds vs its (by simpa only [PyData.canLay0] using c) r rv;exact ⟨a::as,.list h1 rfl rfl (by simpa using q)⟩
    · simp [PyData.canLay0] at c
end
noncomputable def eT:PyData->Option bZ
  | .int i=>some (.inl i)
  | .str y=>some (.inr y)
  | _=>none
noncomputable def dY:PyData->PyData->Bool
  | .int i,.int j=>decide (i=j)
  | .str i,.str j=>decide (i=j)
  | _,_=>false
noncomputable def kK (kvs:List (PyData×PyData)) (k v:PyData):List (PyData×PyData) :=
  if (kvs.any fun kv=>dY kv.1 k)=true then kvs.map (fun kv=>if dY kv.1 k=true then (kv.1,v) else kv) else kvs++[(k,v)]
theorem ix (κ κ':bZ):dY (dQ κ) (dQ κ')=decide (κ=κ'):=by
  cases κ with
  | inl i =>
    cases κ' with
    | inl j=>simp [dQ,dY]
    | inr j=>simp [dQ,dY]
  | inr i =>
    cases κ' with
    | inl j=>simp [dQ,dY]
    | inr j=>simp [dQ,dY]
theorem cZ.cons {H:Hp} {k d:PyData} {kvs:List (PyData×PyData)} {κ:bZ} {v:V} {ks:List (bZ×V)} (e:k=dQ κ) (h:Rp H d v) (t:cZ H kvs ks):cZ H ((k,d)::kvs) ((κ,v)::ks):=by
  simp only [cZ,xm];exact ⟨κ,v,ks,rfl,⟨e,h⟩,t⟩
theorem cZ.cons_inv {H:Hp} {k d:PyData} {kvs:List (PyData×PyData)} {ks:List (bZ×V)} (h:cZ H ((k,d)::kvs) ks):∃ κ v r,ks=(κ,v)::r/\k=dQ κ/\Rp H d v/\cZ H kvs r:=by
  simp only [cZ,xm] at h;obtain ⟨κ,v,r,e,⟨e1,p⟩,t⟩:=h;exact ⟨κ,v,r,e,e1,p,t⟩
theorem cZ.nil_inv {H:Hp} {ks:List (bZ×V)} (h:cZ H [] ks):ks=[]:=by simpa only [cZ] using h
theorem cZ.any {H:Hp} (κ:bZ):∀ {kvs:List (PyData×PyData)} {ks:List (bZ×V)},cZ H kvs ks->(kvs.any fun kv=>dY kv.1 (dQ κ))=ks.any fun kv=>decide (kv.1=κ)
  | [],ks,h=>by rw [h.nil_inv];rfl
  | (k,d)::kvs,ks,h=>by
    obtain ⟨κ',v,r,rfl,rfl,p,t⟩:=h.cons_inv;rw [List.any_cons,List.any_cons,cZ.any κ t,ix]
theorem cZ.repl {H:Hp} (κ:bZ) {d:PyData} {v:V} (hv:Rp H d v):∀ {kvs:List (PyData×PyData)} {ks:List (bZ×V)},cZ H kvs ks ->
    cZ H (kvs.map fun kv=>if dY kv.1 (dQ κ)=true then (kv.1,d) else kv) (ks.map fun kv=>if kv.1=κ then (kv.1,v) else kv)
  | [],ks,h=>by rw [h.nil_inv];simp only [List.map_nil,cZ]
  | (k,d')::kvs,ks,h=>by
    obtain ⟨κ',v',r,rfl,rfl,p,t⟩:=h.cons_inv;rw [List.map_cons,List.map_cons];dsimp only;rw [ix];by_cases e:κ'=κ
    · rw [if_pos (decide_eq_true e),if_pos e];exact cZ.cons rfl hv (cZ.repl κ hv t)
    · rw [if_neg (by rw [decide_eq_false e];exact Bool.false_ne_true),if_neg e];exact cZ.cons rfl p (cZ.repl κ hv t)
theorem cZ.snoc {H:Hp} {κ:bZ} {d:PyData} {v:V} (hv:Rp H d v):∀ {kvs:List (PyData×PyData)} {ks:List (bZ×V)},cZ H kvs ks->cZ H (kvs++[(dQ κ,d)]) (ks++[(κ,v)])
  | [],ks,h=>by rw [h.nil_inv];exact cZ.cons rfl hv (by simp only [cZ])
  | (k,d')::kvs,ks,h=>by
    obtain ⟨κ',v',r,rfl,rfl,p,t⟩:=h.cons_inv;exact cZ.cons rfl p (cZ.snoc hv t)
theorem cZ.put {H:Hp} (κ:bZ) {d:PyData} {v:V} (hv:Rp H d v) {kvs:List (PyData×PyData)} {ks:List (bZ×V)} (h:cZ H kvs ks):cZ H (kK kvs (dQ κ) d) (iF ks κ v):=by
  unfold kK iF;rw [h.any κ];split
  · exact h.repl κ hv
  · exact h.snoc hv
noncomputable def dL (kvs:List (PyData×PyData)) (k:PyData):Option PyData:=(kvs.find? fun kv=>dY kv.1 k).map (·.2)
theorem cZ.look {H:Hp} (κ:bZ):∀ {kvs:List (PyData×PyData)} {ks:List (bZ×V)},cZ H kvs ks->(dL kvs (dQ κ)=none/\iI ks κ=none)\/∃ d v,dL kvs (dQ κ)=some d/\iI ks κ=some v/\Rp H d v
  | [],ks,h=>.inl (by rw [h.nil_inv];exact ⟨rfl,rfl⟩)
  | (k,d)::kvs,ks,h=>by
    obtain ⟨κ',v,r,rfl,rfl,p,t⟩:=h.cons_inv;unfold dL iI;by_cases e:κ'=κ
    · rw [List.find?_cons_of_pos (by rw [ix];exact decide_eq_true e),List.find?_cons_of_pos (by exact decide_eq_true e)];exact .inr ⟨d,v,rfl,rfl,p⟩
    · rw [List.find?_cons_of_neg (by rw [ix,decide_eq_false e];exact Bool.false_ne_true),List.find?_cons_of_neg (by rw [decide_eq_false e];exact Bool.false_ne_true)];exact cZ.look κ t
theorem oH {d:PyData} {κ:bZ} (h:eT d=some κ):d=dQ κ:=by
  cases d <;> simp only [eT] at h <;> cases h <;> rfl
theorem rD {H:Hp} {d:PyData} {x:V} {κ:bZ} (h:fS H d x) (e:eT d=some κ):x=kV κ:=by
  cases d <;> simp only [eT] at e <;> cases e
  · exact aS h
  · exact eX h
theorem rn {H:Hp} {a:Addr} {kvs:List (PyData×PyData)} {ks:List (bZ×V)} {κ:bZ} (h:Rd H a (.dK ks)) (r:cZ H kvs ks):∃ o,kO H a (kV κ) o/\o.isSome=(dL kvs (dQ κ)).isSome/\∀ d,dL kvs (dQ κ)=some d->∃ v,o=some v/\Rp H d v:=by
  refine ⟨iI ks κ,.inl ⟨ks,κ,h,rfl,rfl⟩,?_⟩;rcases r.look κ with ⟨e1,e2⟩ | ⟨d,v,e1,e2,p⟩
  · rw [e1,e2];exact ⟨rfl,fun d z=>by cases z⟩
  · rw [e1,e2];exact ⟨rfl,fun d z=>by cases z;exact ⟨v,rfl,p⟩⟩
noncomputable def mW:PyData->PyData->R PyData
  | .int i,.int j=>.ok (.int (i-j))
  | _,_=>.no
noncomputable def dF:PyData->PyData->R PyData
  | .int i,.int j=>if 0 < j then .ok (.int (i%j)) else .no
  | _,_=>.no
noncomputable def gk:PyData->PyData->R PyData
  | .int i,.int j=>if 0 < j/\j < 1073741824 then .ok (.int (i / j)) else .no
  | _,_=>.no
noncomputable def fF (p:Int->Int->Bool):PyData->PyData->R PyData
  | .int i,.int j=>.ok (.bool (p i j))
  | _,_=>.no
noncomputable def kg (x y:PyData):Bool:=x.canLay0&&y.canLay0&&decide (min x.depth y.depth<=60)
noncomputable def jP (x y:PyData):R PyData:=if kg x y=true then .ok (.bool (PyData.eqv x y)) else .no
noncomputable def pP (x y:PyData):R PyData:=if kg x y=true then .ok (.bool (!PyData.eqv x y)) else .no
noncomputable def kr:PyData->Bool
  | .none=>true
  | _=>false
noncomputable def sO (x y:PyData):R PyData:=if kr y=true then .ok (.bool (kr x)) else .no
noncomputable def rO (xs:List PyData) (d:PyData):Bool:=PyData.canLayAll0 xs&&d.canLay0&&decide (min (PyData.depthAll xs) d.depth<=60)
noncomputable def Ax (neg:Bool) (d:PyData):PyData->R PyData
  | .list xs=>if rO xs d=true then .ok (.bool (if neg then !(xs.any fun y=>PyData.eqv y d) else xs.any fun y=>PyData.eqv y d)) else .no
  | .tuple xs=>if rO xs d=true then .ok (.bool (if neg then !(xs.any fun y=>PyData.eqv y d) else xs.any fun y=>PyData.eqv y d)) else .no
  | .dict kvs=>if gN kvs=true then .no else match eT d with
    | some _=>.ok (.bool (if neg then !(dL kvs d).isSome else (dL kvs d).isSome))
    | none=>.no
  | _=>.no
section
variable {X:Cx} {a b c:Expr} {fa fb fc:Fe} {pos:Pos}
theorem cV {H:Hp} {i:Int}:Rp H (.int i) (.int i):=by simp only [Rp]
theorem eV {H:Hp} {i:Bool}:Rp H (.bool i) (.bl i):=by simp only [Rp]
theorem mS {H:Hp} {i:Str}:Rp H (.str i) (.str i):=by simp only [Rp]
theorem wZ {H:Hp}:Rp H .none .non:=by simp only [Rp]
theorem ym:bS X gj (wE fun i j=>.int (i-j)) mW:=fun H x y dx dy Q hx hy q=>by
  unfold mW at q;split at q
  · exact ⟨_,_,aS hx,aS hy,q _ H (aq.refl _) cV⟩
  · exact q.elim
theorem yC:bS X gj (rI (fun _ j=>0 < j) fun i j=>.int (i%j)) dF:=fun H x y dx dy Q hx hy q=>by
  unfold dF at q;split at q
  · split at q
    · rename_i h;exact ⟨_,_,aS hx,aS hy,h,q _ H (aq.refl _) cV⟩
    · exact q.elim
  · exact q.elim
theorem yj:bS X gj (rI zF fun i j=>.int (i / j)) gk:=fun H x y dx dy Q hx hy q=>by
  unfold gk at q;split at q
  · split at q
    · rename_i h;exact ⟨_,_,aS hx,aS hy,h,q _ H (aq.refl _) cV⟩
    · exact q.elim
  · exact q.elim
theorem ez {p:Int->Int->Bool}:bS X gj (wE fun i j=>.bl (p i j)) (fF p):=fun H x y dx dy Q hx hy q=>by
  unfold fF at q;split at q
  · exact ⟨_,_,aS hx,aS hy,q _ H (aq.refl _) eV⟩
  · exact q.elim
theorem jo (ha:Z.c5 X a fa) (hb:Z.c5 X b fb):Z.cD X (.BinOp a .Sub b pos) (e2 mW fa fb):=⟨have ha:=ha.un;have hb:=hb.un;kG eE yY ym ha hb⟩
theorem bg (ha:Z.c5 X a fa) (hb:Z.c5 X b fb):Z.cD X (.BinOp a .Mod b pos) (e2 dF fa fb):=⟨have ha:=ha.un;have hb:=hb.un;kG eE yt yC ha hb⟩
theorem cS (ha:Z.c5 X a fa) (hb:Z.c5 X b fb):Z.cD X (.BinOp a .FloorDiv b pos) (e2 gk fa fb):=⟨have ha:=ha.un;have hb:=hb.un;kG eE wc yj ha hb⟩
noncomputable abbrev qg:Int->Int->Bool:=fun i j=>decide (i < j)
noncomputable abbrev xN:Int->Int->Bool:=fun i j=>decide (i<=j)
theorem lv (ha:Z.c5 X a fa) (hb:Z.c5 X b fb):Z.pT X (.Compare a [.Lt] [b] pos) (tE (e2 (fF qg) fa fb)):=⟨have ha:=ha.un;have hb:=hb.un;mR o1 ez ha hb (jJ _)⟩
noncomputable def wY (X:Cx) (neg:Bool):R2:=fun x y H Q=>∃ dx dy,fS H dx x/\fS H dy y/\kg dx dy=true/\Q (.bl (if neg then !PyData.eqv dx dy else PyData.eqv dx dy)) H
theorem lh {x y:PyData} (h:kg x y=true):x.canLay0=true/\y.canLay0=true/\min x.depth y.depth<=60:=by
  unfold kg at h;rw [Bool.and_eq_true,Bool.and_eq_true,decide_eq_true_eq] at h;exact ⟨h.1.1,h.1.2,h.2⟩
theorem vB (hu:X.A.units+64 < cLine):gT X (compareOp .Eq) (wY X false):=by
  intro pins s σ H x y v u Q I rx ry h;obtain ⟨dx,dy,hx,hy,ho,q⟩:=h;obtain ⟨c1,c2,c3⟩:=lh ho;obtain ⟨as,r1⟩:=iy I.hok c1 hx rx;obtain ⟨bs,r2⟩:=iy I.hok c2 hy ry;exact PySem.SeqAt.compareEq_reads r1 r2 c1 c2 (by omega) ⟨.bl _,H,I,rfl,q⟩
theorem uL (hu:X.A.units+64 < cLine):gT X (compareOp .NotEq) (wY X true):=by
  intro pins s σ H x y v u Q I rx ry h;obtain ⟨dx,dy,hx,hy,ho,q⟩:=h;obtain ⟨c1,c2,c3⟩:=lh ho;obtain ⟨as,r1⟩:=iy I.hok c1 hx rx;obtain ⟨bs,r2⟩:=iy I.hok c2 hy ry;exact PySem.SeqAt.compareNe_reads r1 r2 c1 c2 (by omega) ⟨.bl _,H,I,rfl,q⟩
theorem xC:bS X gj (wY X false) jP:=fun H x y dx dy Q hx hy q=>by
  unfold jP at q;split at q
  · rename_i h;exact ⟨dx,dy,hx,hy,h,q _ H (aq.refl _) eV⟩
  · exact q.elim
theorem xM:bS X gj (wY X true) pP:=fun H x y dx dy Q hx hy q=>by
  unfold pP at q;split at q
  · rename_i h;exact ⟨dx,dy,hx,hy,h,q _ H (aq.refl _) eV⟩
  · exact q.elim
theorem km (hu:X.A.units+64 < cLine) (ha:Z.c5 X a fa) (hb:Z.c5 X b fb):Z.cD X (.Compare a [.Eq] [b] pos) (e2 jP fa fb):=⟨have ha:=ha.un;have hb:=hb.un;qh (vB hu) xC ha hb (jJ _)⟩
theorem v7 (hu:X.A.units+64 < cLine) (ha:Z.c5 X a fa) (hb:Z.c5 X b fb):Z.cD X (.Compare a [.NotEq] [b] pos) (e2 pP fa fb):=⟨have ha:=ha.un;have hb:=hb.un;qh (uL hu) xM ha hb (jJ _)⟩
theorem fw (hu:X.A.units+64 < cLine) (ha:Z.c5 X a fa) (hb:Z.c5 X b fb):Z.pT X (.Compare a [.Eq] [b] pos) (tE (e2 jP fa fb)):=⟨have ha:=ha.un;have hb:=hb.un;mR (vB hu) xC ha hb (jJ _)⟩
theorem kP (hu:X.A.units+64 < cLine) (ha:Z.c5 X a fa) (hb:Z.c5 X b fb):Z.pT X (.Compare a [.NotEq] [b] pos) (tE (e2 pP fa fb)):=⟨have ha:=ha.un;have hb:=hb.un;mR (uL hu) xM ha hb (jJ _)⟩
theorem wf {H:Hp} {d:PyData} {x:V} (h:fS H d x):decide (x=.non)=kr d:=by
  cases d with
  | none=>rw [k6 h];rfl
  | bool b=>rw [jg h];rfl
  | int i=>rw [aS h];rfl
  | str y=>rw [eX h];rfl
  | tuple ds=>obtain ⟨a,vs,rfl,_⟩:=dg h;rfl
  | list ds=>obtain ⟨a,vs,rfl,_⟩:=dU (K:=default) h;rfl
  | dict kvs=>obtain ⟨a,rfl⟩:=u8 h;rfl
theorem yg:bS X gj (fun x y H Q=>y=.non/\Q (.bl (decide (x=.non))) H) sO:=fun H x y dx dy Q hx hy q=>by
  unfold sO at q;split at q
  · rename_i h;cases dy <;> simp only [kr,Bool.false_eq_true] at h;exact ⟨k6 hy,by rw [wf hx];exact q _ H (aq.refl _) eV⟩
  · exact q.elim
theorem oK (ha:Z.c5 X a fa) (hb:Z.c5 X b fb):Z.cD X (.Compare a [.Is] [b] pos) (e2 sO fa fb):=⟨have ha:=ha.un;have hb:=hb.un;qh yL yg ha hb (jJ _)⟩
end
inductive oP where
  | nx (ρ:aI)
  | rt (d:PyData)
  | bk (ρ:aI)
  | ct (ρ:aI)
noncomputable abbrev Fs:=aI->R oP
structure gw (Fm H:Hp) (σ:St) (ρ:aI):Prop where
  fm:aq Fm H
  sl:Sl H σ ρ
  own:∀ (i:Nat) (d:PyData) (a:Addr),ρ[i]?=some (.own d)->σ[i]?=some (some (.ref a))->Fm a=none
  apart:∀ (i j:Nat) (d e:PyData) (a:Addr),ρ[i]?=some (.own d)->ρ[j]?=some (.own e)->σ[i]?=some (some (.ref a))->σ[j]?=some (some (.ref a))->i=j
theorem gw.mono {Fm H H':Hp} {σ:St} {ρ:aI} (h:gw Fm H σ ρ) (s:aq H H'):gw Fm H' σ ρ:=⟨h.fm.trans s,h.sl.mono s,h.own,h.apart⟩
noncomputable def yP (X:Cx) (Fm:Hp) (r:R oP) (D:mT):Prop :=
  match r with
  | .ok (.nx ρ)=>∀ σ H,gw Fm H σ ρ->D.nx σ H
  | .ok (.rt d)=>∀ v H,aq Fm H->Rp H d v->D.rt v H
  | .ok (.bk ρ)=>∀ σ H,gw Fm H σ ρ->D.bk σ H
  | .ok (.ct ρ)=>∀ σ H,gw Fm H σ ρ->D.ct σ H
  | .ex c=>Xw X c Fm/\zG X c Fm
  | .no=>False
noncomputable def tH (X:Cx) (Fm:Hp) (g:Fs):TS:=fun D σ H=>∃ ρ,gw Fm H σ ρ/\yP X Fm (g ρ) D
noncomputable def jY (X:Cx) (st:Stmt) (g:Fs):Prop:=∀ Fm,PS X st (tH X Fm g)
structure Z.jY (X:Cx) (st:Stmt) (g:Fs):Prop where
  un:D2.jY X st g
noncomputable def kf (X:Cx) (st:List Stmt) (g:Fs):Prop:=∀ Fm,nX X st (tH X Fm g)
structure Z.kf (X:Cx) (st:List Stmt) (g:Fs):Prop where
  un:D2.kf X st g
theorem PS.imp {X:Cx} {e:Stmt} {t t':TS} (h:PS X e t) (i:∀ D σ H,t' D σ H->t D σ H):PS X e t':=fun pins s σ H D I q=>h pins s σ H D I (i D σ H q)
theorem nX.imp {X:Cx} {e:List Stmt} {t t':TS} (h:nX X e t) (i:∀ D σ H,t' D σ H->t D σ H):nX X e t':=fun pins s σ H D I q=>h pins s σ H D I (i D σ H q)
section
variable {X:Cx} {Fm:Hp} {σ:St} {H:Hp} {D:mT}
theorem qE {P:Hp->Hp->PyData->V->Prop} {f:Fe} {k:aI->PyData->R oP} (h:tH X Fm (fun ρ=>f ρ>>=k ρ) D σ H) :
    gS X P f σ H (fun v H1=>∃ ρ d,gw Fm H1 σ ρ/\aq H H1/\P H H1 d v/\yP X Fm (k ρ d) D):=by
  obtain ⟨ρ,sl,q⟩:=h;refine ⟨ρ,sl.sl,?_⟩;dsimp only at q;cases e:f ρ with
  | ok d=>rw [e] at q;exact fun v H1 s p=>⟨ρ,d,sl.mono s,s,p,q⟩
  | ex c=>rw [e] at q;exact q.1.mono sl.fm
  | no=>rw [e] at q;exact q
theorem wX {f:aI->R Bool} {k:aI->Bool->R oP} (h:tH X Fm (fun ρ=>f ρ>>=k ρ) D σ H):vY X f σ H (fun b H1=>∃ ρ,gw Fm H1 σ ρ/\aq H H1/\yP X Fm (k ρ b) D):=by
  obtain ⟨ρ,sl,q⟩:=h;refine ⟨ρ,sl.sl,?_⟩;dsimp only at q;cases e:f ρ with
  | ok d=>rw [e] at q;exact fun H1 s=>⟨ρ,sl.mono s,s,q⟩
  | ex c=>rw [e] at q;exact q.1.mono sl.fm
  | no=>rw [e] at q;exact q
end
noncomputable def bX:Fs:=fun ρ=>.ok (.nx ρ)
noncomputable def qX (h:Fs):oP->R oP
  | .nx ρ=>h ρ
  | o=>.ok o
noncomputable def aU (g h:Fs):Fs:=fun ρ=>g ρ>>=qX h
noncomputable def iE (t:aI->R Bool) (g h:Fs):Fs:=fun ρ=>t ρ>>=fun b=>if b=true then g ρ else h ρ
noncomputable def cq (f:Fe):Fs:=fun ρ=>f ρ>>=fun d=>.ok (.rt d)
noncomputable def cm (i:Nat) (f:Fe):Fs:=fun ρ=>f ρ>>=fun d=>.ok (.nx (ρ.set i (.val d)))
noncomputable def i6 (i:Nat) (f:Fe):Fs:=fun ρ=>f ρ>>=fun d=>.ok (.nx (ρ.set i (.own d)))
section
variable {X:Cx} {nl:Nat} {G:List Str} {st:Stmt} {sts:List Stmt} {g h:Fs} {f:Fe} {e:Expr} {pos pos':Pos} {x:Str}
theorem bh  : Z.kf X [] bX:=⟨fun Fm=>nX.imp wH fun D σ H ⟨ρ,sl,q⟩=>q σ H sl⟩
theorem aj (h1:Z.jY X st g) (h2:Z.kf X sts h):Z.kf X (st::sts) (aU g h):=⟨have h1:=h1.un;have h2:=h2.un;fun Fm=>by
  refine nX.imp (uh (h1 Fm) (h2 Fm)) fun D σ H ⟨ρ,sl,q⟩=>⟨ρ,sl,?_⟩
  unfold aU at q;cases e:g ρ with
  | ex c=>rw [e] at q;exact q
  | no=>rw [e] at q;exact q
  | ok o =>
    rw [e] at q;cases o with
    | nx ρ'=>exact fun σ' H' s'=>⟨ρ',s',q⟩
    | rt d=>exact q
    | bk ρ'=>exact q
    | ct ρ'=>exact q⟩
theorem am (h1:Z.jY X st g):Z.kf X [st] g:=⟨have h1:=h1.un;fun Fm=>w8 (h1 Fm)⟩
theorem ar (he:Z.cD X e f):Z.jY X (.Return (some e) pos) (cq f):=⟨have he:=he.un;fun Fm =>
  PS.imp (qt he) fun D σ H h=>(qE (P:=gj) (f:=f) (k:=fun _ d=>.ok (.rt d)) h).post fun v H1 ⟨ρ,d,sl,_,p,q⟩=>q v H1 sl.fm p⟩
theorem bI {c:Expr} {a b:List Stmt} {t:aI->R Bool} (hc:Z.pT X c t) (ha:Z.kf X a g) (hb:Z.kf X b h):Z.jY X (.If c a b pos) (iE t g h):=⟨have hc:=hc.un;have ha:=ha.un;have hb:=hb.un;fun Fm =>
  PS.imp (zK hc (ha Fm) (hb Fm)) fun D σ H q=>(wX (f:=t) (k:=fun ρ b=>if b=true then g ρ else h ρ) q).post fun b H1 ⟨ρ,sl,_,q⟩=>by
    cases b with
    | true=>exact ⟨ρ,sl,q⟩
    | false=>exact ⟨ρ,sl,q⟩⟩
theorem Sl.set {H:Hp} {σ:St} {ρ:aI} {c:cg} {o:Option V} (h:Sl H σ ρ) (i:Nat) (hc:gV H c o):Sl H (σ.set i o) (ρ.set i c):=by
  refine ⟨by rw [List.length_set,List.length_set];exact h.1,fun j c' o' h1 h2=>?_⟩;rw [List.getElem?_set] at h1 h2;by_cases hij:i=j
  · rw [if_pos hij] at h1 h2;by_cases hi:i < ρ.length
    · rw [if_pos hi] at h1;rw [if_pos (by rw [h.1];exact hi)] at h2;cases h1;cases h2;exact hc
    · rw [if_neg hi] at h1;cases h1
  · rw [if_neg hij] at h1 h2;exact h.2 j c' o' h1 h2
theorem c8 {ρ:aI} {i j:Nat} {c:cg} {d:PyData} (hc:∀ e,c≠.own e) (h:(ρ.set i c)[j]?=some (.own d)):i≠j/\ρ[j]?=some (.own d):=by
  rw [List.getElem?_set] at h;by_cases hij:i=j
  · rw [if_pos hij] at h;split at h
    · exact absurd (Option.some.inj h) (hc d)
    · cases h
  · rw [if_neg hij] at h;exact ⟨hij,h⟩
theorem gw.set {Fm H:Hp} {σ:St} {ρ:aI} {c:cg} {o:Option V} (h:gw Fm H σ ρ) (i:Nat) (hn:∀ e,c≠.own e) (hc:gV H c o):gw Fm H (σ.set i o) (ρ.set i c):=by
  refine ⟨h.fm,h.sl.set i hc,fun j d a h1 h2=>?_,fun j k d e a h1 h2 h3 h4=>?_⟩
  · obtain ⟨ne,h1⟩:=c8 hn h1;rw [List.getElem?_set,if_neg ne] at h2;exact h.own j d a h1 h2
  · obtain ⟨ne,h1⟩:=c8 hn h1;obtain ⟨ne',h2⟩:=c8 hn h2;rw [List.getElem?_set,if_neg ne] at h3;rw [List.getElem?_set,if_neg ne'] at h4;exact h.apart j k d e a h1 h2 h3 h4
theorem nD {H:Hp} {d:PyData} {v:V} (h:gQ H d v):∃ a o,v=.ref a/\H a=some o:=by
  cases d <;> simp only [gQ] at h
  · obtain ⟨a,vs,e,ha,_⟩:=h;exact ⟨a,_,e,ha⟩
  · obtain ⟨a,vs,e,ha,_⟩:=h;exact ⟨a,_,e,ha⟩
theorem gw.setOwn {Fm H0 H:Hp} {σ:St} {ρ:aI} {d:PyData} {v:V} (h0:gw Fm H0 σ ρ) (h:gw Fm H σ ρ) (hs:aq H0 H) (i:Nat) (hn:yb H0 H d v):gw Fm H (σ.set i (some v)) (ρ.set i (.own d)):=by
  obtain ⟨p,a,rfl,ha⟩:=hn;have old:∀ (j:Nat) (e:PyData) (b:Addr),i≠j->(ρ.set i (.own d))[j]?=some (.own e)->(σ.set i (some (.ref a)))[j]?=some (some (.ref b))->ρ[j]?=some (.own e)/\σ[j]?=some (some (.ref b)):=fun j e b ne h1 h2=>by
    rw [List.getElem?_set,if_neg ne] at h1 h2;exact ⟨h1,h2⟩
  have notA:∀ (j:Nat) (e:PyData),ρ[j]?=some (.own e)->σ[j]?=some (some (.ref a))->False:=fun j e h1 h2=>by
    obtain ⟨u,e1,q⟩:=h0.sl.2 j _ _ h1 h2;cases e1;obtain ⟨b,o,e2,hb⟩:=nD q;cases e2;rw [ha] at hb;cases hb
  have here:∀ (b:Addr),(σ.set i (some (.ref a)))[i]?=some (some (.ref b))->b=a:=fun b h2=>by
    rw [List.getElem?_set,if_pos rfl] at h2;split at h2
    · cases h2;rfl
    · cases h2
  refine ⟨h.fm,h.sl.set i ⟨_,rfl,p⟩,fun j e b h1 h2=>?_,fun j k e f b h1 h2 h3 h4=>?_⟩
  · by_cases hij:i=j
    · subst hij;rw [here b h2];exact (h0.fm).free ha
    · obtain ⟨h1,h2⟩:=old j e b hij h1 h2;exact h.own j e b h1 h2
  · by_cases hij:i=j
    · subst hij;have eb:=here b h3;by_cases hik:i=k
      · exact hik
      · obtain ⟨h2,h4⟩:=old k f b hik h2 h4;rw [eb] at h4;exact (notA k f h2 h4).elim
    · obtain ⟨h1,h3⟩:=old j e b hij h1 h3;by_cases hik:i=k
      · subst hik;have eb:=here b h4;rw [eb] at h3;exact (notA j e h1 h3).elim
      · obtain ⟨h2,h4⟩:=old k f b hik h2 h4;exact h.apart j k e f b h1 h2 h3 h4
theorem aF (T:Tb X nl G) (i:Nat) (hN:(X.N.take nl)[i]?=some x) (he:Z.cD X e f) (hs:swapsWith e (some (.Name x pos')) pos.line X.env=pure false:=by rfl):Z.jY X (.Assign [.Name x pos'] e pos) (cm i f):=⟨have he:=he.un;fun Fm=>by
  have hm:=T.loc x (List.mem_of_getElem? hN);have hi:X.N[i]?=some x:=by
    rw [List.getElem?_take] at hN;split at hN
    · exact hN
    · cases hN
  exact PS.imp (vo T.nd hi hm.1 he hs hm.2) fun D σ H h=>(qE (P:=gj) (f:=f) (k:=fun ρ d=>.ok (.nx (ρ.set i (.val d)))) h).post fun v H1 ⟨ρ,d,sl,_,p,q⟩ =>
    q _ H1 (sl.set i (fun e z=>by cases z) ⟨v,rfl,p⟩)⟩
theorem lK (T:Tb X nl G) (i:Nat) (hN:(X.N.take nl)[i]?=some x) (he:Z.k7 X e f) (hs:swapsWith e (some (.Name x pos')) pos.line X.env=pure false:=by rfl):Z.jY X (.Assign [.Name x pos'] e pos) (i6 i f):=⟨have he:=he.un;fun Fm=>by
  have hm:=T.loc x (List.mem_of_getElem? hN);have hi:X.N[i]?=some x:=by
    rw [List.getElem?_take] at hN;split at hN
    · exact hN
    · cases hN
  refine PS.imp (vo T.nd hi hm.1 he hs hm.2) fun D σ H h=>?_
  obtain ⟨ρ0,sl0,q0⟩:=h;refine ⟨ρ0,sl0.sl,?_⟩;unfold i6 at q0;cases ef:f ρ0 with
  | ex c=>rw [ef] at q0;exact q0.1.mono sl0.fm
  | no=>rw [ef] at q0;exact q0
  | ok d =>
    rw [ef] at q0;exact fun v H1 s p=>q0 _ H1 (gw.setOwn sl0 (sl0.mono s) s i p)⟩
end
structure yq (J:It) (Gd:Hp->Prop) (ds:List PyData):Prop where
  go:∀ i H,Gd H->i < ds.length->J.go i H
  yld:∀ i H x H' d,Gd H->ds[i]?=some d->J.yld i H x H'->aq H H'/\Rp H' d x
  stop:∀ i H,Gd H->ds.length<=i->J.stop i H
noncomputable def An (H0:Hp) (B:Addr->Prop) (Gd:Hp->Prop):Prop:=∀ H,Kp H0 H->(∀ b o,B b->H0 b=some o->H b=some o)->Gd H
noncomputable def Be (X:Cx) (f:aI->R (List PyData)):TI:=fun σ H Rk=>∃ ρ,Sl H σ ρ/\match f ρ with
  | .ok ds=>∀ J H',aq H H'->(∃ Gd,yq J Gd ds/\An H' (fun _=>False) Gd)->Rk J H'
  | .ex c=>Xw X c H
  | .no=>False
noncomputable def re (X:Cx) (tg iter:Expr) (f:aI->R (List PyData)):Prop:=PI X tg iter (Be X f)
structure Z.re (X:Cx) (tg iter:Expr) (f:aI->R (List PyData)):Prop where
  un:D2.re X tg iter f
noncomputable def Bb (X:Cx) (b:PyData->aI->Option aI):TG:=fun v σ H Q=>∃ ρ d,Sl H σ ρ/\Rp H d v/\match b d ρ with
  | some ρ'=>∀ σ',Sl H σ' ρ'->(∀ (i:Nat) (e:PyData),ρ'[i]?=some (.own e)->ρ[i]?=some (.own e)/\σ'[i]?=σ[i]?)->Q σ' H
  | none=>False
noncomputable def sj (X:Cx) (tg:Expr) (b:PyData->aI->Option aI):Prop:=PG X tg (Bb X b)
structure Z.sj (X:Cx) (tg:Expr) (b:PyData->aI->Option aI):Prop where
  un:D2.sj X tg b
noncomputable def bn (i:Nat):PyData->aI->Option aI:=fun d ρ=>some (ρ.set i (.val d))
theorem PG.imp {X:Cx} {e:Expr} {t t':TG} (h:PG X e t) (i:∀ v σ H Q,t' v σ H Q->t v σ H Q):PG X e t':=fun pins s σ H v u Q I r q=>h pins s σ H v u Q I r (i v σ H Q q)
theorem PI.imp {X:Cx} {tg e:Expr} {t t':TI} (h:PI X tg e t) (i:∀ σ H Q,t' σ H Q->t σ H Q):PI X tg e t':=fun pins s σ H Q I q=>h pins s σ H Q I (i σ H Q q)
section
variable {X:Cx} {nl:Nat} {G:List Str} {x:Str} {pos:Pos}
theorem Tb.nm (T:Tb X nl G) {i:Nat} (hN:(X.N.take nl)[i]?=some x):X.N[i]?=some x/\yr X.env.scope x/\(X.fn x=true\/X.env.scope.names.lookup x=some .local):=by
  have hm:=T.loc x (List.mem_of_getElem? hN);have hi:X.N[i]?=some x:=by
    rw [List.getElem?_take] at hN;split at hN
    · exact hN
    · cases hN
  exact ⟨hi,hm⟩
theorem bK (T:Tb X nl G) (i:Nat) (hN:(X.N.take nl)[i]?=some x):Z.sj X (.Name x pos) (bn i):=⟨by
  obtain ⟨hi,h1,h2⟩:=T.nm hN;refine PG.imp (wR T.nd hi h1 h2) fun v σ H Q ⟨ρ,d,sl,p,q⟩=>?_
  refine q _ (sl.set i ⟨v,rfl,p⟩) fun j e h=>?_
  obtain ⟨ne,h⟩:=c8 (fun e z=>by cases z) h;exact ⟨h,by rw [List.getElem?_set,if_neg ne]⟩⟩
end
noncomputable def gf (b:PyData->aI->Option aI) (g:Fs):List PyData->Fs
  | [],ρ=>.ok (.nx ρ)
  | d::ds,ρ=>match b d ρ with
    | none=>.no
    | some ρ1=>g ρ1>>=fun o=>match o with
      | .nx ρ2=>gf b g ds ρ2
      | .ct ρ2=>gf b g ds ρ2
      | .bk ρ2=>.ok (.nx ρ2)
      | .rt r=>.ok (.rt r)
noncomputable def nN (it:aI->R (List PyData)) (b:PyData->aI->Option aI) (g:Fs):Fs:=fun ρ=>it ρ>>=fun ds=>gf b g ds ρ
noncomputable def stab (Fm H:Hp):Hp:=fun b=>match H b with
  | some (.tup xs)=>some (.tup xs)
  | some (.frz o u)=>some (.frz o u)
  | _=>Fm b
theorem rV {Fm H:Hp} (h:aq Fm H):aq (stab Fm H) H:=fun b o e=>by
  unfold stab at e;split at e
  · rename_i q;rw [q];exact e
  · rename_i q;rw [q];exact e
  · exact h b o e
theorem wg {Fm H:Hp}:Kp H (stab Fm H):=⟨fun b xs e=>by unfold stab;rw [e],fun b o u e=>by unfold stab;rw [e]⟩
theorem vN {Fm H:Hp} (h:aq Fm H):aq Fm (stab Fm H):=fun b o e=>by
  have:=h b o e;unfold stab;split
  · rename_i q;rw [this] at q;exact q.symm
  · rename_i q;rw [this] at q;exact q.symm
  · exact e
theorem gw.stab {Fm H:Hp} {σ:St} {ρ:aI} (h:gw Fm H σ ρ):gw (stab Fm H) H σ ρ:=by
  refine ⟨rV h.fm,h.sl,fun i d a h1 h2=>?_,h.apart⟩;have f:=h.own i d a h1 h2;obtain ⟨u,e1,q⟩:=h.sl.2 i _ _ h1 h2;cases e1;unfold D2.stab;cases d <;> simp only [gQ] at q
  · obtain ⟨b,vs,e,hb,_⟩:=q;cases e;rw [hb];exact f
  · obtain ⟨b,vs,e,hb,_⟩:=q;cases e;rw [hb];exact f
theorem gw.unstab {Fm F H:Hp} {σ:St} {ρ:aI} (hF:aq Fm F) (h:gw F H σ ρ):gw Fm H σ ρ:=⟨hF.trans h.fm,h.sl,fun i d a h1 h2=>hF.free (h.own i d a h1 h2),h.apart⟩
theorem gc {X:Cx} {tg iter:Expr} {body:List Stmt} {it:aI->R (List PyData)} {b:PyData->aI->Option aI} {g:Fs} {pos:Pos} (hp:PassesOwn (model X.prog X.w) X.A X.env X.xe) (hc:X.calm=true) (hi:Z.re X tg iter it) (hg:Z.sj X tg b) (hb:Z.kf X body g) (hs:∀ x,foldedSetIterable iter X.env x=pure x:=by intro _;rfl):Z.jY X (.For tg iter body [] pos) (nN it b g):=⟨have hi:=hi.un;have hg:=hg.un;have hb:=hb.un;fun Fm=>by
  intro pins s σ H D I h;obtain ⟨ρ,sl,q⟩:=h;unfold nN at q
  -- the frame: what is stable at the loop's gR is only known behind the iterator's making: the body is taken at every frame
  refine xX (wi:=Be X it) (g:=Bb X b) (tb:=fun D' σ' H'=>∃ F,tH X F g D' σ' H') hp hc hi hg (fun pins' s' σ' H' D' I' ⟨F,q'⟩=>hb F pins' s' σ' H' D' I' q') hs pins s σ H D I ?_;refine ⟨ρ,sl.sl,?_⟩;cases ei:it ρ with
  | ex c=>rw [ei] at q;exact q.1.mono sl.fm
  | no=>rw [ei] at q;exact q
  | ok ds =>
    rw [ei] at q;intro J H1 s1 ⟨Gd,idt,sta⟩;have sl1:=sl.mono s1;let F:=stab Fm H1
    have hF:aq Fm F:=vN sl1.fm
    -- the word: so many items are taken,and the dn gives what the whole gives
    refine ⟨fun i m σ' H'=>m=ds.length-i/\i<=ds.length/\∃ ρ',gw F H' σ' ρ'/\yP X Fm (gf b g (ds.drop i) ρ') D,⟨ds.length,by simp,Nat.zero_le _,ρ,sl1.stab,by simpa using q⟩,?_⟩;rintro i m σ2 H2 ⟨rfl,hi',ρ2,sl2,q2⟩;have gd:Gd H2:=sta H2 (Kp.trans wg (Kp.of sl2.fm)) fun _ _ z=>z.elim
    by_cases hlt:i < ds.length
    · refine .inr ⟨idt.go i H2 gd hlt,fun σ' H'=>i+1<=ds.length/\∃ ρ',gw F H' σ' ρ'/\yP X Fm (gf b g (ds.drop (i+1)) ρ') D,fun σ' H' ⟨z,p⟩=>⟨ds.length-(i+1),by omega,rfl,z,p⟩,fun x H3 y=>?_⟩;obtain ⟨d,hd⟩:∃ d,ds[i]?=some d:=⟨ds[i],List.getElem?_eq_getElem hlt⟩
      obtain ⟨s3,p3⟩:=idt.yld i H2 x H3 d gd hd y;have hdrop:ds.drop i=d::ds.drop (i+1):=by
        rw [List.drop_eq_getElem_cons hlt];congr 1;exact Option.some.inj ((List.getElem?_eq_getElem hlt).symm.trans hd)
      rw [hdrop] at q2;unfold gf at q2;have kn:=sl2.mono s3;refine ⟨ρ2,d,kn.sl,p3,?_⟩;cases eb:b d ρ2 with
      | none=>rw [eb] at q2;exact q2
      | some ρ3 =>
        rw [eb] at q2;intro σ4 sl4 hown;refine ⟨F,ρ3,⟨kn.fm,sl4,fun j e a h1 h2=>?_,fun j k e f a h1 h2 h3 h4=>?_⟩,?_⟩
        · obtain ⟨z1,z2⟩:=hown j e h1;exact kn.own j e a z1 (by rw [<- z2];exact h2)
        · obtain ⟨z1,z2⟩:=hown j e h1;obtain ⟨z3,z4⟩:=hown k f h2;exact kn.apart j k e f a z1 z3 (by rw [<- z2];exact h3) (by rw [<- z4];exact h4)
        · have q3:yP X Fm (g ρ3>>=fun o=>match o with
            | .nx ρ2=>gf b g (ds.drop (i+1)) ρ2
            | .ct ρ2=>gf b g (ds.drop (i+1)) ρ2
            | .bk ρ2=>.ok (.nx ρ2)
            | .rt r=>.ok (.rt r)) D:=q2
          cases eg:g ρ3 with
          | ex c=>rw [eg] at q3;exact ⟨q3.1.mono hF,q3.2.mono hF⟩
          | no=>rw [eg] at q3;exact q3
          | ok o =>
            rw [eg] at q3;cases o with
            | nx ρ4=>exact fun σ' H' s'=>⟨hlt,ρ4,s',q3⟩
            | ct ρ4=>exact fun σ' H' s'=>⟨hlt,ρ4,s',q3⟩
            | bk ρ4=>exact fun σ' H' s'=>q3 σ' H' (s'.unstab hF)
            | rt r=>exact fun v H' s' p'=>q3 v H' (hF.trans s') p'
    · have e:i=ds.length:=by omega
      subst e;refine .inl ⟨idt.stop _ H2 gd (Nat.le_refl _),?_⟩;rw [List.drop_length] at q2;exact q2 σ2 H2 (sl2.unstab hF)⟩
noncomputable def dX (n:Nat) (g:Fs):List PyData->R PyData:=fun ds=>g (ds.map cg.val++List.replicate (n-ds.length) .non)>>=fun o=>match o with
  | .rt d=>.ok d
  | .nx _=>.ok .none
  | _=>.no
noncomputable def dR (F:List PyData->R PyData) (n:Nat):Sp:=fun vs H Q E=>∃ ds,br H ds vs/\ds.length=n/\match F ds with
  | .ok d=>∀ v H',aq H H'->Rp H' d v->Q v H'
  | .ex c=>∀ H',aq H H'->E (.str c 0) none H'
  | .no=>False
theorem vc {H:Hp} {N:List Str}:∀ {ds:List PyData} {vs:List V},br H ds vs->Sl H (L2.gR N vs) (ds.map cg.val++List.replicate (N.length-ds.length) .non):=fun {ds vs} r=>by
  have hl:=r.length;refine ⟨by unfold L2.gR;rw [List.length_append,List.length_append,List.length_map,List.length_map,List.length_replicate,List.length_replicate,hl],fun i c o h1 h2=>?_⟩;by_cases hi:i < ds.length
  · rw [List.getElem?_append_left (by simpa using hi),List.getElem?_map] at h1;cases e:ds[i]? with
    | none=>rw [e] at h1;cases h1
    | some d =>
      rw [e] at h1;cases h1;obtain ⟨v,e1,p⟩:=r.get e;unfold L2.gR at h2;rw [List.getElem?_append_left (by rw [List.length_map,hl];exact hi),List.getElem?_map,e1] at h2;cases h2;exact ⟨v,rfl,p⟩
  · rw [List.getElem?_append_right (by simpa using hi),List.getElem?_replicate] at h1;split at h1
    · cases h1;exact True.intro
    · cases h1
section
variable {P:Program} {w:World} {H:Hp} {h:Heap} {a:Addr}
theorem qi:∀ {o:HO},bY P w H h a o->∃ u,h.get? a=some u
  | .lst xs,x=>by obtain ⟨_,_,_,_,e⟩:=x;exact ⟨_,e⟩
  | .tup xs,x=>by obtain ⟨_,_,_,o,e,_⟩:=x;exact ⟨_,e⟩
  | .dK kvs,x=>by obtain ⟨_,_,_,_,o,_,_,e,_⟩:=x;exact ⟨_,e⟩
  | .dT kvs,x=>by obtain ⟨_,_,_,_,o,_,_,e,_⟩:=x;exact ⟨_,e⟩
  | .set S n,x=>by obtain ⟨o,_,_,_,e,_⟩:=x;exact ⟨_,e⟩
  | .ins C dx fs,x=>by obtain ⟨_,_,_,e,_⟩:=x;exact ⟨_,e⟩
  | .own y,x=>by obtain ⟨_,e⟩:=x;exact ⟨_,e⟩
  | .xd fs,x=>by obtain ⟨_,⟨_,_,_,e,_⟩,_⟩:=x;exact ⟨_,e⟩
  | .rng lo hi,x=>by obtain ⟨_,_,_,e⟩:=x;exact ⟨_,e⟩
  | .frz ob u,x=>by obtain ⟨e,_⟩:=x;exact ⟨_,e⟩
  | .tbl ps,x=>⟨_,(show h.get? a=some _ from x)⟩
  | .met f y,x=>⟨_,(show h.get? a=some _ from x)⟩
  | .ext φ,x=>by obtain ⟨_,⟨_,e⟩,_⟩:=x;exact ⟨_,e⟩
end
theorem nJ.un {P:Program} {w:World} {outer:List Env} {H H':Hp} {s s':Shared} {C:Addr} {e:Value} (f:nJ P w outer H s C H' e s'):Un (ja outer) [] H H' s.heap s'.heap:=by
  obtain ⟨p,a0,B,_,fl,ok,_,cov⟩:=f.ex;refine ⟨fun b o q n hb _=>fl.1 _ _ (cov b o q n hb).1,fun b o q n hb _=>(f.slot b o q n hb).1,fun b o q n _=>?_,fun b o q _=>?_,fun b xs q=>f.same _ _ q,fun b o u q=>f.same _ _ q,fun b ps q=>⟨#[],by rw [f.same _ _ q];simp⟩⟩
  · by_cases hb:b∈ja outer
    · exact (f.slot b o q n hb).2
    · exact (cov b o q n hb).2
  · cases n:H b with
    | none =>
      by_cases hb:b∈ja outer
      · obtain ⟨sl,z⟩:=(f.slot b o q n hb).1;exact ⟨_,z⟩
      · exact ⟨o,fl.1 _ _ (cov b o q n hb).1⟩
    | some u =>
      obtain ⟨o',z⟩:=qi (ok b u (f.same _ _ n));exact ⟨o',fl.1 _ _ z⟩
theorem nJ.hok {P:Program} {w:World} {outer:List Env} {H H':Hp} {s s':Shared} {C:Addr} {e:Value} (f:nJ P w outer H s C H' e s'):fI P w H' s'.heap:=by
  obtain ⟨p,a0,B,_,fl,ok,_,_⟩:=f.ex;exact ok.kept fun b u q=>fl.1 b u q
theorem jW.un {P:Program} {w:World} {outer:List Env} {H H':Hp} {s s':Shared} {C:Addr} {e:Value} (f:jW P w outer H s C H' e s'):Un (ja outer) [] H H' s.heap s'.heap:=f.hld.un
theorem jW.hok {P:Program} {w:World} {outer:List Env} {H H':Hp} {s s':Shared} {C:Addr} {e:Value} (f:jW P w outer H s C H' e s'):fI P w H' s'.heap:=f.hld.hok
theorem nJ.inv {X:Cx} {pins:List (Addr×Obj)} {σ:St} {Hc H1:Hp} {sc s':Shared} {C:Addr} {e:Value} (f:nJ X.prog X.w X.stack Hc sc C H1 e s') (I:ay X pins σ Hc sc):ay X pins σ H1 s' :=
  I.call' f.os f.un f.hok f.bare fun b z=>absurd z (by simp)
section
variable {P:Program} {w:World} {l:List Env} {H H':Hp} {s s':Shared} {C p:Addr} {e:Value}
theorem nJ.again {a0:Value} {B h':Heap} (f:nJ P w l H s C H' e s') (t:oQ B l p (.ref C) a0 s'.heap) (t':oQ B l p (.ref C) a0 h') (up:s'.heap.UpToSlots h') (okB:fI P w H' B) (hp:H' p=none)
    (cov:∀ b o,s.heap.get? b=some o->H b=none->b∉ja l->B.get? b=some o/\H' b=none):nJ P w l H s C H' (.ref p) { s' with heap:=h' }:=by
  refine ⟨f.os,f.bare,f.same,⟨p,a0,B,rfl,t',okB,hp,cov⟩,fun b o q n hb=>?_⟩;obtain ⟨⟨sl,q2⟩,n2⟩:=f.slot b o q n hb;obtain ⟨_,o3,q3,nf⟩:=t.2.2.1.mem hb;rw [q2] at q3;cases q3;obtain ⟨kn,q4⟩:=up b _ q2 nf;exact ⟨⟨kn,q4⟩,n2⟩
theorem u7 {x:Value} {env env0:Env} (h:env.frame=env0.frame):noteFrame x env=noteFrame x env0:=by
  unfold noteFrame PySem.frameOf;rw [h]
theorem nJ.note {M:Model} {A:Around} {E:Value->Shared->Prop} {Q:Unit->Shared->Prop} {env env0:Env} {outer:List Env} {L:Addr} (f:nJ P w l H s C H' e s') (hl:l=env0::outer) (hfr:A.frames=some l) (h0:env0.frame=some L) (h1:env.frame=some L)
    (k:∀ h',nJ P w l H s C H' e { s' with heap:=h' }->s'.heap.UpToSlots h'->Q () { s' with heap:=h' }):wpAny M A (noteFrame e env) Q E s':=by
  subst hl;obtain ⟨p,a0,B,rfl,t,okB,hp,cov⟩:=f.ex;rw [u7 (h1.trans h0.symm)];exact oX hfr h0 t fun h' t' up=>k h' (f.again t t' up okB hp cov) up
theorem nJ.pass {α:Type} {M:Model} {A:Around} {E:Value->Shared->Prop} {Q:α->Shared->Prop} {env:Env} {what:String} (f:nJ P w l H s C H' e s') (k:∀ h',nJ P w l H s C H' e { s' with heap:=h' }->E e { s' with heap:=h' }):wpAny M A (PySem.passOn what e env:Sem α) Q E s':=by
  obtain ⟨p,a0,B,rfl,t,okB,hp,cov⟩:=f.ex;exact vD t fun h' t' up=>k h' (f.again t t' up okB hp cov)
end
section
variable {P:Program} {w:World} {K:PySem.W.Frag} {mg:Str->Option Value} {base:Heap} {N:List Str} {qual:Str} {sc:Scope} {f:Addr} {cdv:Value} {A:Around} {outer:List Env} {s:Shared} {H:Hp} {E:XK} {c:Str}
theorem yJ (h:∀ H',aq H H'->E (.str c 0) none H'):Xw (eN (cY P w mg) P w K mg base N qual sc f cdv A outer s H E) c H:=by
  intro H1 s1 C hm pins σ Hc sc' e s' I fl;obtain ⟨p,a0,B,rfl,fly,okB,hp,cov⟩:=fl.ex;have old:∀ b o,s.heap.get? b=some o->b≠s.heap.objs.size:=fun b o q=>Nat.ne_of_lt (Heap.lt_size q)
  refine tD I.ok.frames rfl fly fun h' fl' up=>⟨c,C,H1,hm,⟨fl.os.trans I.os,fl.bare,s1,⟨p,a0,B,rfl,fl',okB,hp,fun b o q n hb=>?_⟩,fun b o q n hb=>?_⟩,h H1 s1⟩
  · have q1:=I.base.keep b o q n hb (by simp [eN]);have n1:=I.base.free b o q n (by simp [eN]);refine cov b o q1 n1 fun z=>?_
    have z':b∈(s.heap.objs.size::ja outer):=z;rcases List.mem_cons.mp z' with z2 | z2
    · exact old b o q z2
    · exact hb z2
  · obtain ⟨sl,q1⟩:=I.base.slot b o q n hb (by simp [eN]);have n1:=I.base.free b o q n (by simp [eN]);have hb':b∈ja (eN (cY P w mg) P w K mg base N qual sc f cdv A outer s H E).stack:=List.mem_cons_of_mem _ hb;obtain ⟨⟨sl',q2⟩,n2⟩:=fl.slot b _ q1 n1 hb';obtain ⟨_,o3,q3,nf⟩:=fly.2.2.1.mem hb';rw [q2] at q3;cases q3;obtain ⟨kn,q4⟩:=up b _ q2 nf;exact ⟨⟨kn,q4⟩,n2⟩
theorem vP (h:∀ H',aq H H'->E (.str c 0) none H'):zG (eN (cY P w mg) P w K mg base N qual sc f cdv A outer s H E) c H:=by
  intro C hm pins σ Hm sm sH I h' p vs hx;have hin:∀ env∈(eN (cY P w mg) P w K mg base N qual sc f cdv A outer s H E).stack,∀ b,env.frame=some b->b∈ja (eN (cY P w mg) P w K mg base N qual sc f cdv A outer s H E).stack:=fun env he b hb=>List.mem_filterMap.mpr ⟨env,he,hb⟩
  have old:∀ b o,s.heap.get? b=some o->b≠s.heap.objs.size:=fun b o q=>Nat.ne_of_lt (Heap.lt_size q)
  refine wpAny_leaves_madeW (s:={ sm with heap:=h' }) (base:=PySem.W.hideAll sm.heap (ja (eN (cY P w mg) P w K mg base N qual sc f cdv A outer s H E).stack)) I.ok.frames rfl (fun b o q=>PySem.W.of_hideAll _ q) (PySem.W.funFrames_hide I.stack hin) hx fun h'' t fl' _ _ up =>
    ⟨c,C,Hm,hm,⟨I.os,I.bare,sH,⟨p,.ref t,_,rfl,fl',fun b u q=>?_,?_,fun b o q n hb=>?_⟩,fun b o q n hb=>?_⟩,h Hm sH⟩
  · refine (I.hok b u q).stay (fun c' v hc z=>PySem.W.hideAll_get _ z fun m=>?_) (fun _ z=>z) fun _ _ z=>z
    have hn:=I.stkFree c' m;rcases hc with rfl | hc
    · rw [hn] at q;cases q
    · rw [hn] at hc;cases hc
  · cases q:Hm p with
    | none=>rfl
    | some u =>
      obtain ⟨o',z⟩:=qi (I.hok p u q);rw [hx.new] at z;cases z
  · have q1:=I.base.keep b o q n hb (by simp [eN]);have n1:=I.base.free b o q n (by simp [eN]);refine ⟨PySem.W.hideAll_get _ q1 fun z=>?_,n1⟩;have z':b∈(s.heap.objs.size::ja outer):=z;rcases List.mem_cons.mp z' with z2 | z2
    · exact old b o q z2
    · exact hb z2
  · obtain ⟨sl,q1⟩:=I.base.slot b o q n hb (by simp [eN]);have n1:=I.base.free b o q n (by simp [eN]);have hb':b∈ja (eN (cY P w mg) P w K mg base N qual sc f cdv A outer s H E).stack:=List.mem_cons_of_mem _ hb;obtain ⟨_,o3,q3,nf⟩:=I.stack.mem hb';rw [q1] at q3;cases q3;obtain ⟨kn,q4⟩:=up b _ (hx.keeps _ _ q1) nf;exact ⟨⟨kn,q4⟩,n1⟩
end
theorem xa {P:Program} {w:World} {K:PySem.W.Frag} {mg:Str->Option Value} {base:Heap} {x qual:Str} {st:Stmt} {f:Addr} {fd:FuncData} {N ps:List Str} {k:Nat} {g:Fs} (F:gP K x qual st f fd) (S:aQ N ps (ak st))
    (body:∀ (cdv:Value) (A:Around) (outer:List Env) (s:Shared) (H:Hp) (E:XK),eu k (A.deeper (envOfC qual (ak st) s.heap.objs.size f cdv)) ->
      kf (eN (cY P w mg) P w K mg base N qual (ak st) f cdv A outer s H E) (cI st) g):ba P w K mg base (cY P w mg) (k+1) f fd ps (dR (dX N.length g) ps.length):=by
  obtain ⟨oc,od,kV,doc,pm,an,cdv,ct,osl,rfl,lk,hcd⟩:=F.ex;refine xJ lk hcd S (fun vs H Q E ⟨ds,r,hl,_⟩=>by rw [r.length];exact hl) fun A outer s H vs Q E hr h=>?_
  obtain ⟨ds,r,hl,q⟩:=h;have noOwn:∀ (i:Nat) (d:PyData),(ds.map cg.val++List.replicate (N.length-ds.length) cg.non)[i]?=some (.own d)->False:=fun i d h1=>by
    by_cases hi:i < ds.length
    · rw [List.getElem?_append_left (by simpa using hi),List.getElem?_map] at h1;cases e:ds[i]? with
      | none=>rw [e] at h1;cases h1
      | some d=>rw [e] at h1;cases h1
    · rw [List.getElem?_append_right (by simpa using hi),List.getElem?_replicate] at h1;split at h1
      · cases h1
      · cases h1
  refine ⟨_,body cdv A outer s H E hr H,_,⟨aq.refl _,vc r,fun i d a h1 h2=>(noOwn i d h1).elim,fun i j d e a h1 h2 h3 h4=>(noOwn i d h1).elim⟩,?_⟩;unfold dX at q;cases eg:g (ds.map cg.val++List.replicate (N.length-ds.length) .non) with
  | ex c=>rw [eg] at q;exact ⟨yJ q,vP q⟩
  | no=>rw [eg] at q;exact q.elim
  | ok o =>
    rw [eg] at q;cases o with
    | rt d=>exact fun v H' s' p=>q v H' s' p
    | nx ρ=>exact fun σ' H' s'=>q .non H' s'.fm (by simp only [Rp])
    | bk ρ=>exact q.elim
    | ct ρ=>exact q.elim
noncomputable def aJ (F:List PyData->R PyData) (fs:aI->R (List PyData)):Fe:=fun ρ=>fs ρ>>=F
theorem ww {X:Cx} {k n:Nat} {f:Addr} {fd:FuncData} {ps:List Str} {F:List PyData->R PyData} {x:Str} {p pos:Pos} {e:Expr} {es:List Expr} {fs:aI->R (List PyData)} {nl:Nat} {G:List Str}
    (C:ba X.prog X.w X.K X.mg X.base (cY X.prog X.w X.mg) k f fd ps (dR F n)) (hr:eu k X.A) (T:Tb X nl G) (j:Nat) (hG:G[j]?=some x) (hm:X.mg x=some (.ref f)) (hk:PySem.W.keepIn X.K (.ref f)=true) (hb:bF X.K fd ps []) (ha:pS X (e::es) fs)
    (hlen:(e::es).length=n) (hfs:∀ ρ ds,fs ρ=.ok ds->ds.length=n)
    (he:(e::es).all az=true:=by rfl):cD X (.Call (.Name x p) (e::es) [] pos) (aJ F fs):=by
  rw [List.all_cons,Bool.and_eq_true] at he;have g:=T.gl x (List.mem_of_getElem? hG);refine PE.imp (wO C hr g.1 hm hk hb .nil rK ha g.2.1 (aO he.1) (je he.2)) fun σ H Q ⟨ρ,sl,q⟩=>?_
  refine ⟨ρ,sl,?_⟩;unfold aJ at q;cases e1:fs ρ with
  | ex c=>rw [e1] at q;exact q
  | no=>rw [e1] at q;exact q
  | ok ds =>
    rw [e1] at q;intro vs H1 s1 r1;rw [List.append_nil];refine ⟨ds,kz.mp r1,hfs ρ ds e1,?_⟩;have q':qq X gj (F ds) H Q:=q;cases e2:F ds with
    | ok d=>rw [e2] at q';exact fun v H' s' p'=>q' v H' (s1.trans s') p'
    | ex c=>rw [e2] at q';exact fun H' s'=>Xw.ex q' H' (s1.trans s')
    | no=>rw [e2] at q';exact q'
theorem au:∀ ρ ds,aB ρ=.ok ds->ds.length=0:=fun ρ ds e=>by cases e;rfl
theorem ah {f:Fe} {g:aI->R (List PyData)} {n:Nat} (h:∀ ρ ds,g ρ=.ok ds->ds.length=n):∀ ρ ds,ai f g ρ=.ok ds->ds.length=n+1:=fun ρ ds e=>by
  unfold ai at e;cases e1:f ρ with
  | ex c=>rw [e1] at e;cases e
  | no=>rw [e1] at e;cases e
  | ok d =>
    rw [e1] at e;cases e2:g ρ with
    | ex c=>rw [e2] at e;cases e
    | no=>rw [e2] at e;cases e
    | ok ds'=>rw [e2] at e;cases e;rw [List.length_cons,h ρ ds' e2]
theorem qp {scope:Scope} {env:Env} (h:∀ x∈scope.names,x.2=.free->∃ c,env.cells.lookup x.1=some c) :
    ∃ cl,closureFor scope env=pure cl/\(∀ x c,cl.lookup x=some c->env.cells.lookup x=some c)/\∀ x∈scope.names,x.2=.free->∃ c,cl.lookup x.1=some c:=by
  suffices gen:∀ (names:List (Str×NameKind)) (acc:List (Str×Addr)),(∀ x∈names,x.2=.free->∃ c,env.cells.lookup x.1=some c)->(∀ x c,acc.lookup x=some c->env.cells.lookup x=some c) ->
      ∃ cl,(forIn names acc fun x r=>if (x.snd==NameKind.free)=true then do let a <- cellOf env x.fst;pure (ForInStep.yield ((x.fst,a)::r)) else pure (ForInStep.yield r):Sem (List (Str×Addr)))=pure cl /\
        (∀ x c,cl.lookup x=some c->env.cells.lookup x=some c)/\(∀ x c,acc.lookup x=some c->∃ c',cl.lookup x=some c')/\∀ x∈names,x.2=.free->∃ c,cl.lookup x.1=some c by
    obtain ⟨cl,h1,h2,_,h4⟩:=gen scope.names [] h fun x c e=>by simp at e
    refine ⟨cl,?_,h2,h4⟩;simp only [closureFor];rw [h1];rfl
  intro names;induction names with
  | nil=>intro acc _ ha;exact ⟨acc,rfl,ha,fun x c e=>⟨c,e⟩,fun x hx=>by cases hx⟩
  | cons y r ih =>
    intro acc hn ha;obtain ⟨n,k⟩:=y;by_cases hk:k=.free
    · subst hk;obtain ⟨c,hc⟩:=hn (n,.free) List.mem_cons_self rfl;obtain ⟨cl,e1,e2,e3,e4⟩:=ih ((n,c)::acc) (fun x hx=>hn x (List.mem_cons_of_mem _ hx)) (fun x c' e=>by
        rw [List.lookup_cons] at e;split at e
        · rename_i q;have:x=n:=by simpa using q
          subst this;cases e;exact hc
        · exact ha x c' e)
      refine ⟨cl,?_,e2,fun x c' e=>?_,fun x hx hf=>?_⟩
      · rw [List.forIn_cons];have:cellOf env n=pure c:=by unfold cellOf;rw [hc]
        simp only [beq_self_eq_true,if_true,this,pure_bind];exact e1
      · by_cases hx:x=n
        · subst hx;exact e3 x c (by rw [List.lookup_cons];simp)
        · have hb:(x==n)=false:=by simpa using hx
          exact e3 x c' (by rw [List.lookup_cons,hb];exact e)
      · rcases List.mem_cons.mp hx with rfl | hx
        · exact e3 n c (by rw [List.lookup_cons];simp)
        · exact e4 x hx hf
    · obtain ⟨cl,e1,e2,e3,e4⟩:=ih acc (fun x hx=>hn x (List.mem_cons_of_mem _ hx)) ha;refine ⟨cl,?_,e2,e3,fun x hx hf=>?_⟩
      · rw [List.forIn_cons];have:(k==NameKind.free)=false:=by simpa using hk
        simp only [this,Bool.false_eq_true,if_false,pure_bind];exact e1
      · rcases List.mem_cons.mp hx with rfl | hx
        · exact absurd hf hk
        · exact e4 x hx hf
noncomputable def zt (env:Env) (p:Str×NameKind):NameKind:=if (p.2==.free&&env.scope.kind==.function&&env.kindOf p.1==some .cell)=true then .cell else p.2
theorem lS (scope:Scope) (env:Env):(relabel scope env).names=scope.names.map fun p=>(p.1,zt env p):=by
  unfold relabel;refine List.map_congr_left fun p _=>?_
  obtain ⟨n,k⟩:=p;unfold zt;dsimp only;split <;> rfl
theorem j7 (g:Str×NameKind->NameKind) (x:Str):∀ l:List (Str×NameKind),(l.map fun p=>(p.1,g p)).lookup x=(l.lookup x).map fun k=>g (x,k)
  | []=>rfl
  | (n,k)::r=>by
    rw [List.map_cons];cases hx:x==n with
    | true =>
      have e:x=n:=by simpa using hx
      subst e;simp
    | false =>
      have ne:¬ x=n:=by simpa using hx
      simp only [List.lookup_cons,hx];exact j7 g x r
theorem i7 (scope:Scope) (env:Env) (x:Str):(relabel scope env).names.lookup x=(scope.names.lookup x).map fun k=>zt env (x,k):=by
  rw [lS];exact j7 _ _ _
theorem dW {scope:Scope} {env:Env} {x:Str} {k:NameKind} (h:scope.names.lookup x=some k) (hk:k≠.free):(relabel scope env).names.lookup x=some k:=by
  rw [i7,h];have:(k==NameKind.free)=false:=by simpa using hk
  simp only [zt,this,Bool.false_and,Bool.false_eq_true,if_false,Option.map_some]
theorem jy {scope:Scope} {env:Env} {x:Str} (h:scope.names.lookup x=some .free):(relabel scope env).names.lookup x=some .free\/(relabel scope env).names.lookup x=some .cell:=by
  rw [i7,h];unfold zt;dsimp only [Option.map_some];split
  · exact .inr rfl
  · exact .inl rfl
theorem oJ {scope:Scope} {env:Env} {x:Str} (hc:∀ y∈scope.names,y.2≠.cell) (h:(relabel scope env).names.lookup x=some .free\/(relabel scope env).names.lookup x=some .cell):(x,NameKind.free)∈scope.names:=by
  cases e:scope.names.lookup x with
  | none =>
    rw [i7,e] at h;rcases h with h | h <;> cases h
  | some k =>
    by_cases hk:k=.free
    · subst hk;exact PySem.mem_of_lookup e
    · exfalso;have:=dW (env:=env) e hk;rw [this] at h;rcases h with h | h
      · cases h;exact hk rfl
      · cases h;exact hc _ (PySem.mem_of_lookup e) rfl
noncomputable def aK (X:Cx) (N:List Str) (scope:Scope) (cl:List (Str×Addr)) (C:Addr) (s:Shared) (H:Hp) (fp:List Addr) (E:Value->Shared->Prop:=fun _ _=>False):Cx :=
  { X with N:=N,s₀:=s,H₀:=H,env:=compEnvC scope cl C X.env,outer:=X.stack,stack:=X.stack,ex:=fp,fn:=fun _=>false,pn:=[],xe:=E }
noncomputable def ej (sc:Scope) (N:List Str) (own:Nat) (G:List Str) (oN:List Str) (fr:List Nat):Prop :=
  sc.kind=.function/\(∀ y∈sc.names,y.2≠.cell)/\(∀ y∈sc.names,y.2=.local->sc.names.lookup y.1=some .local)/\N.Nodup/\(∀ x∈N.take own,sc.names.lookup x=some .local)/\(∀ x∈N.drop own,sc.names.lookup x=some .free) /\
  (∀ x∈N,(x==("__debug__" : Str))=false/\(x==("__classdict__" : Str))=false)/\(∀ x∈G,sc.names.lookup x=some .globalImplicit/\(x==("__debug__" : Str))=false/\x≠("__name__" : Str)) /\
  own<=N.length/\(N.drop own).map some=fr.map fun i=>oN[i]?
noncomputable instance {sc:Scope} {N:List Str} {own:Nat} {G oN:List Str} {fr:List Nat}:Decidable (ej sc N own G oN fr):=by unfold ej;infer_instance
theorem vQ {X:Cx} {nl:Nat} {G0:List Str} (T:Tb X nl G0) {sc:Scope} {N:List Str} {own:Nat} {G oN:List Str} {fr:List Nat} (ck:ej sc N own G oN fr) (cl:List (Str×Addr)) (C:Addr) (s:Shared) (H:Hp) (fp:List Addr) :
    Tb (aK X N sc cl C s H fp) own G:=by
  obtain ⟨_,_,_,nd,l,f,db,g,_,_⟩:=ck;refine ⟨T.hu,T.calm,nd,fun x hx=>?_,fun x hx=>?_,fun x hx=>?_⟩
  · refine ⟨?_,db x hx⟩;have hx':x∈N.take own++N.drop own:=by rw [List.take_append_drop];exact hx
    rcases List.mem_append.mp hx' with z | z
    · exact .inl (dW (l x z) (by decide))
    · rcases jy (env:=X.env) (f x z) with q | q
      · exact .inr (.inr q)
      · exact .inr (.inl q)
  · have q:=dW (env:=X.env) (l x hx) (by decide);exact ⟨.inl q,.inr q⟩
  · obtain ⟨g1,g2,g3⟩:=g x hx;exact ⟨dW (env:=X.env) g1 (by decide),g2,g3⟩
theorem ve {X:Cx} {nl:Nat} {G0:List Str} (T:Tb X nl G0) {sc:Scope} {N:List Str} {own:Nat} {G oN:List Str} {fr:List Nat} (ck:ej sc N own G oN fr) (cl:List (Str×Addr)) (C:Addr) (s:Shared) (H:Hp) (fp:List Addr) (E:Value->Shared->Prop) :
    Tb (aK X N sc cl C s H fp E) own G:=let T1:=vQ T ck cl C s H fp;⟨T1.hu,T1.calm,T1.nd,T1.vis,T1.loc,T1.gl⟩
noncomputable def Bj (X:Cx) (ifs:List Expr) (t:TT):Prop :=
  ∀ (pins:List (Addr×Obj)) (s:Shared) (σ:St) (H:Hp) (Q:Bool->Hp->Prop),ay X pins σ H s->t σ H Q->wpAny (model X.prog X.w) X.A (forIn ifs true fun c r=>if r=true then do let ok <- isTrue c X.env (eval c X.env);pure (ForInStep.yield ok) else pure (ForInStep.yield r))
    (TP X pins σ Q) X.xe s
noncomputable def sQ (X:Cx) (ifs:List Expr) (t:aI->R Bool):Prop:=Bj X ifs (vY X t)
structure Z.sQ (X:Cx) (ifs:List Expr) (t:aI->R Bool):Prop where
  un:D2.sQ X ifs t
theorem eK {X:Cx}:Z.sQ X [] (fun _=>.ok true):=⟨fun pins s σ H Q I ⟨ρ,sl,q⟩=>wpAny_tests_nil ⟨H,I,q H (aq.refl _)⟩⟩
theorem uE {X:Cx} {c:Expr} {t:aI->R Bool} (h:Z.pT X c t):Z.sQ X [c] t:=⟨have h:=h.un;fun pins s σ H Q I q=>wpAny_tests_one (h pins s σ H Q I q)⟩
noncomputable def cw (b:PyData->aI->Option aI) (t:aI->R Bool) (f:Fe) (ρ:aI):List PyData->R (List PyData)
  | []=>.ok []
  | d::ds=>match b d ρ with
    | none=>.no
    | some ρ1=>t ρ1>>=fun k=>if k=true then f ρ1>>=fun x=>cw b t f ρ ds>>=fun xs=>.ok (x::xs) else cw b t f ρ ds
noncomputable def av (own:Nat) (fr:List Nat) (ρ:aI):aI:=List.replicate own .non++fr.map fun i=>ρ.getD i .non
noncomputable def ma {α:Type}:R α->R α
  | .ex _=>.no
  | r=>r
noncomputable def cR (it:aI->R (List PyData)) (own:Nat) (fr:List Nat) (b:PyData->aI->Option aI) (t:aI->R Bool) (f:Fe):Fe:=fun ρ =>
  ma (it ρ)>>=fun ds=>if ds.length<=sizeLine then match cw b t f (av own fr ρ) ds with
    | .ok xs=>.ok (.list xs)
    | .ex c=>.ex c
    | .no=>.no
  else .no
noncomputable def fY (own:Nat) (fr:List Nat) (σ:St):St:=List.replicate own none++fr.map fun i=>(σ[i]?).join
theorem wp {H:Hp} {σ:St} {ρ:aI} (h:Sl H σ ρ) (own:Nat) (fr:List Nat) (hin:∀ i∈fr,i < ρ.length):Sl H (fY own fr σ) (av own fr ρ):=by
  refine ⟨by simp [fY,av],fun i c o h1 h2=>?_⟩;unfold av at h1;unfold fY at h2;by_cases hi:i < own
  · rw [List.getElem?_append_left (by simpa using hi),List.getElem?_replicate,if_pos hi] at h1;cases h1;exact True.intro
  · rw [List.getElem?_append_right (by simpa using hi),List.getElem?_map,List.length_replicate] at h1 h2;cases e:fr[i-own]? with
    | none=>rw [e] at h1;cases h1
    | some j =>
      rw [e] at h1 h2;have hj:=hin j (List.mem_of_getElem? e);have hj':j < σ.length:=by rw [h.1];exact hj
      cases h1;cases h2;refine h.2 j _ _ ?_ ?_
      · show ρ[j]?=some (ρ.getD j .non);rw [List.getD_eq_getElem?_getD,List.getElem?_eq_getElem hj];rfl
      · show σ[j]?=some ((σ[j]?).join);rw [List.getElem?_eq_getElem hj'];rfl
section
variable {X:Cx} {pins:List (Addr×Obj)} {σ:St} {H:Hp} {s:Shared} {nl:Nat} {G0:List Str} {sc:Scope} {N:List Str} {own:Nat} {G:List Str} {fr:List Nat} {cl:List (Str×Addr)} {fp:List Addr} {a C:Addr} {h4:Heap} {t4:Nat} {m:Str->Option Value}
theorem tK (I:ay X pins σ H s) (ck:ej sc N own G X.N fr) (hf:∀ b∈fp,lW X pins H b) (hob:∀ b∈fp,b < s.heap.objs.size) (hcl1:∀ x c,cl.lookup x=some c->X.env.cells.lookup x=some c) (hcl2:∀ x∈sc.names,x.2=.free->∃ c,cl.lookup x.1=some c)
    (vis:∀ x∈X.N,zU X.env.scope x) (hout:∀ y∈sc.names,y.2=.free->X.env.kindOf y.1=some .cell\/X.env.kindOf y.1=some .free)
    (ha:s.heap.objs.size<=a) (hC:s.heap.objs.size<=C) (hac:a≠C) (keep:∀ b o,s.heap.get? b=some o->h4.get? b=some o) (hl:h4.get? a=some { cls:=.type "list",data:=.seq #[] 0 }) (hn:h4.Ns C m) :
    ay (aK X N sc cl C s H fp) [] (fY own fr σ) (dk H a (.lst [])) { s with heap:=h4,toks:=t4 }:=by
  obtain ⟨ck1,ck2,ck3,nd,l,f,db,g,ol,ofr⟩:=ck;have hHa:H a=none:=I.hok.fresh ha;have hHC:H C=none:=I.hok.fresh hC;have lt:∀ {b:Addr} {o:Obj},s.heap.get? b=some o->b < s.heap.objs.size:=fun e=>Heap.lt_size e
  have cellLt:∀ x c,cl.lookup x=some c->c < s.heap.objs.size:=fun x c e=>by
    obtain ⟨v,q⟩:=I.cell x c (hcl1 x c e);exact q.lt
  refine ⟨⟨I.ok.mod,ck1,I.ok.glob,I.ok.blt,hC,fun x y c h1 h2=>I.ok.inj x y c (hcl1 x c h1) (hcl1 y c h2),fun x hx=>?_,fun x c hx=>(Bool.false_ne_true hx).elim,I.ok.hd,I.ok.frames,.inl rfl,fun b hb=>⟨?_,fun x c e=>?_⟩,I.bs,Nat.le_trans I.ok.bsz I.sz,fun b o e hb=>?_,fun b hb hs=>?_,I.stack,I.stkFree⟩,
    rfl,I.bare,Un.laid keep ha hHa,⟨m,hn,fun i x v h1 h2 h3=>?_⟩,fun x c e=>?_,?_,fun x c e=>?_,fun p hp=>?_,?_,?_⟩
  · have q:=oJ (env:=X.env) ck2 (show (relabel sc X.env).names.lookup x=some .free\/(relabel sc X.env).names.lookup x=some .cell from hx.elim .inr .inl);exact hcl2 _ q rfl
  · exact Nat.ne_of_lt (Nat.lt_of_lt_of_le (hob b hb) hC)
  · exact (hf b hb).2.2.2.2.1 x c (hcl1 x c e)
  · rcases (hf b hb).2.2.2.1 with z | z
    · exact I.ok.noex b o e z
    · exact absurd (Nat.lt_of_lt_of_le (Heap.lt_size e) I.ok.bsz) (Nat.not_lt.mpr z)
  · rcases List.mem_cons.mp (I.stkSub b hs) with z | z
    · exact (hf b hb).2.1 z
    · exact (hf b hb).2.2.1 z
  · -- a captured name
    have hi:¬ i < own:=fun hi=>by
      unfold fY at h2;rw [List.getElem?_append_left (by simpa using hi),List.getElem?_replicate,if_pos hi] at h2;cases h2
    unfold fY at h2;rw [List.getElem?_append_right (by simpa using hi),List.getElem?_map,List.length_replicate] at h2;cases e:fr[i-own]? with
    | none=>rw [e] at h2;cases h2
    | some j =>
      rw [e] at h2;have h2':(σ[j]?).join=some v:=Option.some.inj h2;have hσ:σ[j]?=some (some v):=by
        cases q:σ[j]? with
        | none=>rw [q] at h2';cases h2'
        | some o=>rw [q] at h2';exact congrArg some h2'
      have hx:(N.drop own)[i-own]?=some x:=by
        rw [List.getElem?_drop];have:own+(i-own)=i:=by omega
        rw [this];exact h1
      have hj:X.N[j]?=some x:=by
        have q:=congrArg (fun l=>l[i-own]?) ofr;simp only [List.getElem?_map,hx,e,Option.map_some] at q;exact (Option.some.inj q).symm
      have hfree:=f x (List.mem_of_getElem? hx);obtain ⟨c,hc⟩:=hcl2 _ (PySem.mem_of_lookup hfree) rfl;have hXc:=hcl1 x c hc;obtain ⟨m0,hn0,hl0⟩:=I.loc;obtain ⟨u,ru,lk⟩:=hl0 j x v hj hσ (vis x (List.mem_of_getElem? hj));have ko:=hout _ (PySem.mem_of_lookup hfree) rfl;refine ⟨u,ru,.inr ⟨(jy (env:=X.env) hfree).symm,c,hc,?_⟩⟩;rcases lk with ⟨k1,_⟩ | ⟨_,c',e1,ob,q1,q2⟩
      · exfalso;rcases ko with k | k <;> (rw [k] at k1;cases k1)
      · rw [hXc] at e1;cases e1;exact ⟨ob,keep _ _ q1,q2⟩
  · obtain ⟨v,o,q,d⟩:=I.cell x c (hcl1 x c e);exact ⟨v,o,keep _ _ q,d⟩
  · show dk H a (.lst []) C=none;rw [aH (Ne.symm hac)];exact hHC
  · have q:=I.freeC x c (hcl1 x c e);show dk H a (.lst []) c=none;rw [aH (Nat.ne_of_lt (Nat.lt_of_lt_of_le (cellLt x c e) ha))];exact q
  · exact absurd (show p∈([]:List (Addr×Obj)) from hp) (by simp)
  · exact I.hok.laid keep ha ⟨Nat.zero_le _,[],0,.nil,hl⟩
  · show (fY own fr σ).length=N.length;have q:=congrArg List.length ofr;rw [List.length_map,List.length_map,List.length_drop] at q;unfold fY;rw [List.length_append,List.length_replicate,List.length_map];omega
end
noncomputable def kI (ρ0 ρ1:aI):Prop:=ρ1.length=ρ0.length/\∀ (i:Nat) (c:cg),ρ0[i]?=some c->c=.non\/ρ1[i]?=some c
theorem Sl.unfit {H:Hp} {σ:St} {ρ0 ρ1:aI} (h:Sl H σ ρ1) (f:kI ρ0 ρ1):Sl H σ ρ0:=by
  refine ⟨h.1.trans f.1,fun i c o h1 h2=>?_⟩;rcases f.2 i c h1 with rfl | q
  · exact True.intro
  · exact h.2 i c o q h2
noncomputable def uS (H0:Hp) (σ:St) (ρ:aI):Prop:=∀ (i:Nat) (e:PyData),ρ[i]?=some (.own e)->∃ v,σ[i]?=some (some v)/\gQ H0 e v
theorem sS {X:Cx} {J:It} {tn:Nat->Heap->Prop} {it a:Addr} {fp:List Addr} {tg iter elt:Expr} {ifs:List Expr} {scope:Scope} {pos:Pos} {b:PyData->aI->Option aI} {t:aI->R Bool} {f:Fe} {ds:List PyData} {r:R (List PyData)} {Gd:Hp->Prop} {H0:Hp} {ρ0:aI}
    {Rk:Result->Shared->Prop} (T:tM X.prog X.w X.K tg J fp it tn) (calm:X.calm=true) (hfp:∀ H:Hp,(∀ b∈fp,H b=none)->∀ b∈fp,lW X [] H b) (hxe:∀ e s',X.xe e s'->notedBy (model X.prog X.w) X.A X.env (fun x s'=>Rk (.error x) s') e s') (hX:∀ c,r=.ex c->Xw X c H0) (hno:r≠.no) (hg:sj X tg b) (ht:sQ X ifs t) (hf:cD X elt f)
    (idt:yq J Gd ds) (sta:An H0 (fun _=>False) Gd) (hsz:ds.length<=sizeLine) (ha0:H0 a=none) (hb0:∀ d ρ1,b d ρ0=some ρ1->kI ρ0 ρ1)
    (fin:∀ xs s' σ' H' vs,r=.ok xs->ay X [] σ' H' s'->aq H0 H'->H' a=some (.lst vs)->br H' xs vs->Rk (.ok .next) s') :
    ∀ {s:Shared} {σ:St} {H:Hp},ay X [] σ H s->tn 0 s.heap->(∀ b∈fp,H b=none)->aq H0 H->H a=some (.lst [])->cw b t f ρ0 ds=r->Sl H σ ρ0->uS H0 σ ρ0 ->
      codeAny (model X.prog X.w) X.A (.compLoop (.ListComp elt [⟨tg,iter,ifs,0⟩] scope pos) 0 (.ref it) (.ref a) X.env) Rk s:=by
  intro s σ H I st fr s0 hla hc sl ow;refine codeAny_loop rfl (fun n s=>∃ i acc σ H vs,n=ds.length-i/\i<=ds.length/\acc.length<=i/\ay X [] σ H s/\tn i s.heap/\(∀ b∈fp,H b=none)/\aq H0 H/\H a=some (.lst vs)/\br H acc vs/\(cw b t f ρ0 (ds.drop i)>>=fun dn=>.ok (acc++dn))=r /\
    Sl H σ ρ0/\uS H0 σ ρ0) (fun n s hI=>?_) ds.length ⟨0,[],σ,H,[],by simp,Nat.zero_le _,Nat.le_refl _,I,st,fr,s0,hla,br.nil,by rw [List.drop_zero,hc];cases r <;> rfl,sl,ow⟩
  clear I st fr s0 hla hc sl ow;obtain ⟨i,acc,σ,H,vs,rfl,hi,hal,I,st,fr,s0,hla,ra,hc,sl,ow⟩:=hI;show wpAny _ X.A ((compTurn (.ListComp elt [⟨tg,iter,ifs,0⟩] scope pos) 0 (.ref it) (.ref a) X.env).onRaise (fun x=>do noteFrame x X.env;theTreesLotGoes x)) _ _ s;refine wpAny_noted ?_;rw [compTurn_list];have gd:Gd H:=sta H (Kp.of s0) fun _ _ z=>z.elim
  have noex:∀ {α:Type} {m:Sem α} {Q Q':α->Shared->Prop} {s:Shared},wpAny (model X.prog X.w) X.A m Q X.xe s->(∀ v s,Q v s->Q' v s)->wpAny (model X.prog X.w) X.A m Q' (notedBy (model X.prog X.w) X.A X.env (fun x s'=>Rk (.error x) s')) s:=fun h k =>
    wpAny_mono h k hxe
  by_cases hlt:i < ds.length
  · obtain ⟨d,hd⟩:∃ d,ds[i]?=some d:=⟨ds[i],List.getElem?_eq_getElem hlt⟩
    have hdrop:ds.drop i=d::ds.drop (i+1):=by
      rw [List.drop_eq_getElem_cons hlt];congr 1;exact Option.some.inj ((List.getElem?_eq_getElem hlt).symm.trans hd)
    rw [hdrop] at hc;unfold cw at hc;refine wpAny_bind (wpAny_standAt (wpAny_bind (dc (T.item X rfl rfl rfl calm i [] s σ H _ I (hfp H fr) st (idt.go i H gd hlt)) fun r s1 ⟨u,hr,h1⟩=>?_)));subst hr;refine wpAny_bind (dc h1 fun _ s2 ⟨x,H2,I2,r2,y2,st2,fr2⟩=>?_);obtain ⟨s02,p2⟩:=idt.yld i H x H2 d gd hd y2;have I2':=I2.pinned (hfp H2 fr2) (T.obj _ _ st2);have back:∀ {σ':St} {H':Hp} {s':Shared},ay X ([]++lD fp s2.heap) σ' H' s'->ay X [] σ' H' s'/\tn (i+1) s'.heap/\∀ b∈fp,H' b=none:=fun {σ' H' s'} J' =>
      ⟨J'.unpinned,T.keep _ _ _ st2 fun b hb o e=>(J'.pin (b,o) (List.mem_append_right _ (List.mem_append_right _ (gH hb e)))).1,fun b hb=>by
        obtain ⟨o,e,_⟩:=T.obj _ _ st2 b hb;exact (J'.pin (b,o) (List.mem_append_right _ (List.mem_append_right _ (gH hb e)))).2.1⟩
    cases eb:b d ρ0 with
    | none=>rw [eb] at hc;exact absurd hc.symm hno
    | some ρ1 =>
      rw [eb] at hc;dsimp only at hc;have hfit:=hb0 d ρ1 eb;refine wpAny_bind (noex (hg _ s2 σ H2 x u (fun σ' H'=>H'=H2/\Sl H2 σ' ρ1/\∀ (i:Nat) (e:PyData),ρ1[i]?=some (.own e)->ρ0[i]?=some (.own e)/\σ'[i]?=σ[i]?) I2' r2 ⟨ρ0,d,sl.mono s02,p2,by rw [eb];exact fun σ' sl' w'=>⟨rfl,sl',w'⟩⟩) fun _ s3 ⟨σ3,H3,I3,e3,kn,w3⟩=>?_);subst e3;have ow3:uS H0 σ3 ρ0:=fun j e h=>by
        obtain ⟨v,z1,z2⟩:=ow j e h;rcases hfit.2 j _ h with z | z
        · cases z
        · exact ⟨v,by rw [(w3 j e z).2];exact z1,z2⟩
      cases et:t ρ1 with
      | no=>rw [et] at hc;exact absurd hc.symm hno
      | ex c =>
        rw [et] at hc;exact wpAny_bind (noex (ht _ s3 σ3 H3 (fun _ _=>False) I3 ⟨ρ1,kn,by rw [et];exact (hX c hc.symm).mono (s0.trans s02)⟩) fun ok s4 ⟨H4,I4,z⟩=>z.elim)
      | ok k =>
        rw [et] at hc;refine wpAny_bind (noex (ht _ s3 σ3 H3 (fun b' H'=>b'=k/\aq H3 H') I3 ⟨ρ1,kn,by rw [et];exact fun H' s'=>⟨rfl,s'⟩⟩) fun ok s4 ⟨H4,I4,e4,s34⟩=>?_);subst e4;have s04:=(s0.trans s02).trans s34;have hla4:H4 a=some (.lst vs):=s34 _ _ (s02 _ _ hla);have ra4:br H4 acc vs:=(ra.mono s02).mono s34;cases ok with
        | false =>
          obtain ⟨J1,J2,J3⟩:=back I4;have hc':(cw b t f ρ0 (ds.drop (i+1))>>=fun dn=>.ok (acc++dn))=r:=hc;exact wpAny_pure ⟨rfl,ds.length-(i+1),by omega,i+1,acc,σ3,H4,vs,rfl,hlt,by omega,J1,J2,J3,s04,hla4,ra4,hc',(kn.unfit hfit).mono s34,ow3⟩
        | true =>
          have hc':((f ρ1>>=fun x=>cw b t f ρ0 (ds.drop (i+1))>>=fun xs=>.ok (x::xs))>>=fun dn=>.ok (acc++dn))=r:=hc;cases ef:f ρ1 with
          | no=>rw [ef] at hc';exact absurd hc'.symm hno
          | ex c =>
            rw [ef] at hc';exact wpAny_bind (wpAny_bind (noex (hf _ s4 σ3 H4 (fun _ _=>False) I4 ⟨ρ1,kn.mono s34,by rw [ef];exact (hX c hc'.symm).mono s04⟩) fun yv s5 ⟨v5,H5,I5,r5,z⟩=>z.elim))
          | ok y =>
              rw [ef,R.ok_bind] at hc';have hc2:(cw b t f ρ0 (ds.drop (i+1))>>=fun dn=>.ok ((acc++[y])++dn))=r:=by
                rw [<- hc'];cases cw b t f ρ0 (ds.drop (i+1)) with
                | ok dn=>simp only [R.ok_bind,List.append_assoc,List.singleton_append]
                | ex c=>rfl
                | no=>rfl
              refine wpAny_bind (wpAny_bind (noex (hf _ s4 σ3 H4 (fun v H'=>aq H4 H'/\Rp H' y v) I4 ⟨ρ1,kn.mono s34,by rw [ef];exact fun v H' s' p'=>⟨s',p'⟩⟩) fun yv s5 ⟨v5,H5,I5,r5,s45,p5⟩=>?_));have hla5:H5 a=some (.lst vs):=s45 _ _ hla4;have hlen:vs.length < sizeLine:=by
                rw [ra.length];omega
              refine wpAny_bind (noex (mJ _ s5 σ3 H5 (.ref a) [v5] (.ref a) [yv] (fun _ H'=>H'=dk H5 a (.lst (vs++[v5]))) I5 rfl (.cons r5 .nil) ⟨a,vs,v5,rfl,rfl,hla5,hlen,rfl⟩) fun _ s6 ⟨v6,H6,I6,r6,e6⟩=>?_);subst e6;obtain ⟨J1,J2,J3⟩:=back I6;have kp:Kp H5 (dk H5 a (.lst (vs++[v5]))):=gm hla5 (.inl ⟨_,rfl⟩);have s06:aq H0 (dk H5 a (.lst (vs++[v5]))):=fun b o e=>by
                rw [aH (aZ e ha0)];exact (s04.trans s45) b o e
              refine wpAny_pure (wpAny_pure ⟨rfl,ds.length-(i+1),by omega,i+1,acc++[y],σ3,_,vs++[v5],rfl,hlt,by rw [List.length_append,List.length_singleton];omega,J1,J2,J3,s06,bJ,?_,hc2,?_,ow3⟩)
              · exact br.append (br.kp kp _ _ (ra4.mono s45)) (br.cons (Rp.kp kp _ _ p5) br.nil)
              · have sl5:Sl H5 σ3 ρ0:=((kn.unfit hfit).mono s34).mono s45;refine ⟨sl5.1,fun j c o h1 h2=>?_⟩;cases c with
                | exc p=>exact sl5.2 j _ o h1 h2
                | non=>exact True.intro
                | val d' =>
                  obtain ⟨v',z1,z2⟩:=sl5.2 j _ o h1 h2;exact ⟨v',z1,Rp.kp kp _ _ z2⟩
                | own e' =>
                  obtain ⟨v',z1,z2⟩:=ow3 j e' h1;rw [z1] at h2;cases h2;exact ⟨v',rfl,z2.mono s06⟩
  · have e:i=ds.length:=by omega
    subst e;rw [List.drop_length] at hc;have hr':r=.ok acc:=by rw [<- hc];simp only [cw,R.ok_bind,List.append_nil]
    refine wpAny_bind (wpAny_standAt (wpAny_bind (dc (T.done X rfl rfl rfl calm _ [] s σ H _ I (hfp H fr) st (idt.stop _ H gd (Nat.le_refl _))) fun r s1 ⟨hr,I1⟩=>?_)));subst hr;exact wpAny_pure (fin acc s1 σ H vs hr' I1 s0 hla ra)
theorem fI.but {P:Program} {w:World} {H:Hp} {h1 h2:Heap} {C:Addr} (ok:fI P w H h1) (hC:H C=none) (sb:∀ b o,b≠C->h1.get? b=some o->h2.get? b=some o):fI P w H h2:=fun a o e =>
  (ok a o e).stay (fun b u hb q=>sb b u (by
    rcases hb with rfl | hb
    · exact aZ e hC
    · exact aZ hb hC) q) (fun _ q=>q) fun _ _ q=>q
theorem iK {h h' base:Heap} {C:Addr} (tp:∀ b o,b≠C->h.get? b=some o->h'.get? b=some o):∀ {l:List Env},C∉ja l->h.FunFrames base l->h'.FunFrames base l
  | [],_,_=>trivial
  | env::l,hC,⟨hk,⟨L,o,hf,hn,ho,hd⟩,hr⟩=>⟨hk,⟨L,o,hf,hn,tp L o (fun z=>hC (List.mem_filterMap.mpr ⟨env,List.mem_cons_self,by rw [hf,z]⟩)) ho,hd⟩,iK tp (fun z=>hC (by
    obtain ⟨e,he,hz⟩:=List.mem_filterMap.mp z;exact List.mem_filterMap.mpr ⟨e,List.mem_cons_of_mem _ he,hz⟩)) hr⟩
theorem ju {X:Cx} {tg iter elt:Expr} {ifs:List Expr} {sc:Scope} {pos pos':Pos} {it:aI->R (List PyData)} {b:PyData->aI->Option aI} {t:aI->R Bool} {f:Fe} {N:List Str} {own:Nat} {G G0:List Str} {fr:List Nat} {nl:Nat}
    (T:Tb X nl G0) (ck:ej sc N own G X.N fr) (hout:∀ y∈sc.names,y.2=.free->X.env.kindOf y.1=some .cell\/X.env.kindOf y.1=some .free) (hi:re X tg iter it)
    (hb0:∀ ρ d ρ1,b d (av own fr ρ)=some ρ1->kI (av own fr ρ) ρ1)
    (hbody:∀ cl C s H fp E,Tb (aK X N sc cl C s H fp E) own G->sj (aK X N sc cl C s H fp E) tg b/\sQ (aK X N sc cl C s H fp E) ifs t/\cD (aK X N sc cl C s H fp E) elt f)
    (hs:∀ x,foldedSetIterable iter X.env x=pure x) {use:Option (Value->Sem Unit)} {Qc:Value->Shared->Prop} {pins:List (Addr×Obj)} {s:Shared} {σ:St} {H:Hp} (I:ay X pins σ H s) {ρ:aI} {ds:List PyData} {r:R (List PyData)} (sl:Sl H σ ρ) (ei:it ρ=.ok ds)
    (hsz:ds.length<=sizeLine) (ec:cw b t f (av own fr ρ) ds=r) (hX:∀ c,r=.ex c->Xw X c H) (hno:r≠.no) (hstk:∃ env0 outer0 L,X.stack=env0::outer0/\env0.frame=some L/\X.env.frame=some L)
    (fin:∀ (xs:List PyData) (a C:Addr) (H':Hp) (s':Shared) (m:Str->Option Value) (vs:List V),r=.ok xs->ay X pins σ H' s'->lW X pins H' C->s'.heap.Ns C m->aq H H'->H a=none->H' a=some (.lst vs)->br H' xs vs->compPost (model X.prog X.w) X.A X.xe use Qc (.ref a) C (.ok .next) s') :
    wpAny (model X.prog X.w) X.A (comprehension (.ListComp elt [⟨tg,iter,ifs,0⟩] sc pos) sc X.env pos' (newList []) false (eval iter X.env) use) Qc X.xe s:=by
  obtain ⟨cl,hcl,hcl1,hcl2⟩:=qp (scope:=sc) (env:=X.env) fun x hx hf=>I.ok.has _ (hout x hx hf)
  have ck':=ck;obtain ⟨ck1,ck2,ck3,_,_,_,_,_,_,ofr⟩:=ck';have hin:∀ i∈fr,i < ρ.length:=fun i hi=>by
    have e1:ρ.length=X.N.length:=by rw [<- sl.1];exact I.len
    rw [e1];obtain ⟨k,hk⟩:=List.getElem?_of_mem hi;have q:=congrArg (fun l=>l[k]?) ofr;simp only [List.getElem?_map,hk,Option.map_some] at q;cases z:(N.drop own)[k]? with
    | none=>rw [z] at q;cases q
    | some y =>
      rw [z] at q;have q':some y=X.N[i]?:=Option.some.inj q;exact (List.getElem?_eq_some_iff.mp q'.symm).1
  refine wpAny_comprehension_free (use:=use) rfl hs hcl ck1 ck3 ?_;refine dc (hi pins s σ H (fun J H1=>aq H H1/\∃ Gd,yq J Gd ds/\An H1 (fun _=>False) Gd) I ⟨ρ,sl,by rw [ei];exact fun J H1 s1 z=>⟨s1,z⟩⟩) fun xv s1 h1=>dc h1 fun itv s2 h2=>?_
  obtain ⟨itA,fp,tn,J,H2,e,I2,T2,st2,f2,s02,Gd,idt,sta⟩:=h2;subst e;refine wpAny_newObj_type (wpAny_newFunctionEnv ck2 (by intro y hy;simp at hy) (fun h₁ hns₁ hsb₁=>?_) ck1);dsimp only at hns₁ hsb₁ ⊢;generalize hHp:s2.heap.push { cls:=.type "list",dict:=none,data:=.seq ([]:List Value).toArray }=Hp2 at hns₁ hsb₁ ⊢;have hC:Hp2.objs.size=s2.heap.objs.size+1:=by rw [<- hHp,Heap.size_push]
  have hDC:s2.heap.objs.size≠Hp2.objs.size:=by rw [hC];exact Nat.ne_of_lt (Nat.lt_succ_self _)
  have hCle:s2.heap.objs.size<=Hp2.objs.size:=by rw [hC];exact Nat.le_succ _
  have below:∀ b,b < s2.heap.objs.size->b≠Hp2.objs.size:=fun b hb=>by rw [hC];exact Nat.ne_of_lt (Nat.lt_succ_of_lt hb)
  have old:∀ b o,s2.heap.get? b=some o->h₁.get? b=some o:=fun b o e=>hsb₁.extBut b o (below b (Heap.lt_size e)) (Heap.get?_push_of_some _ (hHp ▸ Heap.get?_push_of_some _ e))
  have hacc:h₁.get? s2.heap.objs.size=some { cls:=.type "list",dict:=none,data:=.seq ([]:List Value).toArray }:=hsb₁.extBut _ _ hDC (Heap.get?_push_of_some _ (hHp ▸ Heap.get?_push_size _ rfl));have hob:∀ b∈fp,b < s2.heap.objs.size:=fun b hb=>by
    obtain ⟨o,e,_⟩:=T2.obj _ _ st2 b hb;exact Heap.lt_size e
  have sl2:Sl H2 σ ρ:=sl.mono s02;have IC:ay (aK X N sc cl Hp2.objs.size s2 H2 fp) [] (fY own fr σ) (dk H2 s2.heap.objs.size (.lst [])) { s2 with heap:=h₁,toks:=s2.toks+([]:List (Str×Value)).length } :=
    tK I2 ck f2 hob hcl1 hcl2 (fun x hx=>(T.vis x hx).1) hout (Nat.le_refl _) hCle hDC old hacc hns₁
  let E:Value->Shared->Prop:=fun e s'=>∃ c Ce pins' σ' H' s1 H1,r=.ex c/\X.mg c=some (.ref Ce)/\ay (aK X N sc cl Hp2.objs.size s2 H2 fp) pins' σ' H' s1/\aq H2 H1/\nJ X.prog X.w X.stack H' s1 Ce H1 e s'
  obtain ⟨hg,ht,hf⟩:=hbody cl Hp2.objs.size s2 H2 fp E (ve T ck cl Hp2.objs.size s2 H2 fp E);have ha0:H2 s2.heap.objs.size=none:=I2.hok.fresh (Nat.le_refl _);have hfp:∀ H':Hp,(∀ b∈fp,H' b=none)->∀ b∈fp,lW (aK X N sc cl Hp2.objs.size s2 H2 fp E) [] H' b:=fun H' hn b hb =>
    ⟨hn b hb,below b (hob b hb),fun z=>by
      rcases List.mem_cons.mp (I2.stkSub b z) with y | y
      · exact (f2 b hb).2.1 y
      · exact (f2 b hb).2.2.1 y,.inl hb,fun x c e=>(f2 b hb).2.2.2.2.1 x c (hcl1 x c e),fun p hp=>absurd (show p∈([]:List (Addr×Obj)) from hp) (by simp)⟩
  have st3:tn 0 h₁:=T2.keep _ _ _ st2 fun b _ o e=>old b o e
  have slC:Sl H2 (fY own fr σ) (av own fr ρ):=wp sl2 own fr hin;have fin':∀ xs s' σ' H' vs,r=.ok xs->ay (aK X N sc cl Hp2.objs.size s2 H2 fp E) [] σ' H' s'->aq H2 H'->H' s2.heap.objs.size=some (.lst vs)->br H' xs vs ->
      compPost (model X.prog X.w) X.A X.xe use Qc (.ref s2.heap.objs.size) Hp2.objs.size (.ok .next) s':=fun xs s' σ' H' vs hr J' s2' hv rv=>by
    obtain ⟨m,hn,_⟩:=J'.loc;exact fin xs _ _ H' s' m vs hr (I2.call' (s':=s') (ch:=fp) J'.os J'.base J'.hok J'.bare (fun b hb=>⟨(f2 b hb).2.2.2.1,(f2 b hb).2.1,(f2 b hb).2.2.2.2.1,(f2 b hb).2.2.2.2.2⟩)) (I2.fpOk hCle J'.free) hn (s02.trans s2') (s02.free ha0) hv rv
  have hXc:∀ c,r=.ex c->Xw (aK X N sc cl Hp2.objs.size s2 H2 fp E) c H2:=fun c hr H1 s1 Ce hm pins' σ' H' s1' e s' J f =>
    ⟨c,Ce,pins',σ',H',s1',H1,hr,hm,J.unwish,s1,f⟩
  have hxe:∀ e s',E e s'->notedBy (model X.prog X.w) X.A (compEnvC sc cl Hp2.objs.size X.env) (fun x s'=>compPost (model X.prog X.w) X.A X.xe use Qc (.ref s2.heap.objs.size) Hp2.objs.size (.error x) s') e s':=fun e s' hE=>by
    obtain ⟨c,Ce,pins',σ',H',s1,H1,hr,hm,J,same1,f⟩:=hE;obtain ⟨env0,outer0,L,k1,k2,k3⟩:=hstk;refine f.note k1 I.ok.frames k2 k3 fun h4 f4 up=>?_
    obtain ⟨m,hn,_⟩:=(f4.inv (X:=aK X N sc cl Hp2.objs.size s2 H2 fp) J).loc;refine ⟨m,hn,fun h5 sb cenv _=>?_⟩;have fC:=I2.fpOk hCle J.free;have fC1:H1 Hp2.objs.size=none:=(f4.inv (X:=aK X N sc cl Hp2.objs.size s2 H2 fp) J).free;have nfr:Hp2.objs.size∉ja X.stack:=fun z=>by
      rcases List.mem_cons.mp (I2.stkSub _ z) with y | y
      · exact fC.2.1 y
      · exact fC.2.2.1 y
    have Io:=I2.call' (s':=s1) (ch:=fp) J.os J.base J.hok J.bare (fun b hb=>⟨(f2 b hb).2.2.2.1,(f2 b hb).2.1,(f2 b hb).2.2.2.2.1,(f2 b hb).2.2.2.2.2⟩);have Io2:ay X pins σ H' { s1 with heap:=PySem.W.hideAll s1.heap [Hp2.objs.size],toks:=s1.toks }:=by
      obtain ⟨g0,g1,g2,g3,g4,g5⟩:=fC;exact Io.turned (t':=s1.toks) (fun b o hb q=>PySem.W.hideAll_get _ q (by simpa using hb)) g0 g1 g3 g4 g5
    obtain ⟨p,a0,B,rfl,t,okB,hp,cov⟩:=f4.ex;have stB:(PySem.W.hideAll B [Hp2.objs.size]).StaysIn B:=fun b o q=>PySem.W.of_hideAll _ q
    have hid:∀ {h:Heap} {b:Addr} {o:Obj},(PySem.W.hideAll h [Hp2.objs.size]).get? b=some o->b≠Hp2.objs.size:=fun {h b o} q z=>by
      rw [PySem.W.hideAll_none _ (by rw [z];exact List.mem_singleton.mpr rfl)] at q;cases q
    have tp:∀ b o,b≠Hp2.objs.size->h4.get? b=some o->h5.get? b=some o:=fun b o hb q=>(sb.2 b hb).trans q
    have ne_e:p≠Hp2.objs.size:=fun z=>by
      obtain ⟨oe,vs,q1,_,q2,_⟩:=t.first;obtain ⟨o,es,ep,q3,q4,_⟩:=hn;have q3':h4.get? Hp2.objs.size=some o:=q3;rw [<- z,q1] at q3';cases q3';rw [q2] at q4;cases q4
    have f5:nJ X.prog X.w X.stack H' { s1 with heap:=PySem.W.hideAll s1.heap [Hp2.objs.size],toks:=s1.toks } Ce H1 (.ref p) { s' with heap:=h5 }:=by
      refine ⟨f4.os,f4.bare,f4.same,⟨p,a0,PySem.W.hideAll B [Hp2.objs.size],rfl,?_,?_,hp,fun b o q n hb=>?_⟩,fun b o q n hb=>?_⟩
      · obtain ⟨t1,t2,t3,fl,oe,vs,T',oT,ts,a1,a2,a3,a4,a5,a6,a7,a8,a9⟩:=t;refine ⟨fun b o q=>tp b o (hid q) (t1 b o (stB b o q)),PySem.W.fresh_of_stays stB t2,iK tp nfr (PySem.W.funFrames_base stB t3),fl,oe,vs,T',oT,ts,tp _ _ ne_e a1,a2,a3,a4,PySem.W.fresh_of_stays stB a5,a6,tp _ _ ?_ a7,a8,a9⟩;intro z;obtain ⟨o,es,ep,q3,q4,_⟩:=hn;have q3':h4.get? Hp2.objs.size=some o:=q3;have a7':h4.get? T'=some oT:=a7;rw [<- z,a7'] at q3';cases q3';rw [a8] at q4;cases q4
      · exact fI.but okB fC1 fun b o hb q=>PySem.W.hideAll_get _ q (by simpa using hb)
      · obtain ⟨z1,z2⟩:=cov b o (PySem.W.of_hideAll _ q) n hb;exact ⟨PySem.W.hideAll_get _ z1 (by simpa using hid q),z2⟩
      · obtain ⟨⟨sl',z1⟩,z2⟩:=f4.slot b o (PySem.W.of_hideAll _ q) n hb;exact ⟨⟨sl',tp b _ (hid q) z1⟩,z2⟩
    refine f5.pass fun h6 f6=>?_
    exact hX c hr H1 (s02.trans same1) Ce hm pins σ H' _ _ _ Io2 f6
  have loop:=sS (X:=aK X N sc cl Hp2.objs.size s2 H2 fp E) (iter:=iter) (scope:=sc) (pos:=pos) T2 T.calm hfp hxe hXc hno hg ht hf idt sta hsz ha0 (fun d ρ1 e=>hb0 ρ d ρ1 e) fin' (IC.wish E) st3 (fun b hb=>by
      show dk H2 s2.heap.objs.size (.lst []) b=none;rw [aH (Nat.ne_of_lt (hob b hb))];exact (f2 b hb).1) (cu ha0 _) bJ ec (slC.mono (cu ha0 _)) (fun i e h=>by
      obtain ⟨o,z1,v,rfl,z2⟩:=slC.at h;exact ⟨v,z1,z2⟩)
  exact codeAny_compStart_list loop (T2.self _ 0 _ _ _ st3 loop)
theorem n5 {X:Cx} {tg iter elt:Expr} {ifs:List Expr} {sc:Scope} {pos:Pos} {it:aI->R (List PyData)} {b:PyData->aI->Option aI} {t:aI->R Bool} {f:Fe} {N:List Str} {own:Nat} {G G0:List Str} {fr:List Nat} {nl:Nat}
    (T:Tb X nl G0) (ck:ej sc N own G X.N fr) (hout:∀ y∈sc.names,y.2=.free->X.env.kindOf y.1=some .cell\/X.env.kindOf y.1=some .free) (hi:re X tg iter it)
    (hb0:∀ ρ d ρ1,b d (av own fr ρ)=some ρ1->kI (av own fr ρ) ρ1)
    (hbody:∀ cl C s H fp E,Tb (aK X N sc cl C s H fp E) own G->sj (aK X N sc cl C s H fp E) tg b/\sQ (aK X N sc cl C s H fp E) ifs t/\cD (aK X N sc cl C s H fp E) elt f)
    (hs:∀ x,foldedSetIterable iter X.env x=pure x:=by intro _;rfl) (hstk:∃ env0 outer0 L,X.stack=env0::outer0/\env0.frame=some L/\X.env.frame=some L:=by exact ⟨_,_,_,rfl,rfl,rfl⟩):k7 X (.ListComp elt [⟨tg,iter,ifs,0⟩] sc pos) (cR it own fr b t f):=by
  intro pins s σ H Q I h;obtain ⟨ρ,sl,q⟩:=h;unfold cR at q;rw [eval_ListComp];cases ei:it ρ with
  | ex c=>rw [ei] at q;exact q.elim
  | no=>rw [ei] at q;exact q.elim
  | ok ds =>
    rw [ei] at q;simp only [ma,R.ok_bind] at q;split at q
    · rename_i hsz;cases ec:cw b t f (av own fr ρ) ds with
      | no=>rw [ec] at q;exact q.elim
      | ex c =>
        rw [ec] at q;exact ju (use:=none) T ck hout hi hb0 hbody hs I sl ei hsz ec (fun c' hr=>by cases hr;exact q) (fun z=>nomatch z) hstk fun xs a C H' s' m vs hr=>by cases hr
      | ok xs =>
        rw [ec] at q;refine ju (use:=none) T ck hout hi hb0 hbody hs I sl ei hsz ec (fun c' hr=>by cases hr) (fun z=>nomatch z) hstk fun xs' a C H' s' m vs hr I' fC hn s2' ha hv rv=>?_
        cases hr;obtain ⟨f0,f1,f2,f3,f4,f5⟩:=fC;refine ⟨m,hn,fun h' sb=>⟨.ref a,H',I'.turned (t':=s'.toks) (fun b o hb e=>sb.extBut b o hb e) f0 f1 f3 f4 f5,rfl,?_⟩⟩;refine q _ H' s2' ⟨?_,_,rfl,ha⟩;simp only [gQ];exact ⟨_,vs,rfl,hv,rv⟩
    · exact q.elim
theorem yK {X:Cx} {tg iter elt:Expr} {ifs:List Expr} {sc:Scope} {pos:Pos} {it:aI->R (List PyData)} {b:PyData->aI->Option aI} {t:aI->R Bool} {f:Fe} {N:List Str} {own:Nat} {G G0:List Str} {fr:List Nat} {nl:Nat} (T:Tb X nl G0) (ck:ej sc N own G X.N fr) (hout:∀ y∈sc.names,y.2=.free->X.env.kindOf y.1=some .cell\/X.env.kindOf y.1=some .free) (hi:Z.re X tg iter it) (hb0:∀ ρ d ρ1,b d (av own fr ρ)=some ρ1->kI (av own fr ρ) ρ1) (hbody:∀ cl C s H fp E,Tb (aK X N sc cl C s H fp E) own G->Z.sj (aK X N sc cl C s H fp E) tg b/\Z.sQ (aK X N sc cl C s H fp E) ifs t/\Z.cD (aK X N sc cl C s H fp E) elt f) (hs:∀ x,foldedSetIterable iter X.env x=pure x:=by intro _;rfl) (hstk:∃ env0 outer0 L,X.stack=env0::outer0/\env0.frame=some L/\X.env.frame=some L:=by exact ⟨_,_,_,rfl,rfl,rfl⟩):Z.k7 X (.ListComp elt [⟨tg,iter,ifs,0⟩] sc pos) (cR it own fr b t f) :=
  ⟨D2.n5 T ck hout hi.un hb0 (fun cl C s H fp E T=>let ⟨q1,q2,q3⟩:=hbody cl C s H fp E T;⟨q1.un,q2.un,q3.un⟩) hs hstk⟩
theorem vU {X:Cx} {tg iter elt:Expr} {ifs:List Expr} {sc:Scope} {pos py spos:Pos} {it:aI->R (List PyData)} {b:PyData->aI->Option aI} {t:aI->R Bool} {f:Fe} {N:List Str} {own:Nat} {G G0:List Str} {fr:List Nat} {nl:Nat} {y:Str} {i:Nat}
    (T:Tb X nl G0) (ck:ej sc N own G X.N fr) (hout:∀ y∈sc.names,y.2=.free->X.env.kindOf y.1=some .cell\/X.env.kindOf y.1=some .free) (hi:re X tg iter it)
    (hb0:∀ ρ d ρ1,b d (av own fr ρ)=some ρ1->kI (av own fr ρ) ρ1)
    (hbody:∀ cl C s H fp E,Tb (aK X N sc cl C s H fp E) own G->sj (aK X N sc cl C s H fp E) tg b/\sQ (aK X N sc cl C s H fp E) ifs t/\cD (aK X N sc cl C s H fp E) elt f)
    (hN:(X.N.take nl)[i]?=some y) (hsw:swapsWith (.ListComp elt [⟨tg,iter,ifs,0⟩] sc pos) (some (.Name y py)) spos.line X.env=pure true)
    (hs:∀ x,foldedSetIterable iter X.env x=pure x:=by intro _;rfl) (hstk:∃ env0 outer0 L,X.stack=env0::outer0/\env0.frame=some L/\X.env.frame=some L:=by exact ⟨_,_,_,rfl,rfl,rfl⟩):jY X (.Assign [.Name y py] (.ListComp elt [⟨tg,iter,ifs,0⟩] sc pos) spos) (i6 i (cR it own fr b t f)):=fun Fm=>by
  intro pins s σ H D I h;obtain ⟨ρ,sl,q⟩:=h;unfold i6 cR at q;obtain ⟨hNi,hl,hf⟩:=T.nm hN;cases ei:it ρ with
  | ex c=>rw [ei] at q;exact q.elim
  | no=>rw [ei] at q;exact q.elim
  | ok ds =>
    rw [ei] at q;simp only [ma,R.ok_bind] at q;by_cases hsz:ds.length<=sizeLine
    · rw [if_pos hsz] at q;cases ec:cw b t f (av own fr ρ) ds with
      | no=>rw [ec] at q;exact q.elim
      | ex c =>
        rw [ec] at q;rw [exec_Assign_Name_used _ _ _ _ hsw];refine wpAny_bind (wpAny_standAt (wpAny_bind ?_));show wpAny _ X.A (do let _ <- comprehension (.ListComp elt [⟨tg,iter,ifs,0⟩] sc pos) sc X.env _ (newList []) false (eval iter X.env) (some (assign (.Name y py) X.env))) _ _ s;exact wpAny_bind (dc (ju (use:=some (assign (.Name y py) X.env)) (Qc:=fun _ s'=>False) T ck hout hi hb0 hbody hs I sl.sl ei hsz ec (fun c' hr=>by cases hr;exact q.1.mono sl.fm) (fun z=>nomatch z) hstk fun xs a C H' s' m vs hr=>by cases hr) fun _ s' hq=>hq.elim)
      | ok xs =>
        rw [ec] at q;rw [exec_Assign_Name_used _ _ _ _ hsw];refine wpAny_bind (wpAny_standAt (wpAny_bind ?_));show wpAny _ X.A (do let _ <- comprehension (.ListComp elt [⟨tg,iter,ifs,0⟩] sc pos) sc X.env _ (newList []) false (eval iter X.env) (some (assign (.Name y py) X.env))) _ _ s;refine wpAny_bind (dc (ju (use:=some (assign (.Name y py) X.env)) (Qc:=fun _ s'=>SP X pins D .next s') T ck hout hi hb0 hbody hs I sl.sl ei hsz ec (fun c' hr=>by cases hr) (fun z=>nomatch z) hstk fun xs' a C H' s' m vs hr I' fC hn s2' ha hv rv=>?_) fun _ s' hq=>wpAny_pure (wpAny_pure hq));cases hr;obtain ⟨f0,f1,f2,f3,f4,f5⟩:=fC;show wpAny _ X.A (assign (.Name y py) X.env (.ref a)) _ _ _;refine wpAny_assign_Name (mf I' T.nd hNi hl (v:=.ref a) rfl (fun s'' I'' k=>?_) hf);have sls:gw Fm H' (σ.set i (some (.ref a))) (ρ.set i (.own (.list xs))):=gw.setOwn sl (sl.mono s2') s2' i ⟨by simp only [gQ];exact ⟨a,vs,rfl,hv,rv⟩,a,rfl,ha⟩;refine ⟨m,?_,fun h' sb=>⟨_,H',I''.turned (t':=s''.toks) (fun b o hb e=>sb.extBut b o hb e) f0 f1 f3 f4 f5,q _ H' sls⟩⟩;obtain ⟨a',sb',ha'⟩:=k;refine hn.sameBut sb' ?_;rcases ha' with rfl | ha'
        · exact f1
        · exact Ne.symm (f4 y a' ha')
    · rw [if_neg hsz] at q;exact q.elim
theorem gw.freeze {Fm H:Hp} {σ:St} {ρ:aI} {i:Nat} {d:PyData} {a:Addr} {u:HO} {o:Obj} (h:gw Fm H σ ρ) (h1:ρ[i]?=some (.own d)) (h2:σ[i]?=some (some (.ref a))) (hu:H a=some u) (hm:(∃ xs,u=.lst xs)\/∃ ks,u=.dK ks)
    (hr:Rp (dk H a (.frz o u)) d (.ref a)):gw Fm (dk H a (.frz o u)) σ (ρ.set i (.val d)):=by
  have hFa:=h.own i d a h1 h2;have kp:Kp H (dk H a (.frz o u)):=gm hu hm;refine ⟨fun b x e=>?_,⟨by rw [List.length_set];exact h.sl.1,fun j c w' e1 e2=>?_⟩,fun j e b e1 e2=>?_,fun j k e f b e1 e2 e3 e4=>?_⟩
  · rw [aH (aZ e hFa)];exact h.fm b x e
  · rw [List.getElem?_set] at e1;by_cases hij:i=j
    · subst hij;rw [if_pos rfl] at e1;split at e1
      · cases e1;rw [h2] at e2;cases e2;exact ⟨_,rfl,hr⟩
      · cases e1
    · rw [if_neg hij] at e1;have q:=h.sl.2 j c w' e1 e2;cases c with
      | exc p=>exact q
      | non=>exact True.intro
      | val d'=>obtain ⟨v,z1,z2⟩:=q;exact ⟨v,z1,Rp.kp kp _ _ z2⟩
      | own d' =>
        obtain ⟨v,z1,z2⟩:=q;subst z1;obtain ⟨b,ob,rfl,hb⟩:=nD z2;have nb:b≠a:=fun z=>hij (by subst z;exact h.apart i j d d' b h1 e1 h2 e2)
        refine ⟨_,rfl,?_⟩;cases d' <;> simp only [gQ] at z2 ⊢
        · obtain ⟨b',vs,e,hb',r⟩:=z2;cases e;exact ⟨b,vs,rfl,by rw [aH nb];exact hb',br.kp kp _ _ r⟩
        · obtain ⟨b',vs,e,hb',r⟩:=z2;cases e;exact ⟨b,vs,rfl,by rw [aH nb];exact hb',cZ.kp kp _ _ r⟩
  · obtain ⟨ne,e1⟩:=c8 (fun e z=>by cases z) e1;exact h.own j e b e1 e2
  · obtain ⟨ne,e1⟩:=c8 (fun e z=>by cases z) e1;obtain ⟨ne',e2⟩:=c8 (fun e z=>by cases z) e2;exact h.apart j k e f b e1 e2 e3 e4
theorem xO {X:Cx} {pins:List (Addr×Obj)} {s:Shared} {Fm H:Hp} {σ:St} {ρ:aI} {i:Nat} {d:PyData} (I:ay X pins σ H s) (h:gw Fm H σ ρ) (h1:ρ[i]?=some (.own d)) :
    ∃ H' v,ay X pins σ H' s/\gw Fm H' σ (ρ.set i (.val d))/\σ[i]?=some (some v)/\Rp H' d v:=by
  obtain ⟨w',h2,v,rfl,q⟩:=h.sl.at h1;cases d <;> simp only [gQ] at q
  · rename_i ds;obtain ⟨a,vs,rfl,ha,r⟩:=q;obtain ⟨o,J⟩:=iO I ha (.inl ⟨_,rfl⟩);have hr:Rp (dk H a (.frz o (.lst vs))) (.list ds) (.ref a):=by
      simp only [Rp];exact ⟨a,o,vs,rfl,bJ,br.kp (gm ha (.inl ⟨_,rfl⟩)) _ _ r⟩
    exact ⟨_,_,J,h.freeze h1 h2 ha (.inl ⟨_,rfl⟩) hr,h2,hr⟩
  · rename_i ds;obtain ⟨a,vs,rfl,ha,r⟩:=q;obtain ⟨o,J⟩:=iO I ha (.inr ⟨_,rfl⟩);have hr:Rp (dk H a (.frz o (.dK vs))) (.dict ds) (.ref a):=by
      simp only [Rp];exact .inl ⟨a,o,vs,rfl,bJ,cZ.kp (gm ha (.inr ⟨_,rfl⟩)) _ _ r⟩
    exact ⟨_,_,J,h.freeze h1 h2 ha (.inr ⟨_,rfl⟩) hr,h2,hr⟩
theorem jY.fz {X:Cx} {st:Stmt} {i:Nat} {f:Fe} (h:jY X st (i6 i f)) (hi:i < X.N.length):jY X st (cm i f):=fun Fm=>by
  intro pins s σ H D I ⟨ρ,sl,q⟩;unfold cm at q;cases ef:f ρ with
  | ex c=>rw [ef] at q;exact h Fm pins s σ H D I ⟨ρ,sl,by unfold i6;rw [ef];exact q⟩
  | no=>rw [ef] at q;exact q.elim
  | ok d =>
    rw [ef] at q;have hr:tH X Fm (i6 i f) { nx:=fun σ' H'=>gw Fm H' σ' (ρ.set i (.own d)),rt:=fun _ _=>False } σ H:=⟨ρ,sl,by unfold i6;rw [ef];exact fun σ' H' s'=>s'⟩
    refine dc (h Fm pins s σ H _ I hr) fun fl s' z=>?_
    cases fl with
    | next =>
      obtain ⟨σ',H',I',sls⟩:=z;have hi':i < ρ.length:=by rw [<- sl.sl.1,I.len];exact hi
      obtain ⟨H2,v,I2,sl2,_,_⟩:=xO I' sls (i:=i) (d:=d) (by rw [List.getElem?_set,if_pos rfl,if_pos hi']);rw [List.set_set] at sl2;exact ⟨σ',H2,I2,q σ' H2 sl2⟩
    | brk=>obtain ⟨_,_,_,z⟩:=z;exact z.elim
    | cont=>obtain ⟨_,_,_,z⟩:=z;exact z.elim
    | ret u=>obtain ⟨_,_,_,_,_,z⟩:=z;exact z.elim
theorem ur {X:Cx} {st:Stmt} {i:Nat} {f:Fe} (h:Z.jY X st (i6 i f)) (hi:i < X.N.length):Z.jY X st (cm i f) :=
  ⟨D2.jY.fz h.un hi⟩
noncomputable def vp (i:Nat):Fs:=fun ρ=>match ρ[i]? with
  | some (.own d)=>.ok (.rt d)
  | some (.val d)=>.ok (.rt d)
  | _=>.no
theorem sX {X:Cx} {nl:Nat} {G:List Str} {x:Str} {p pos:Pos} (T:Tb X nl G) (i:Nat) (hN:X.N[i]?=some x):Z.jY X (.Return (some (.Name x p)) pos) (vp i):=⟨fun Fm=>by
  intro pins s σ H D I ⟨ρ,sl,q⟩;have hm:=T.vis x (List.mem_of_getElem? hN);unfold vp at q;split at q
  · rename_i d e;obtain ⟨H2,v,I2,sl2,h2,r⟩:=xO I sl e;exact qt (fA hN hm.1 hm.2.1 hm.2.2) pins s σ H2 D I2 ⟨v,h2,q v H2 sl2.fm r⟩
  · rename_i d e;obtain ⟨o,h1,v,rfl,h2⟩:=sl.sl.at e;exact qt (fA hN hm.1 hm.2.1 hm.2.2) pins s σ H D I ⟨v,h1,q v H sl.fm h2⟩
  · exact q.elim⟩
theorem sF {X:Cx} {tg iter elt:Expr} {ifs:List Expr} {sc:Scope} {pos:Pos} {it:aI->R (List PyData)} {b:PyData->aI->Option aI} {t:aI->R Bool} {f:Fe} {N:List Str} {own:Nat} {G G0:List Str} {fr:List Nat} {nl:Nat}
    (T:Tb X nl G0) {oN:List Str} {on:List (Str×NameKind)} (hoN:X.N=oN) (hon:X.env.scope.names=on)
    (ck:ej sc N own G oN fr/\∀ y∈sc.names,y.2=.free->on.lookup y.1=some .cell\/on.lookup y.1=some .free) (hi:re X tg iter it)
    (hb0:∀ ρ d ρ1,b d (av own fr ρ)=some ρ1->kI (av own fr ρ) ρ1)
    (hbody:∀ cl C s H fp E,Tb (aK X N sc cl C s H fp E) own G->sj (aK X N sc cl C s H fp E) tg b/\sQ (aK X N sc cl C s H fp E) ifs t/\cD (aK X N sc cl C s H fp E) elt f)
    (hs:∀ x,foldedSetIterable iter X.env x=pure x:=by intro _;rfl) (hstk:∃ env0 outer0 L,X.stack=env0::outer0/\env0.frame=some L/\X.env.frame=some L:=by exact ⟨_,_,_,rfl,rfl,rfl⟩):k7 X (.ListComp elt [⟨tg,iter,ifs,0⟩] sc pos) (cR it own fr b t f) :=
  n5 T (by rw [hoN];exact ck.1) (fun y hy hf=>by unfold Env.kindOf;rw [hon];exact ck.2 y hy hf) hi hb0 hbody hs hstk
theorem cL {X:Cx} {tg iter elt:Expr} {ifs:List Expr} {sc:Scope} {pos:Pos} {it:aI->R (List PyData)} {b:PyData->aI->Option aI} {t:aI->R Bool} {f:Fe} {N:List Str} {own:Nat} {G G0:List Str} {fr:List Nat} {nl:Nat} (T:Tb X nl G0) {oN:List Str} {on:List (Str×NameKind)} (hoN:X.N=oN) (hon:X.env.scope.names=on) (ck:ej sc N own G oN fr/\∀ y∈sc.names,y.2=.free->on.lookup y.1=some .cell\/on.lookup y.1=some .free) (hi:Z.re X tg iter it) (hb0:∀ ρ d ρ1,b d (av own fr ρ)=some ρ1->kI (av own fr ρ) ρ1) (hbody:∀ cl C s H fp E,Tb (aK X N sc cl C s H fp E) own G->Z.sj (aK X N sc cl C s H fp E) tg b/\Z.sQ (aK X N sc cl C s H fp E) ifs t/\Z.cD (aK X N sc cl C s H fp E) elt f) (hs:∀ x,foldedSetIterable iter X.env x=pure x:=by intro _;rfl) (hstk:∃ env0 outer0 L,X.stack=env0::outer0/\env0.frame=some L/\X.env.frame=some L:=by exact ⟨_,_,_,rfl,rfl,rfl⟩):Z.k7 X (.ListComp elt [⟨tg,iter,ifs,0⟩] sc pos) (cR it own fr b t f) :=
  ⟨D2.sF T hoN hon ck hi.un hb0 (fun cl C s H fp E T=>let ⟨q1,q2,q3⟩:=hbody cl C s H fp E T;⟨q1.un,q2.un,q3.un⟩) hs hstk⟩
theorem wy {X:Cx} {tg iter elt:Expr} {ifs:List Expr} {sc:Scope} {pos py spos:Pos} {it:aI->R (List PyData)} {b:PyData->aI->Option aI} {t:aI->R Bool} {f:Fe} {N:List Str} {own:Nat} {G G0:List Str} {fr:List Nat} {nl:Nat} {y:Str} (i:Nat)
    (hN:(X.N.take nl)[i]?=some y) (T:Tb X nl G0) {oN:List Str} {on:List (Str×NameKind)} (hoN:X.N=oN) (hon:X.env.scope.names=on)
    (ck:ej sc N own G oN fr/\∀ y∈sc.names,y.2=.free->on.lookup y.1=some .cell\/on.lookup y.1=some .free) (hi:re X tg iter it)
    (hb0:∀ ρ d ρ1,b d (av own fr ρ)=some ρ1->kI (av own fr ρ) ρ1)
    (hbody:∀ cl C s H fp E,Tb (aK X N sc cl C s H fp E) own G->sj (aK X N sc cl C s H fp E) tg b/\sQ (aK X N sc cl C s H fp E) ifs t/\cD (aK X N sc cl C s H fp E) elt f)
    (hsw:swapsWith (.ListComp elt [⟨tg,iter,ifs,0⟩] sc pos) (some (.Name y py)) spos.line X.env=pure true:=by rfl)
    (hs:∀ x,foldedSetIterable iter X.env x=pure x:=by intro _;rfl) (hstk:∃ env0 outer0 L,X.stack=env0::outer0/\env0.frame=some L/\X.env.frame=some L:=by exact ⟨_,_,_,rfl,rfl,rfl⟩):jY X (.Assign [.Name y py] (.ListComp elt [⟨tg,iter,ifs,0⟩] sc pos) spos) (i6 i (cR it own fr b t f)) :=
  vU T (by rw [hoN];exact ck.1) (fun y hy hf=>by unfold Env.kindOf;rw [hon];exact ck.2 y hy hf) hi hb0 hbody hN hsw hs hstk
theorem sq {X:Cx} {tg iter elt:Expr} {ifs:List Expr} {sc:Scope} {pos py spos:Pos} {it:aI->R (List PyData)} {b:PyData->aI->Option aI} {t:aI->R Bool} {f:Fe} {N:List Str} {own:Nat} {G G0:List Str} {fr:List Nat} {nl:Nat} {y:Str} (i:Nat) (hN:(X.N.take nl)[i]?=some y) (T:Tb X nl G0) {oN:List Str} {on:List (Str×NameKind)} (hoN:X.N=oN) (hon:X.env.scope.names=on) (ck:ej sc N own G oN fr/\∀ y∈sc.names,y.2=.free->on.lookup y.1=some .cell\/on.lookup y.1=some .free) (hi:Z.re X tg iter it) (hb0:∀ ρ d ρ1,b d (av own fr ρ)=some ρ1->kI (av own fr ρ) ρ1) (hbody:∀ cl C s H fp E,Tb (aK X N sc cl C s H fp E) own G->Z.sj (aK X N sc cl C s H fp E) tg b/\Z.sQ (aK X N sc cl C s H fp E) ifs t/\Z.cD (aK X N sc cl C s H fp E) elt f) (hsw:swapsWith (.ListComp elt [⟨tg,iter,ifs,0⟩] sc pos) (some (.Name y py)) spos.line X.env=pure true:=by rfl) (hs:∀ x,foldedSetIterable iter X.env x=pure x:=by intro _;rfl) (hstk:∃ env0 outer0 L,X.stack=env0::outer0/\env0.frame=some L/\X.env.frame=some L:=by exact ⟨_,_,_,rfl,rfl,rfl⟩):Z.jY X (.Assign [.Name y py] (.ListComp elt [⟨tg,iter,ifs,0⟩] sc pos) spos) (i6 i (cR it own fr b t f)) :=
  ⟨D2.wy i hN T hoN hon ck hi.un hb0 (fun cl C s H fp E T=>let ⟨q1,q2,q3⟩:=hbody cl C s H fp E T;⟨q1.un,q2.un,q3.un⟩) hsw hs hstk⟩
theorem df {own:Nat} {fr:List Nat} {i:Nat} (h:i < own):∀ ρ d ρ1,bn i d (av own fr ρ)=some ρ1->kI (av own fr ρ) ρ1:=fun ρ d ρ1 e=>by
  have e':ρ1=(av own fr ρ).set i (.val d):=(Option.some.inj e).symm;subst e';refine ⟨by rw [List.length_set],fun j c hj=>?_⟩;by_cases hij:i=j
  · subst hij;left;unfold av at hj;rw [List.getElem?_append_left (by simpa using h),List.getElem?_replicate,if_pos h] at hj;exact (Option.some.inj hj).symm
  · right;rw [List.getElem?_set,if_neg hij];exact hj
noncomputable def rg (sc:Scope) (N G:List Str):Prop :=
  N.Nodup/\(∀ x∈N,(sc.names.lookup x=some .local\/sc.names.lookup x=some .cell)/\(x==("__debug__" : Str))=false/\(x==("__classdict__" : Str))=false)/\∀ x∈G,sc.names.lookup x=some .globalImplicit/\(x==("__debug__" : Str))=false/\x≠("__name__" : Str)
noncomputable instance {sc:Scope} {N G:List Str}:Decidable (rg sc N G):=by unfold rg;infer_instance
theorem yW {P:Program} {w:World} {K:PySem.W.Frag} {mg:Str->Option Value} {base:Heap} {N:List Str} {qual:Str} {sc:Scope} {f:Addr} {cdv:Value} {A:Around} {outer:List Env} {s:Shared} {H:Hp} {E:XK} {G:List Str} {k:Nat}
    (hr:eu k (A.deeper (envOfC qual sc s.heap.objs.size f cdv))) (ck:rg sc N G):Tb (eN (cY P w mg) P w K mg base N qual sc f cdv A outer s H E) N.length G:=by
  obtain ⟨nd,l,g⟩:=ck;refine ⟨hr.units,rfl,nd,fun x hx=>⟨?_,(l x hx).2⟩,fun x hx=>⟨?_,.inl rfl⟩,fun x hx=>?_⟩
  · rcases (l x hx).1 with q | q
    · exact .inl q
    · exact .inr (.inl q)
  · exact (l x (List.mem_of_mem_take hx)).1
  · exact g x hx
section
variable {X:Cx} {a b c:Expr} {fa fb fc:Fe} {pos:Pos}
noncomputable def rB (X:Cx) (P:Hp->Hp->PyData->V->Prop) (r:V->Hp->VK->Prop) (g:PyData->R PyData):Prop:=∀ H x dx Q,fS H dx x->qq X P (g dx) H Q->r x H Q
theorem AH {P:Hp->Hp->PyData->V->Prop} {r:V->Hp->VK->Prop} {g:PyData->R PyData} (hP:Dn P) (hg:rB X P r g) (σ:St) (H:Hp) (Q:VK) (h:gS X P (e1 g fa) σ H Q):Bd r (gS X o5 fa) σ H Q :=
  (dl (P:=o5) (k:=fun _ x=>g x) (dP (X:=X) hP Q) h).post fun v H1 ⟨_,d1,_,_,p1,q1⟩=>hg H1 v d1 Q p1 q1
noncomputable def nK:PyData->R PyData
  | .int i=>.ok (.int (-i))
  | _=>.no
theorem yT:rB X gj (rU fun i=>.int (-i)) nK:=fun H x dx Q hx q=>by
  unfold nK at q;split at q
  · exact ⟨_,aS hx,q _ H (aq.refl _) cV⟩
  · exact q.elim
theorem im (ha:Z.c5 X a fa):Z.cD X (.UnaryOp .USub a pos) (e1 nK fa):=⟨have ha:=ha.un;PE.imp (Ah ya ha) (AH eE yT)⟩
noncomputable def fB (g g':PyData->PyData->R PyData) (fa fb fc:Fe):Fe:=fun ρ=>fa ρ>>=fun x=>fb ρ>>=fun y=>g x y>>=fun d=>pf d>>=fun k=>if k=true then fc ρ>>=fun z=>g' y z else .ok (.bool false)
theorem oG {r r':R2} {g g':PyData->PyData->R PyData} (hg:bS X gj r g) (hg':bS X gj r' g') (σ:St) (H:Hp) (Q:VK) (h:gS X gj (fB g g' fa fb fc) σ H Q) :
    qB r r' (gS X o5 fa) (gS X o5 fb) (gS X o5 fc) σ H Q :=
  (dl (P:=o5) (k:=fun ρ x=>fb ρ>>=fun y=>g x y>>=fun d=>pf d>>=fun k=>if k=true then fc ρ>>=fun z=>g' y z else .ok (.bool false)) (dP (X:=X) eE Q) h).post fun v H1 ⟨ρ1,d1,sl1,_,p1,q1⟩ =>
    (dl (P:=o5) (f:=fb) (k:=fun ρ y=>g d1 y>>=fun d=>pf d>>=fun k=>if k=true then fc ρ>>=fun z=>g' y z else .ok (.bool false)) (dP (X:=X) eE Q) ⟨ρ1,sl1,q1⟩).post fun u H2 ⟨ρ2,d2,sl2,s2,p2,q2⟩=>by
      refine hg H2 v u d1 d2 _ (fS.mono p1 s2) p2 ?_;cases e:g d1 d2 with
      | ex c=>rw [e] at q2;exact q2
      | no=>rw [e] at q2;exact q2
      | ok d =>
        rw [e] at q2;intro w' H3 s3 p3;have q3:qq X gj (pf d>>=fun k=>if k=true then fc ρ2>>=fun z=>g' d2 z else .ok (.bool false)) H2 Q:=q2;cases d with
        | bool k =>
          have e3:w'=.bl k:=by simpa only [Rp] using p3
          refine ⟨k,e3,?_⟩;cases k with
          | false=>exact q3 _ H3 s3 eV
          | true =>
            have q4:qq X gj (fc ρ2>>=fun z=>g' d2 z) H2 Q:=q3;exact (dl (P:=o5) (f:=fc) (k:=fun _ z=>g' d2 z) (dP (X:=X) eE Q) ⟨ρ2,sl2.mono s3,(dP (X:=X) eE Q).mono _ _ _ q4 s3⟩).post fun z H4 ⟨_,d4,_,s4,p4,q5⟩=>hg' H4 u z d2 d4 Q (fS.mono p2 (s3.trans s4)) p4 q5
        | none=>exact q3.elim
        | int i=>exact q3.elim
        | str i=>exact q3.elim
        | list i=>exact q3.elim
        | tuple i=>exact q3.elim
        | dict i=>exact q3.elim
theorem iR {op op':CmpOp} {r r':R2} {g g':PyData->PyData->R PyData} (ho:gT X (compareOp op) r) (hg:bS X gj r g) (ho':gT X (compareOp op') r') (hg':bS X gj r' g') (ha:Z.c5 X a fa) (hb:Z.c5 X b fb) (hc:Z.c5 X c fc) (hm:lastMarks [op,op'] [b,c]=false:=by with_unfolding_all rfl):Z.cD X (.Compare a [op,op'] [b,c] pos) (fB g g' fa fb fc):=⟨have ha:=ha.un;have hb:=hb.un;have hc:=hc.un;PE.imp (vr ho ho' ha hb hc hm) (oG hg hg')⟩
theorem ib {op op':CmpOp} {r r':R2} {g g':PyData->PyData->R PyData} (ho:gT X (compareOp op) r) (hg:bS X gj r g) (ho':gT X (compareOp op') r') (hg':bS X gj r' g') (ha:Z.c5 X a fa) (hb:Z.c5 X b fb) (hc:Z.c5 X c fc) (hm:lastMarks [op,op'] [b,c]=false:=by with_unfolding_all rfl):Z.pT X (.Compare a [op,op'] [b,c] pos) (tE (fB g g' fa fb fc)):=⟨have ha:=ha.un;have hb:=hb.un;have hc:=hc.un;PT.imp (ua ho ho' ha hb hc hm) fun σ H Q h=>oG hg hg' σ H _ (nu h)⟩
variable {es:List Expr} {fs:aI->R (List PyData)}
noncomputable def lC (fs:aI->R (List PyData)):Fe:=fun ρ=>fs ρ>>=fun ds=>if ds.length<=sizeLine then .ok (.tuple ds) else .no
noncomputable def lj (fs:aI->R (List PyData)):Fe:=fun ρ=>fs ρ>>=fun ds=>if ds.length<=sizeLine then .ok (.list ds) else .no
theorem gh {x1} (h:Z.pS X es fs):Z.cD X (.Tuple es x1 pos) (lC fs):=⟨have h:=h.un;PE.imp (xY h) fun σ H Q q=>(jz (I:=Rp) (f:=fs) (k:=fun _ ds=>if ds.length<=sizeLine then .ok (.tuple ds) else .no) (dP (X:=X) eE Q) q).post fun vs H1 ⟨_,ds,_,_,p,q1⟩=>by
    have p:=kz.mp p;split at q1
    · rename_i hz;exact ⟨by rw [p.length];exact hz,fun a ha=>q1 _ _ (cu ha _) (fu ha p)⟩
    · exact q1.elim⟩
theorem eB (h:Z.pS X es fs):Z.k7 X (.List es pos) (lj fs):=⟨have h:=h.un;PE.imp (yd h) fun σ H Q q=>(jz (I:=Rp) (f:=fs) (k:=fun _ ds=>if ds.length<=sizeLine then .ok (.list ds) else .no) (dP (X:=X) sA Q) q).post fun vs H1 ⟨_,ds,_,_,p,q1⟩=>by
    have p:=kz.mp p;split at q1
    · rename_i hz;exact ⟨by rw [p.length];exact hz,fun a ha=>q1 _ _ (cu ha _) (eM ha p)⟩
    · exact q1.elim⟩
theorem ot  : Z.k7 X (.Dict [] [] pos) (eC (.dict [])):=⟨PE.imp u0 fun σ H Q ⟨ρ,sl,q⟩ p hp=>q _ _ (cu hp _) ⟨by simp only [gQ];exact ⟨p,[],rfl,bJ,by simp only [cZ]⟩,p,rfl,hp⟩⟩
noncomputable def eG:PyData->PyData->R PyData
  | .list ds,.int i=>match atI ds i with
    | some d=>.ok d
    | none=>.no
  | .tuple ds,.int i=>match atI ds i with
    | some d=>.ok d
    | none=>.no
  | .str z,.int i=>if z.length<=sizeLine then match atI z.cps.toList i with
    | some c=>.ok (.str ⟨#[c]⟩)
    | none=>.no else .no
  | .dict kvs,k=>if gN kvs=true then .no else match eT k with
    | some _=>match dL kvs k with
      | some d=>.ok d
      | none=>.no
    | none=>.no
  | _,_=>.no
theorem br.atI {H:Hp} {ds:List PyData} {vs:List V} {i:Int} {d:PyData} (r:br H ds vs) (e:L2.atI ds i=some d):∃ v,L2.atI vs i=some v/\Rp H d v:=by
  unfold L2.atI at e ⊢;rw [r.length];cases h:vK ds.length i with
  | none=>rw [h] at e;cases e
  | some j =>
    rw [h] at e;obtain ⟨v,e1,p⟩:=r.get (show ds[j]?=some d from e);exact ⟨v,e1,p⟩
noncomputable def zr:R2:=fun x y H Q=>∃ a v,x=.ref a/\kO H a y (some v)/\Q v H
theorem wM (hu:X.A.units+1 < cLine):wJ X zr:=by
  intro value slice pins s σ H x y v u Q I rx ry h hs;obtain ⟨a,z,rfl,g,q⟩:=h;cases rx;exact tail_any (oO I g) PySem.F.slot_dict_getitem.lookup (sf hu I g ry fun w' s3 I3 rw'=>⟨z,H,I3,rw',q⟩) hs
theorem zH:bS X gj (fun x y H Q=>zC X.K x y H Q\/zW X.K x y H Q\/zD x y H Q\/zr x y H Q) eG:=fun H x y dx dy Q hx hy q=>by
  unfold eG at q;split at q
  · rename_i ds i;split at q
    · rename_i d e;obtain ⟨a,vs,rfl,hq,r⟩:=dU (K:=X.K) hx;obtain ⟨v,e1,p⟩:=r.atI e;exact .inl ⟨a,vs,i,v,rfl,aS hy,hq,e1,q v H (aq.refl _) p⟩
    · exact q.elim
  · rename_i ds i;split at q
    · rename_i d e;obtain ⟨a,vs,rfl,hq,r⟩:=dg hx;obtain ⟨v,e1,p⟩:=r.atI e;exact .inr (.inl ⟨a,vs,i,v,rfl,aS hy,iA.of hq,e1,q v H (aq.refl _) p⟩)
    · exact q.elim
  · rename_i z i;split at q
    · rename_i hz;split at q
      · rename_i c e;exact .inr (.inr (.inl ⟨z,i,c,eX hx,aS hy,hz,e,q _ H (aq.refl _) mS⟩))
      · exact q.elim
    · exact q.elim
  · rename_i kvs k;split at q
    · exact q.elim
    rename_i hi;split at q
    · rename_i κ e;split at q
      · rename_i d e1;obtain ⟨a,ks,rfl,h,r⟩:=ig (Bool.not_eq_true _ ▸ hi) hx;obtain ⟨o,g,_,e2⟩:=rn (κ:=κ) h r;rw [oH e] at e1;obtain ⟨v,rfl,p⟩:=e2 d e1;rw [<- rD hy e] at g;exact .inr (.inr (.inr ⟨a,v,rfl,g,q v H (aq.refl _) p⟩))
      · exact q.elim
    · exact q.elim
  · exact q.elim
theorem bC (hu:X.A.units+64 < cLine) (ha:Z.c5 X a fa) (hb:Z.c5 X b fb) (hs:qV b):Z.cD X (.Subscript a b pos) (e2 eG fa fb):=⟨have ha:=ha.un;have hb:=hb.un;PE.imp (zJ (vW.or (xU.or (za.or (wM (by omega))))) ha hb hs) (Ak eE zH)⟩
variable {nl:Nat} {G:List Str} {x:Str} {p:Pos}
noncomputable def mX (X:Cx) (P:Hp->Hp->PyData->V->Prop) (r:List V->Hp->VK->Prop) (g:List PyData->R PyData):Prop:=∀ H xs ds Q,RA fS H ds xs->qq X P (g ds) H Q->r xs H Q
theorem pQ {P:Hp->Hp->PyData->V->Prop} {r:List V->Hp->VK->Prop} {g:List PyData->R PyData} (hP:Dn P) (hg:mX X P r g) (σ:St) (H:Hp) (Q:VK) (h:gS X P (fun ρ=>fs ρ>>=g) σ H Q):AB r (uq X fS fs) σ H Q :=
  (jz (I:=fS) (k:=fun _=>g) (dP (X:=X) hP Q) h).post fun vs H1 ⟨_,ds,_,_,p1,q1⟩=>hg H1 vs ds Q p1 q1
noncomputable def one (g:PyData->R PyData):List PyData->R PyData
  | [d]=>g d
  | _=>.no
noncomputable def yh (g:PyData->PyData->R PyData):List PyData->R PyData
  | [d,e]=>g d e
  | _=>.no
theorem nP (g:PyData->R PyData) (fa:Fe):(fun ρ=>ai fa aB ρ>>=one g)=e1 g fa:=by
  funext ρ;unfold ai aB e1;cases fa ρ <;> rfl
theorem x6 (g:PyData->PyData->R PyData) (fa fb:Fe):(fun ρ=>ai fa (ai fb aB) ρ>>=yh g)=e2 g fa fb:=by
  funext ρ;unfold ai aB e2;cases fa ρ with
  | ok a=>cases fb ρ <;> rfl
  | ex c=>rfl
  | no=>rfl
theorem qI {P:Hp->Hp->PyData->V->Prop} {r:List V->Hp->VK->Prop} {g:PyData->R PyData} (h:∀ H x d Q,fS H d x->qq X P (g d) H Q->r [x] H Q):mX X P r (one g):=fun H xs ds Q ra q=>by
  unfold one at q;split at q
  · rename_i d;simp only [RA] at ra;obtain ⟨v,r',e,p,e2⟩:=ra;subst e2;subst e;exact h H v d Q p q
  · exact q.elim
theorem x8 {P:Hp->Hp->PyData->V->Prop} {r:List V->Hp->VK->Prop} {g:PyData->PyData->R PyData} (h:∀ H x y d e Q,fS H d x->fS H e y->qq X P (g d e) H Q->r [x,y] H Q):mX X P r (yh g):=fun H xs ds Q ra q=>by
  unfold yh at q;split at q
  · rename_i d e;simp only [RA] at ra;obtain ⟨v,r',e1,p,v',r'',e2,p',e3⟩:=ra;subst e3;subst e2;subst e1;exact h H v v' d e Q p p' q
  · exact q.elim
section
variable {P:Hp->Hp->PyData->V->Prop} {r:List V->Hp->VK->Prop} {g:PyData->R PyData} {g2:PyData->PyData->R PyData} {id ty:String}
theorem yZ (T:Tb X nl G) (j:Nat) (hG:G[j]?=some x) (hm:X.mg x=none) (hP:Dn P) (hv:bootBuiltins x=some (.builtin id)) (hc:cQ X (.builtin id) r) (hg:∀ H x d Q,fS H d x->qq X P (g d) H Q->r [x] H Q) (ha:c5 X a fa)
    (he:az a=true:=by rfl):PE X (.Call (.Name x p) [a] [] pos) (gS X P (e1 g fa)):=by
  have q:=T.gl x (List.mem_of_getElem? hG);rw [<- nP];exact PE.imp (fE hc q.1 hm hv (eZ ha jD he) q.2.2 q.2.1 (aO he)) (pQ hP (qI hg))
theorem wT (T:Tb X nl G) (j:Nat) (hG:G[j]?=some x) (hm:X.mg x=none) (hP:Dn P) (hv:bootBuiltins x=some (.type ty)) (hc:cQ X (.type ty) r) (hg:∀ H x d Q,fS H d x->qq X P (g d) H Q->r [x] H Q) (ha:c5 X a fa)
    (he:az a=true:=by rfl):PE X (.Call (.Name x p) [a] [] pos) (gS X P (e1 g fa)):=by
  have q:=T.gl x (List.mem_of_getElem? hG);rw [<- nP];exact PE.imp (l6 hc q.1 hm hv (eZ ha jD he) q.2.2 q.2.1 (aO he)) (pQ hP (qI hg))
theorem zv (T:Tb X nl G) (j:Nat) (hG:G[j]?=some x) (hm:X.mg x=none) (hP:Dn P) (hv:bootBuiltins x=some (.builtin id)) (hc:cQ X (.builtin id) r) (hg:∀ H x y d e Q,fS H d x->fS H e y->qq X P (g2 d e) H Q->r [x,y] H Q) (ha:c5 X a fa) (hb:c5 X b fb)
    (he:az a=true:=by rfl) (he2:az b=true:=by rfl):PE X (.Call (.Name x p) [a,b] [] pos) (gS X P (e2 g2 fa fb)):=by
  have q:=T.gl x (List.mem_of_getElem? hG);rw [<- x6];exact PE.imp (fE hc q.1 hm hv (eZ ha (eZ hb jD he2) he) q.2.2 q.2.1 (aO he) (je (by rw [List.all_cons,he2];rfl))) (pQ hP (x8 hg))
end
end
theorem jS:fillsNumberSlot (.type "tuple") "mul" = pure false :=
  PySem.fillsNumberSlot_seq (id := "tuple.__mul__") (r:=some (.builtin "tuple.__rmul__")) F.slot_tuple_mul.lookup (by decide +kernel) F.slot_tuple_rmul.lookup (by decide +kernel)
theorem nq:seqRepeat? (.type "tuple")=pure (some (.builtin "tuple.__mul__")):=by
  unfold seqRepeat?;rw [PySem.seqSlot_of (T := "tuple") (name := "__mul__") (id := "tuple.__mul__") F.slot_tuple_mul.lookup (by decide +kernel),PySem.seqSlot_of (T := "tuple") (name := "__rmul__") (id := "tuple.__rmul__") F.slot_tuple_rmul.lookup (by decide +kernel)];rfl
theorem ky (a:Int) (t:Tok) (l:Addr) (items:Array Value) (n:Nat) (dd:Option Addr) (sl:Array (Option Value)) :
    Meets (Builtin.«int.__rmul__» ⟨[.int a t,.ref l],[]⟩) (fun _ R s=>s.heap.get? l=some { cls:=.type "tuple",dict:=dd,data:=.seq items n,slots:=sl }/\R (.ok (.ret Value.notImplemented)) s) :=
  .of_wp fun prog w A R s h=>by obtain ⟨hp,g,d,tk,os⟩:=s;obtain ⟨hl,h⟩:=h;wp_walk;exact ⟨_,rfl,h⟩
theorem qL (l:Addr) (items:Array Value) (n:Nat) (dd:Option Addr) (sl:Array (Option Value)) (x:Int) (u:Tok) (h1:2<=x) (h2:x < 2 ^ 63) (h0:¬ items.isEmpty=true) (hc1:¬ (items.size:Int)*x > (2 ^ 63-1) / 8) (hbig:Builtin.Tuple.tupleTooMany ((items.size:Int)*x)=false) (hsz:¬ (List.foldl (fun x1 x2=>x1++x2) #[] (List.replicate x.toNat items)).size > sizeLine) :
    Meets (Builtin.«tuple.__mul__» ⟨[.ref l,.int x u],[]⟩) (fun _ R s=>s.heap.get? l=some { cls:=.type "tuple",dict:=dd,data:=.seq items n,slots:=sl }/\R (.ok (.ret (Value.ref s.heap.objs.size))) { s with heap:=s.heap.push { cls:=Value.type "tuple",data:=Data.seq (List.foldl (fun x1 x2=>x1++x2) #[] (List.replicate x.toNat items)) },toks:=s.toks }) :=
  .of_wp fun prog w A R s h=>by
    obtain ⟨hp,g,d,tk,os⟩:=s;obtain ⟨hl,h⟩:=h;have f1:=AutoSeq1.idx_int;have f2:=AutoSeq1.sub_tuple_tuple;have f3:=AutoSeq1.sub_list_list;have f4:=AutoSeq1.sub_tuple_list;have f5:=AutoSeq1.sub_list_tuple;have e0:(decide (x < -2 ^ 63)||decide (x>=2 ^ 63))=false:=by
      rw [decide_eq_false (by omega),decide_eq_false (by omega)];rfl
    have e1:(items.isEmpty||x==1)=false:=by
      have:(x==1)=false:=by simp;omega
      rw [this,Bool.or_false];exact Bool.eq_false_iff.mpr h0
    have e2:(decide (x<=0)||items.isEmpty)=false:=by
      rw [decide_eq_false (by omega),Bool.false_or];exact Bool.eq_false_iff.mpr h0
    have e3:decide ((items.size:Int)*x > (2 ^ 63-1) / 8)=false:=decide_eq_false hc1;have e4:Builtin.Tuple.tupleTooMany ((items.size:Int)*x)=false:=hbig
    wp_walk using wpAny_loadPart' hl
    refine wpAny_ite_false (decide_eq_false (by rw [e0];exact Bool.false_ne_true)) ?_
    wp_walk using wpAny_loadPart' hl
    refine wpAny_ite_false (decide_eq_false (by rw [e1];exact Bool.false_ne_true)) ?_
    wp_walk using wpAny_loadPart' hl
    refine wpAny_ite_false (decide_eq_false (by rw [e2];exact Bool.false_ne_true)) ?_
    wp_walk using wpAny_loadPart' hl
    refine wpAny_ite_false e3 ?_
    wp_walk using wpAny_loadPart' hl
    exact ⟨_,rfl,h⟩
section
variable {X:Cx} {a b c:Expr} {fa fb fc:Fe} {pos:Pos} {nl:Nat} {G:List Str} {x:Str} {p:Pos}
noncomputable def xH (K:PySem.W.Frag):R2:=fun x y H Q=>∃ l k xs,x=.ref l/\y=.int k/\iA K H l xs/\xs≠[]/\2<=k/\k < 2 ^ 63/\xs.length*k.toNat<=sizeLine/\∀ p,H p=none->Q (.ref p) (dk H p (.tup (List.replicate k.toNat xs).flatten))
theorem xc:gT X (binaryOp .Mult) (xH X.K):=by
  intro pins s σ H x y v u Q I rx ry h;obtain ⟨l,k,xs,rfl,rfl,hH,hne,h1,h2,hz,q⟩:=h;cases rx;obtain ⟨t,rfl⟩:=ry;obtain ⟨its,r,pl,hz0⟩:=I.tuple hH;obtain ⟨⟨cls,dd,data,sl⟩,e,hc,n,hd⟩:=id pl;simp only at hc hd;subst hc hd;have hl:=r.length;have hnew:List.foldl (fun x1 x2=>x1++x2) #[] (List.replicate k.toNat its.toArray)=(List.replicate k.toNat its).flatten.toArray:=by
    have:=mv its k.toNat [];rw [List.nil_append] at this;exact this
  have hlen:(List.replicate k.toNat its).flatten.length<=sizeLine:=by rw [qZ,<- hl,Nat.mul_comm];exact hz
  have hprod:(its.length:Int)*k<=(sizeLine:Int):=by
    have h3:((its.length*k.toNat:Nat):Int)<=(sizeLine:Int):=by rw [<- hl];exact Int.ofNat_le.mpr hz
    have h4:((k.toNat:Nat):Int)=k:=Int.toNat_of_nonneg (by omega);rw [Int.natCast_mul,h4] at h3;exact h3
  have hcap:¬ (its.toArray.size:Int)*k > (2 ^ 63-1) / 8:=by
    rw [List.size_toArray];have hs:sizeLine=16777216:=sizeLine_eq;omega
  have hbig:Builtin.Tuple.tupleTooMany ((its.toArray.size:Int)*k)=false:=by
    unfold Builtin.Tuple.tupleTooMany;rw [List.size_toArray];exact decide_eq_false (by omega)
  refine wpAny_binaryOp_repeat_ref (T := "tuple") (U := "int") (by decide) ⟨_,e,rfl⟩ (fun s'=>typeIs_int s' k t) jS F.fills_int_mul F.slot_int_rmul nq F.slot_int_index.lookup
    (call_meets F.slot_int_rmul (typeIs_int s k t) F.entry_int_rmul (F.args_int_rmul_2 _ _) (ky k t l its.toArray n dd sl)
      ⟨e,rfl,⟨_,e,rfl⟩,call_meets F.slot_tuple_mul ⟨_,e,rfl⟩ F.entry_tuple_mul (F.args_tuple_mul_2 _ _) (qL l its.toArray n dd sl k t h1 h2 (by
        intro z;apply hne;have:its=[]:=by simpa using z
        rw [this] at hl;exact List.length_eq_zero_iff.mp hl) hcap hbig (by rw [hnew,List.size_toArray];omega)) ⟨e,?_⟩⟩)
  rw [hnew];refine ⟨.ref s.heap.objs.size,_,I.laid (t':=s.toks) (o:=.tup (List.replicate k.toNat xs).flatten) (fun b ob q=>Heap.get?_push_of_some _ q) (Nat.le_refl _) ?_,rfl,q _ (I.hok.fresh (Nat.le_refl _))⟩;exact ⟨by rw [qZ,Nat.mul_comm];exact hz,_,r.rep k.toNat,IsTup.new _ _⟩
noncomputable def eP:PyData->PyData->R PyData
  | .int i,.int j=>if (-(2 ^ 64) < i/\i < 2 ^ 64)\/(-(2 ^ 64) < j/\j < 2 ^ 64) then .ok (.int (i*j)) else .no
  | .tuple xs,.int k=>if xs≠[]/\2<=k/\k < 2 ^ 63/\xs.length*k.toNat<=sizeLine then .ok (.tuple (List.replicate k.toNat xs).flatten) else .no
  | _,_=>.no
theorem zg:bS X gj (fun x y H Q=>rI xl (fun i j=>.int (i*j)) x y H Q\/xH X.K x y H Q) eP:=fun H x y dx dy Q hx hy q=>by
  cases dx with
  | int i =>
    cases dy with
    | int j =>
      simp only [eP] at q;split at q
      · rename_i h;exact .inl ⟨_,_,aS hx,aS hy,h,q _ H (aq.refl _) cV⟩
      · exact q.elim
    | _=>exact q.elim
  | tuple xs =>
    cases dy with
    | int k =>
      simp only [eP] at q;split at q
      · rename_i h;obtain ⟨a,vs,rfl,ha,r⟩:=dg hx;have hl:=r.length;refine .inr ⟨a,k,vs,rfl,aS hy,iA.of ha,fun z=>h.1 ?_,h.2.1,h.2.2.1,by rw [hl];exact h.2.2.2,fun p hp=>q _ _ (cu hp _) (fu hp (r.rep _))⟩;rw [z] at hl;exact List.length_eq_zero_iff.mp hl.symm
      · exact q.elim
    | _=>exact q.elim
  | _=>exact q.elim
theorem du (ha:Z.c5 X a fa) (hb:Z.c5 X b fb):Z.cD X (.BinOp a .Mult b pos) (e2 eP fa fb):=⟨have ha:=ha.un;have hb:=hb.un;kG eE (zk.or xc) zg ha hb⟩
theorem w9:gT X (binaryOp .Add) (fun x y H Q=>∃ i j,x=.str i/\y=.str j/\i.length+j.length<=sizeLine/\Q (.str (i++j)) H):=by
  intro pins s σ H x y v u Q I rx ry h;obtain ⟨i,j,rfl,rfl,hz,q⟩:=h;obtain ⟨t,rfl⟩:=rx;obtain ⟨t',rfl⟩:=ry;exact PyProof.Rows.add_str (fun t' tk=>⟨.str (i++j),H,I.tok _,⟨_,rfl⟩,q⟩) hz
noncomputable def uv (K:PySem.W.Frag):R2:=fun x y H Q=>∃ a b ys,x=.ref a/\y=.ref b/\iA K H a []/\iA K H b ys/\Q (.ref b) H
theorem uY:gT X (binaryOp .Add) (uv X.K):=by
  intro pins s σ H x y v u Q I rx ry h;obtain ⟨a,b,ys,rfl,rfl,ha,hb,q⟩:=h;cases rx;cases ry;obtain ⟨its,r1,p1,_⟩:=I.tuple ha;obtain ⟨its2,r2,p2,_⟩:=I.tuple hb;cases r1;obtain ⟨⟨cls,dd,data,sl⟩,ho,hc,n,hd⟩:=id p1;obtain ⟨⟨cls2,dd2,data2,sl2⟩,ho2,hc2,n2,hd2⟩:=id p2;simp only at hc hd hc2 hd2;subst hc hd hc2 hd2;exact concat_meets ⟨_,ho,rfl⟩ ⟨_,ho2,rfl⟩ noFill_tuple_add seq_tuple_add PySem.F.slot_tuple_add PySem.F.entry_tuple_add (PySem.F.args_tuple_add_2 _ _)
    (tuple_addW0 a b _ its2.toArray n n2 dd dd2 sl sl2 (by rfl)) ⟨ho,ho2,⟨.ref b,H,I,rfl,q⟩⟩
noncomputable def xP (K:PySem.W.Frag):R2:=fun x y H Q=>∃ l b xs zs,x=.ref l/\y=.ref b/\Rd H l (.lst xs)/\Rd H b (.lst zs)/\xs.length+zs.length<=sizeLine/\∀ p,H p=none->Q (.ref p) (dk H p (.lst (xs++zs)))
theorem xf:gT X (binaryOp .Add) (xP X.K):=by
  intro pins s σ H x y v u Q I rx ry h;obtain ⟨l,b,xs,zs,rfl,rfl,hH,hB,hz,q⟩:=h;cases rx;cases ry;obtain ⟨z,its,n,r,e⟩:=hH.ok I.hok;obtain ⟨z2,its2,n2,r2,e2⟩:=hB.ok I.hok;have hl:=r.length;have hl2:=r2.length;refine PySem.P.add_list e e2 ?_ (by rw [List.size_toArray,List.size_toArray];omega);have ea:its.toArray++its2.toArray=(its++its2).toArray:=by simp
  rw [ea];exact ⟨.ref _,_,I.lnew (t':=s.toks) (r.append r2) (by rw [List.length_append];omega),rfl,q _ I.fresh⟩
noncomputable def aY:PyData->PyData->R PyData
  | .int i,.int j=>.ok (.int (i+j))
  | .str x,.str y=>if x.length+y.length<=sizeLine then .ok (.str (x++y)) else .no
  | .tuple xs,.tuple ys=>if xs.length+ys.length<=sizeLine then .ok (.tuple (xs++ys)) else .no
  | .list xs,.list ys=>if xs.length+ys.length<=sizeLine then .ok (.list (xs++ys)) else .no
  | _,_=>.no
theorem nk {H:Hp} {ds:List PyData} {x:V} (h:fS H (.list ds) x):∃ a vs,x=.ref a/\Rd H a (.lst vs)/\br H ds vs:=by
  rcases h with h | h
  · simp only [Rp] at h;obtain ⟨a,o,vs,e,ha,r⟩:=h;exact ⟨a,vs,e,.inr ⟨o,ha⟩,r⟩
  · simp only [gQ] at h;obtain ⟨a,vs,e,ha,r⟩:=h;exact ⟨a,vs,e,.inl ha,r⟩
theorem yf:bS X Am (fun x y H Q=>wE (fun i j=>.int (i+j)) x y H Q\/(∃ i j,x=.str i/\y=.str j/\i.length+j.length<=sizeLine/\Q (.str (i++j)) H)\/xu X.K x y H Q\/uv X.K x y H Q\/xP X.K x y H Q) aY:=fun H x y dx dy Q hx hy q=>by
  cases dx with
  | int i =>
    cases dy with
    | int j=>exact .inl ⟨_,_,aS hx,aS hy,q _ H (aq.refl _) (.inl cV)⟩
    | _=>exact q.elim
  | str i =>
    cases dy with
    | str j =>
      simp only [aY] at q;split at q
      · rename_i h;exact .inr (.inl ⟨_,_,eX hx,eX hy,h,q _ H (aq.refl _) (.inl mS)⟩)
      · exact q.elim
    | _=>exact q.elim
  | tuple xs =>
    cases dy with
    | tuple ys =>
      simp only [aY] at q;split at q
      · rename_i h;have hx':=hx;obtain ⟨a,vs,rfl,ha,r⟩:=dg hx;obtain ⟨b,us,rfl,hb,r2⟩:=dg hy;cases xs with
        | nil =>
          have:=r.nil_inv;subst this;refine .inr (.inr (.inr (.inl ⟨a,b,us,rfl,rfl,iA.of ha,iA.of hb,q _ H (aq.refl _) (.inl ?_)⟩)));simp only [Rp,List.nil_append];exact ⟨b,us,rfl,hb,r2⟩
        | cons d ds =>
          refine .inr (.inr (.inl ⟨a,b,vs,us,rfl,rfl,iA.of ha,iA.of hb,fun z=>?_,by rw [r.length,r2.length];exact h,fun z=>?_,fun _ p hp=>q _ _ (cu hp _) (.inl (fu hp (r.append r2)))⟩))
          · rw [z] at r;obtain ⟨_,_,e,_⟩:=r.cons_inv;cases e
          · have hy0:ys=[]:=by
              have:=r2.length;rw [z] at this;exact List.length_eq_zero_iff.mp this.symm
            refine q _ H (aq.refl _) (.inl ?_);rw [hy0,List.append_nil];simp only [Rp];exact ⟨a,vs,rfl,ha,r⟩
      · exact q.elim
    | _=>exact q.elim
  | list xs =>
    cases dy with
    | list ys =>
      simp only [aY] at q;split at q
      · rename_i h;obtain ⟨a,vs,rfl,ha,r⟩:=nk hx;obtain ⟨b,us,rfl,hb,r2⟩:=nk hy;exact .inr (.inr (.inr (.inr ⟨a,b,vs,us,rfl,rfl,ha,hb,by rw [r.length,r2.length];exact h,fun p hp=>q _ _ (cu hp _) (.inr (eM hp (r.append r2)))⟩)))
      · exact q.elim
    | _=>exact q.elim
  | _=>exact q.elim
theorem ao (ha:Z.c5 X a fa) (hb:Z.c5 X b fb):Z.cD X (.BinOp a .Add b pos) (e2 aY fa fb):=⟨have ha:=ha.un;have hb:=hb.un;xt.e (kG wj (yQ.or (w9.or (vX.or (uY.or xf)))) yf ha hb)⟩
end
section
variable {prog:Program} {w:World} {A:Around} {E:Value->Shared->Prop} {s:Shared}
theorem iG {t sl:Addr} {items:Array Value} {vl vu:Value} {lo hi:Option Int} {Q:Value->Shared->Prop} (ht:IsTup s.heap t items) (hs:s.heap.IsSliceOf sl vl vu .none) (pl:IsPart vl lo) (pu:IsPart vu hi)
    (hw:HT.sIx items.size 0 lo=0/\HT.sIx items.size items.size hi=items.size) (h:Q (.ref t) s):wpAny (model prog w) A (getItem (.ref t) (.ref sl)) Q E s:=by
  obtain ⟨os,hos,hcs,hds⟩:=id hs;have hTs:s.TypeIs (.ref sl) "slice" := ⟨os,hos,hcs⟩
  unfold getItem
  try with_reducible refine wpAny_holding ?_
  first | refine wpAny_bind (wpAny_pure ?_) | skip
  refine wpAny_bind (wpAny_sequenceKey ht.typeIs (by decide) ?_);refine wpAny_bind (wpAny_callSpecial?_slot (name:=Str.ofString "__getitem__") ht.typeIs PyProof.Rows.slot_tuple_getitem
    (wpAny_call_entry PyProof.Rows.slot_tuple_getitem ht.typeIs entry_tuple_getitem ?_ (args_tuple_getitem _ _)))
  show wpAny _ _ (Builtin.Tuple.tupleItemsOf (.ref t)>>=_) _ _ s;refine wpAny_bind (tupleItemsOf_ ht ?_);refine wpAny_bind (wpAny_typeOf hTs ?_);rw [if_pos (by decide)];refine wpAny_bind (HT.sliceApplied_gen hs pl pu ?_);have hyes:(((HT.sIx items.size 0 lo:Nat):Int)==0&&(1:Int)==1&&(HT.sIx items.size items.size hi-HT.sIx items.size 0 lo)==items.size)=true:=by
    rw [hw.1,hw.2];simp
  show wpAny _ _ (if (((HT.sIx items.size 0 lo:Nat):Int)==0&&(1:Int)==1&&(HT.sIx items.size items.size hi-HT.sIx items.size 0 lo)==items.size)=true then _ else _) _ _ s;rw [if_pos hyes];refine wpAny_bind (m:=Builtin.Tuple.tupleIsExact _) ?_;unfold Builtin.Tuple.tupleIsExact;refine wpAny_bind (wpAny_typeOf ht.typeIs (wpAny_pure ?_));show wpAny _ _ (if (Value.type "tuple" == Value.type "tuple")=true then _ else _) _ _ s;rw [if_pos (by decide)];refine wpAny_bind (wpAny_rule ?_)
  first
    | exact wpAny_pure ⟨_,rfl,wpAny_pure h⟩
    | exact wpAny_bind (wpAny_pure (wpAny_pure ⟨_,rfl,wpAny_pure h⟩))
end
section
variable {X:Cx} {a b c:Expr} {fa fb fc:Fe} {pos p2:Pos} {nl:Nat} {G:List Str} {x:Str} {p:Pos}
noncomputable def iH (xs:List PyData) (lo hi:Option Int):List PyData:=(xs.drop (HT.sIx xs.length 0 lo)).take (HT.sIx xs.length xs.length hi-HT.sIx xs.length 0 lo)
theorem br.cut {H:Hp} {ds:List PyData} {vs:List V} (r:br H ds vs) (lo hi:Option Int):br H (iH ds lo hi) (om vs lo hi):=by
  unfold iH om;rw [r.length];exact (r.drop _).take _
noncomputable def AL (K:PySem.W.Frag):V->Option Int->Option Int->Hp->VK->Prop:=fun x lo hi H Q=>∃ a xs,x=.ref a/\iA K H a xs/\(HT.sIx xs.length 0 lo=0/\HT.sIx xs.length xs.length hi=xs.length)/\Q (.ref a) H
theorem vy:wL X (AL X.K):=by
  intro pins s σ H x v vl vu lo hi sl Q I rx hs pl pu h;obtain ⟨a,xs,rfl,hx,hw,q⟩:=h;cases rx;obtain ⟨its,r,ht,hz⟩:=I.tuple hx;have hlen:its.toArray.size=xs.length:=by rw [List.size_toArray];exact r.length.symm
  refine ⟨"tuple",_,PyProof.Rows.slot_tuple_getitem.lookup,ht.typeIs,?_⟩;exact iG ht hs pl pu (by rw [hlen];exact hw) ⟨.ref a,H,I,rfl,q⟩
theorem ye:wL X (fun x lo hi H Q=>∃ xx,x=.str xx/\xx.length<=sizeLine/\Q (.str (Txt.slice xx lo hi)) H):=by
  intro pins s σ H x v vl vu lo hi sl Q I rx hs pl pu h;obtain ⟨xx,rfl,hz,q⟩:=h;obtain ⟨t,rfl⟩:=rx;refine ⟨"str",_,PySem.F.slot_str_getitem.lookup,typeIs_str _ _ _,?_⟩;have fin:∀ t' k,EP X pins σ Q (.str (Txt.slice xx lo hi) t') { s with toks:=k }:=fun t' k=>⟨.str _,H,I.tok k,⟨t',rfl⟩,q⟩
  cases pl with
  | none =>
    cases pu with
    | none=>exact wpAny_getItem_str_slice (l:=none) (u:=none) (st:=none) hs rfl (post_val_or_str ⟨Nat.le_trans (Txt.slice_le xx _ _) hz,fin⟩)
    | int j uj=>exact wpAny_getItem_str_slice (l:=none) (u:=some (j,uj)) (st:=none) hs rfl (post_val_or_str ⟨Nat.le_trans (Txt.slice_le xx _ _) hz,fin⟩)
  | int i ui =>
    cases pu with
    | none=>exact wpAny_getItem_str_slice (l:=some (i,ui)) (u:=none) (st:=none) hs rfl (post_val_or_str ⟨Nat.le_trans (Txt.slice_le xx _ _) hz,fin⟩)
    | int j uj=>exact wpAny_getItem_str_slice (l:=some (i,ui)) (u:=some (j,uj)) (st:=none) hs rfl (post_val_or_str ⟨Nat.le_trans (Txt.slice_le xx _ _) hz,fin⟩)
noncomputable def vM:PyData->Option Int->Option Int->R PyData
  | .str x,lo,hi=>if x.length<=sizeLine then .ok (.str (Txt.slice x lo hi)) else .no
  | .tuple xs,lo,hi=>.ok (.tuple (iH xs lo hi))
  | .list xs,lo,hi=>.ok (.list (iH xs lo hi))
  | _,_,_=>.no
noncomputable abbrev Fo:=aI->R (Option Int)
noncomputable def dJ:Fo:=fun _=>.ok none
noncomputable def As:PyData->R Int
  | .int i=>.ok i
  | _=>.no
noncomputable def cH (f:Fe):Fo:=fun ρ=>f ρ>>=fun d=>As d>>=fun i=>.ok (some i)
noncomputable def uJ (X:Cx) (f:Fo):TO:=fun σ H Q=>∃ ρ,Sl H σ ρ/\match f ρ with
  | .ok o=>∀ H',aq H H'->Q o H'
  | .ex c=>Xw X c H
  | .no=>False
noncomputable def zn (X:Cx) (e:Option Expr) (f:Fo):Prop:=PO X e (uJ X f)
structure Z.zn (X:Cx) (e:Option Expr) (f:Fo):Prop where
  un:D2.zn X e f
theorem bQ  : Z.zn X none dJ:=⟨fun pins s σ H Q I ⟨ρ,sl,q⟩=>wD pins s σ H Q I (q H (aq.refl _))⟩
theorem zZ (Q:Option Int->Hp->Prop):wu X (fun (r:R (Option Int)) H=>match r with | .ok b=>∀ H',aq H H'->Q b H' | .ex c=>Xw X c H | .no=>False) where
  mono:=fun r H H' h s=>by
    cases r with
    | ok d=>exact fun H2 s2=>h H2 (s.trans s2)
    | ex c=>exact Xw.mono h s
    | no=>exact h
  ex:=fun c H h=>h
  no:=fun H h=>h
theorem aP {e:Expr} {f:Fe} (h:Z.cD X e f):Z.zn X (some e) (cH f):=⟨have h:=h.un;fun pins s σ H Q I q =>
  wA h pins s σ H Q I ((dl (P:=gj) (f:=f) (k:=fun _ d=>As d>>=fun i=>.ok (some i)) (zZ (X:=X) Q) q).post fun v H1 ⟨_,d,_,_,p,q1⟩=>by
    cases d with
    | int i =>
      have e1:v=.int i:=by simpa only [Rp] using p
      exact ⟨i,e1,q1 H1 (aq.refl _)⟩
    | _=>exact q1.elim)⟩
noncomputable def kw (f:Fe) (lo hi:Fo):Fe:=fun ρ=>f ρ>>=fun d=>lo ρ>>=fun l=>hi ρ>>=fun u=>vM d l u
theorem vm {β:Type} {Tg:R β->Hp->Prop} {σ:St} {H:Hp} (t:wu X Tg) {f:Fo} {k:aI->Option Int->R β} (h:∃ ρ,Sl H σ ρ/\Tg (f ρ>>=k ρ) H):uJ X f σ H (fun o H1=>∃ ρ,Sl H1 σ ρ/\aq H H1/\Tg (k ρ o) H1):=by
  obtain ⟨ρ,sl,q⟩:=h;refine ⟨ρ,sl,?_⟩;cases e:f ρ with
  | ok d=>rw [e] at q;exact fun H1 s=>⟨ρ,sl.mono s,s,t.mono _ _ _ q s⟩
  | ex c=>rw [e] at q;exact t.ex _ _ q
  | no=>rw [e] at q;exact (t.no _ q).elim
theorem uJ.post {f:Fo} {σ:St} {H:Hp} {Q Q':Option Int->Hp->Prop} (h:uJ X f σ H Q) (i:∀ b H',Q b H'->Q' b H'):uJ X f σ H Q':=by
  obtain ⟨ρ,sl,q⟩:=h;refine ⟨ρ,sl,?_⟩;cases e:f ρ with
  | ok d=>rw [e] at q;exact fun H' s=>i _ _ (q H' s)
  | ex c=>rw [e] at q;exact q
  | no=>rw [e] at q;exact q
theorem aT {lo hi:Option Expr} {fl fh:Fo} (ha:Z.c5 X a fa) (hl:Z.zn X lo fl) (hu:Z.zn X hi fh):Z.cD X (.Subscript a (.Slice lo hi none p2) pos) (kw fa fl fh):=⟨have ha:=ha.un;have hl:=hl.un;have hu:=hu.un;by
  refine xt.e (PE.imp (vb (vy.or (yA.or (wK.or ye))) ha hl hu) fun σ H Q h=>?_);refine (dl (P:=o5) (f:=fa) (k:=fun ρ d=>fl ρ>>=fun l=>fh ρ>>=fun u=>vM d l u) (dP (X:=X) wj Q) h).post fun v H1 ⟨ρ1,d1,sl1,_,p1,q1⟩=>?_
  refine (vm (f:=fl) (k:=fun ρ l=>fh ρ>>=fun u=>vM d1 l u) (dP (X:=X) wj Q) ⟨ρ1,sl1,q1⟩).post fun l H2 ⟨ρ2,sl2,s2,q2⟩=>?_
  refine (vm (f:=fh) (k:=fun ρ u=>vM d1 l u) (dP (X:=X) wj Q) ⟨ρ2,sl2,q2⟩).post fun u H3 ⟨ρ3,kn,s3,q3⟩=>?_
  have p3:fS H3 d1 v:=fS.mono (fS.mono p1 s2) s3;cases d1 with
  | tuple xs =>
    obtain ⟨a',vs,rfl,ha',r⟩:=dg p3;have hlen:=r.length;by_cases hw:HT.sIx vs.length 0 l=0/\HT.sIx vs.length vs.length u=vs.length
    · refine .inl ⟨a',vs,rfl,iA.of ha',hw,q3 _ H3 (aq.refl _) (.inl ?_)⟩;have e:iH xs l u=xs:=by
        unfold iH;rw [<- hlen,hw.1,hw.2];simp [hlen]
      rw [e];simp only [Rp];exact ⟨a',vs,rfl,ha',r⟩
    · exact .inr (.inl ⟨a',vs,rfl,iA.of ha',hw,fun p hp=>q3 _ _ (cu hp _) (.inl (fu hp (r.cut l u)))⟩)
  | list xs =>
    obtain ⟨a',vs,rfl,ha',r⟩:=dU (K:=X.K) p3;exact .inr (.inr (.inl ⟨a',vs,rfl,ha',fun p hp=>q3 _ _ (cu hp _) (.inr (eM hp (r.cut l u)))⟩))
  | str xx =>
    simp only [vM] at q3;split at q3
    · rename_i hz;exact .inr (.inr (.inr ⟨xx,eX p3,hz,q3 _ H3 (aq.refl _) (.inl (by simp only [Rp]))⟩))
    · exact q3.elim
  | _=>exact q3.elim⟩
end
section
variable {X:Cx} {a b c:Expr} {fa fb fc:Fe} {pos p2:Pos} {nl:Nat} {G:List Str} {x:Str} {p:Pos}
theorem su:cQ X (.builtin "len") (fun xs H Q=>∃ a kvs,xs=[V.ref a]/\Rd H a (.dK kvs)/\Q (.int kvs.length) H):=by
  intro pins s σ H xs us Q I r h;obtain ⟨a,kvs,rfl,ha,q⟩:=h;obtain ⟨u,rfl,ru⟩:=fM r;cases ru;exact zE I ha fun t s' I'=>⟨.int kvs.length,H,I',⟨t,rfl⟩,q⟩
theorem cZ.length {H:Hp}:∀ {kvs:List (PyData×PyData)} {ks:List (bZ×V)},cZ H kvs ks->ks.length=kvs.length
  | [],ks,h=>by simp only [cZ] at h;rw [h];rfl
  | kd::kvs,ks,h=>by
    simp only [cZ] at h;obtain ⟨x,v,r,rfl,_,t⟩:=h;rw [List.length_cons,List.length_cons,cZ.length t]
noncomputable def eL:PyData->R PyData
  | .list ds=>.ok (.int ds.length)
  | .tuple ds=>.ok (.int ds.length)
  | .dict kvs=>if gN kvs=true then .no else .ok (.int kvs.length)
  | .str y=>if y.length<=sizeLine then .ok (.int y.length) else .no
  | _=>.no
theorem cC (T:Tb X nl G) (j:Nat) (hG:G[j]?=some ("len" : Str)) (hm:X.mg "len" = none) (ha:Z.c5 X a fa) (he:az a=true:=by rfl):Z.cD X (.Call (.Name "len" p) [a] [] pos) (e1 eL fa):=⟨have ha:=ha.un;by
  refine yZ T j hG hm eE PySem.boot_len (nV.or (nB.or su)) (fun H x d Q hx q=>?_) ha he;cases d with
  | list ds =>
    obtain ⟨a',vs,rfl,h,r⟩:=dU (K:=X.K) hx;exact .inl ⟨a',vs,rfl,.inl h,by rw [r.length];exact q _ H (aq.refl _) cV⟩
  | tuple ds =>
    obtain ⟨a',vs,rfl,h,r⟩:=dg hx;exact .inl ⟨a',vs,rfl,.inr (iA.of h),by rw [r.length];exact q _ H (aq.refl _) cV⟩
  | dict kvs =>
    simp only [eL] at q;split at q
    · exact q.elim
    rename_i hi;obtain ⟨a',vs,rfl,h,r⟩:=ig (Bool.not_eq_true _ ▸ hi) hx;exact .inr (.inr ⟨a',vs,rfl,h,by rw [r.length];exact q _ H (aq.refl _) cV⟩)
  | str y =>
    simp only [eL] at q;split at q
    · rename_i hz;exact .inr (.inl ⟨y,by rw [eX hx],hz,q _ H (aq.refl _) cV⟩)
    · exact q.elim
  | _=>exact q.elim⟩
noncomputable def mM:PyData->R PyData
  | .int i=>.ok (.int i)
  | .bool k=>.ok (.int (if k then 1 else 0))
  | _=>.no
theorem mz (T:Tb X nl G) (j:Nat) (hG:G[j]?=some ("int" : Str)) (hm:X.mg "int" = none) (ha:Z.c5 X a fa) (he:az a=true:=by rfl):Z.cD X (.Call (.Name "int" p) [a] [] pos) (e1 mM fa):=⟨have ha:=ha.un;by
  refine wT T j hG hm eE PyProof.Rows.boot_int l9 (fun H x d Q hx q=>?_) ha he;cases d with
  | int i=>exact .inl ⟨i,by rw [aS hx],q _ H (aq.refl _) cV⟩
  | bool k=>exact .inr ⟨k,by rw [jg hx],q _ H (aq.refl _) cV⟩
  | _=>exact q.elim⟩
noncomputable def gB:PyData->R PyData
  | .int i=>if i.natAbs.log2 < 1920 then .ok (.str (toString i)) else .no
  | _=>.no
theorem dj (T:Tb X nl G) (j:Nat) (hG:G[j]?=some ("str" : Str)) (hm:X.mg "str" = none) (ha:Z.c5 X a fa) (he:az a=true:=by rfl):Z.cD X (.Call (.Name "str" p) [a] [] pos) (e1 gB fa):=⟨have ha:=ha.un;by
  refine wT T j hG hm eE PyProof.Rows.boot_str nO (fun H x d Q hx q=>?_) ha he;cases d with
  | int i =>
    simp only [gB] at q;split at q
    · rename_i hz;exact ⟨i,by rw [aS hx],hz,q _ H (aq.refl _) mS⟩
    · exact q.elim
  | _=>exact q.elim⟩
noncomputable def zh:PyData->PyData->R PyData
  | .int i,.int j=>.ok (.int (if j < i then j else i))
  | _,_=>.no
noncomputable def yc:PyData->PyData->R PyData
  | .int i,.int j=>.ok (.int (if j > i then j else i))
  | _,_=>.no
theorem vx (T:Tb X nl G) (j:Nat) (hG:G[j]?=some ("min" : Str)) (hm:X.mg "min" = none) (ha:Z.c5 X a fa) (hb:Z.c5 X b fb) (he:az a=true:=by rfl) (he2:az b=true:=by rfl):Z.cD X (.Call (.Name "min" p) [a,b] [] pos) (e2 zh fa fb):=⟨have ha:=ha.un;have hb:=hb.un;by
  refine zv T j hG hm eE PyProof.Rows.boot_min (sJ T.calm) (fun H x y d e Q hx hy q=>?_) ha hb he he2;cases d with
  | int i =>
    cases e with
    | int j=>exact ⟨i,j,by rw [aS hx,aS hy],q _ H (aq.refl _) cV⟩
    | _=>exact q.elim
  | _=>exact q.elim⟩
theorem tZ (T:Tb X nl G) (j:Nat) (hG:G[j]?=some ("max" : Str)) (hm:X.mg "max" = none) (ha:Z.c5 X a fa) (hb:Z.c5 X b fb) (he:az a=true:=by rfl) (he2:az b=true:=by rfl):Z.cD X (.Call (.Name "max" p) [a,b] [] pos) (e2 yc fa fb):=⟨have ha:=ha.un;have hb:=hb.un;by
  refine zv T j hG hm eE PyProof.Rows.boot_max (ss T.calm) (fun H x y d e Q hx hy q=>?_) ha hb he he2;cases d with
  | int i =>
    cases e with
    | int j=>exact ⟨i,j,by rw [aS hx,aS hy],q _ H (aq.refl _) cV⟩
    | _=>exact q.elim
  | _=>exact q.elim⟩
noncomputable def iP:PyData->R PyData
  | .list ds=>.ok (.tuple ds)
  | .tuple ds=>.ok (.tuple ds)
  | _=>.no
theorem gJ (T:Tb X nl G) (j:Nat) (hG:G[j]?=some ("tuple" : Str)) (hm:X.mg "tuple" = none) (ha:Z.c5 X a fa) (he:az a=true:=by rfl):Z.cD X (.Call (.Name "tuple" p) [a] [] pos) (e1 iP fa):=⟨have ha:=ha.un;by
  refine wT T j hG hm eE PyProof.Rows.boot_tuple lU (fun H x d Q hx q=>?_) ha he;cases d with
  | list ds =>
    obtain ⟨a',vs,rfl,h,r⟩:=dU (K:=X.K) hx;exact ⟨a',vs,rfl,.inl ⟨h,fun l hl=>q _ _ (cu hl _) (fu hl r)⟩⟩
  | tuple ds =>
    obtain ⟨a',vs,rfl,h,r⟩:=dg hx;exact ⟨a',vs,rfl,.inr ⟨iA.of h,q _ H (aq.refl _) (by simp only [Rp];exact ⟨a',vs,rfl,h,r⟩)⟩⟩
  | _=>exact q.elim⟩
inductive Ty where
  | int | bool | str | list | tuple
noncomputable def Ty.nm:Ty->String
  | .int => "int"
  | .bool => "bool"
  | .str => "str"
  | .list => "list"
  | .tuple => "tuple"
noncomputable def gY:Ty->PyData->Bool
  | .int,.int _=>true
  | .int,.bool _=>true
  | .bool,.bool _=>true
  | .str,.str _=>true
  | .list,.list _=>true
  | .tuple,.tuple _=>true
  | _,_=>false
noncomputable def bT (T:Ty):PyData->R PyData
  | .dict _=>.no
  | d=>.ok (.bool (gY T d))
theorem va:cQ X (.builtin "isinstance") (fun xs H Q=>∃ x t T k,xs=[x,.ty T]/\jn X.K H x t/\PySem.W.kitOne X.K t (.type T)=some k/\Q (.bl k) H):=by
  intro pins s σ H xs us Q I r h;obtain ⟨x,t,T,k,rfl,ty,e,q⟩:=h;obtain ⟨u,w',rfl,rx,ry⟩:=kM r;cases ry;exact sD I rx ty e fun tk=>⟨.bl k,H,I.tok tk,rfl,q⟩
theorem Ab {K:PySem.W.Frag} {H:Hp} {d:PyData} {v:V} (h:fS H d v):(∃ kvs,d=.dict kvs)\/∃ t,jn K H v t/\∀ T:Ty,PySem.W.kitOne K t (.type T.nm)=some (gY T d):=by
  cases d with
  | none=>rw [k6 h];exact .inr ⟨_,.non,fun T=>by cases T <;> rfl⟩
  | bool k=>rw [jg h];exact .inr ⟨_,.bl k,fun T=>by cases T <;> rfl⟩
  | int i=>rw [aS h];exact .inr ⟨_,.int i,fun T=>by cases T <;> rfl⟩
  | str y=>rw [eX h];exact .inr ⟨_,.str y,fun T=>by cases T <;> rfl⟩
  | tuple ds=>obtain ⟨a,vs,rfl,ha,_⟩:=dg h;exact .inr ⟨_,.tup ha,fun T=>by cases T <;> rfl⟩
  | list ds =>
    obtain ⟨a,vs,rfl,ha,_⟩:=nk h;rcases ha with ha | ⟨o,ha⟩
    · exact .inr ⟨_,.lst ha,fun T=>by cases T <;> rfl⟩
    · exact .inr ⟨_,.frz ha,fun T=>by cases T <;> rfl⟩
  | dict kvs=>exact .inl ⟨kvs,rfl⟩
theorem qy (ty:Ty) {y:Str} {py:Pos} (T:Tb X nl G) (j:Nat) (hG:G[j]?=some ("isinstance" : Str)) (hm:X.mg "isinstance" = none) (hy:bootBuiltins y=some (.type ty.nm)) (T':Tb X nl G) (j':Nat) (hG':G[j']?=some y) (hm':X.mg y=none) (ha:c5 X a fa)
    (he:az a=true:=by rfl):cD X (.Call (.Name "isinstance" p) [a,.Name y py] [] pos) (e1 (bT ty) fa):=by
  have g:=T.gl _ (List.mem_of_getElem? hG);have g':=T.gl _ (List.mem_of_getElem? hG');have hp:PE X (.Name y py) (tC (.ty ty.nm)):=qS g'.1 hm' hy rfl g'.2.2 g'.2.1;refine PE.imp (fE va g.1 hm PyProof.Rows.boot_isinstance (eW ha (eW hp lu) (aO he)) g.2.2 g.2.1 (aO he)) fun σ H Q h=>?_
  refine (dl (P:=o5) (f:=fa) (k:=fun _ d=>bT ty d) (dP (X:=X) eE Q) h).post fun v H1 ⟨_,d,_,_,p1,q1⟩=>?_
  show ∃ x t T k,_/\_/\_/\_;rcases Ab (K:=X.K) p1 with ⟨kvs,rfl⟩ | ⟨t,ht,hk⟩
  · exact q1.elim
  · refine ⟨v,t,ty.nm,gY ty d,rfl,ht,hk ty,?_⟩;cases d with
    | dict kvs=>exact q1.elim
    | _=>exact q1 _ H1 (aq.refl _) eV
theorem gq {py:Pos} (T:Tb X nl G) (j:Nat) (hG:G[j]?=some ("isinstance" : Str)) (hm:X.mg "isinstance" = none) (T':Tb X nl G) (j':Nat) (hG':G[j']?=some ("int" : Str)) (hm':X.mg "int" = none) (ha:Z.c5 X a fa) (he:az a=true:=by rfl):Z.cD X (.Call (.Name "isinstance" p) [a,.Name "int" py] [] pos) (e1 (bT .int) fa):=⟨have ha:=ha.un;qy .int T j hG hm PyProof.Rows.boot_int T' j' hG' hm' ha he⟩
theorem fX {py:Pos} (T:Tb X nl G) (j:Nat) (hG:G[j]?=some ("isinstance" : Str)) (hm:X.mg "isinstance" = none) (T':Tb X nl G) (j':Nat) (hG':G[j']?=some ("bool" : Str)) (hm':X.mg "bool" = none) (ha:Z.c5 X a fa) (he:az a=true:=by rfl):Z.cD X (.Call (.Name "isinstance" p) [a,.Name "bool" py] [] pos) (e1 (bT .bool) fa):=⟨have ha:=ha.un;qy .bool T j hG hm PyProof.Rows.boot_bool T' j' hG' hm' ha he⟩
theorem cJ {py:Pos} (T:Tb X nl G) (j:Nat) (hG:G[j]?=some ("isinstance" : Str)) (hm:X.mg "isinstance" = none) (T':Tb X nl G) (j':Nat) (hG':G[j']?=some ("tuple" : Str)) (hm':X.mg "tuple" = none) (ha:Z.c5 X a fa) (he:az a=true:=by rfl):Z.cD X (.Call (.Name "isinstance" p) [a,.Name "tuple" py] [] pos) (e1 (bT .tuple) fa):=⟨have ha:=ha.un;qy .tuple T j hG hm PyProof.Rows.boot_tuple T' j' hG' hm' ha he⟩
noncomputable def og:List PyData->Option Bool
  | []=>some true
  | .bool k::ds=>(og ds).map fun r=>k&&r
  | _=>none
noncomputable def wF:PyData->R PyData
  | .list ds=>match og ds with
    | some k=>.ok (.bool k)
    | none=>.no
  | _=>.no
end
section
variable {X:Cx} {tg a b c:Expr} {fa fb fc:Fe} {pos p2:Pos} {nl:Nat} {G:List Str} {x:Str} {p:Pos} {fs:aI->R (List PyData)} {es:List Expr}
noncomputable def tU:PyData->R (List PyData)
  | .list ds=>.ok ds
  | .tuple ds=>.ok ds
  | _=>.no
noncomputable def gK (f:Fe):aI->R (List PyData):=fun ρ=>f ρ>>=tU
theorem vk {K:PySem.W.Frag} {a:Addr} {ds:List PyData}:yq (Av K a) (fun H=>∃ o vs,H a=some (.frz o (.lst vs))/\br H ds vs) ds where
  go:=fun i H ⟨o,vs,h,r⟩ hi=>by
    have hl:=r.length;exact ⟨vs,vs[i],.inl (.inr ⟨o,h⟩),List.getElem?_eq_getElem (by omega)⟩
  yld:=fun i H x H' d ⟨o,vs,h,r⟩ hd ⟨e,y⟩=>by
    subst e;obtain ⟨v,e1,p⟩:=r.get hd;have:=y vs (.inl (.inr ⟨o,h⟩));rw [e1] at this;cases this;exact ⟨aq.refl _,p⟩
  stop:=fun i H ⟨o,vs,h,r⟩ hi=>⟨vs,.inl (.inr ⟨o,h⟩),by rw [r.length];exact hi⟩
theorem xb {K:PySem.W.Frag} {a:Addr} {ds:List PyData}:yq (AU K a) (fun H=>∃ vs,H a=some (.tup vs)/\br H ds vs) ds where
  go:=fun i H ⟨vs,h,r⟩ hi=>by
    have hl:=r.length;exact ⟨vs,vs[i],iA.of h,List.getElem?_eq_getElem (by omega)⟩
  yld:=fun i H x H' d ⟨vs,h,r⟩ hd ⟨e,y⟩=>by
    subst e;obtain ⟨v,e1,p⟩:=r.get hd;have:=y vs (iA.of h);rw [e1] at this;cases this;exact ⟨aq.refl _,p⟩
  stop:=fun i H ⟨vs,h,r⟩ hi=>⟨vs,iA.of h,by rw [r.length];exact hi⟩
noncomputable def Bs (K:PySem.W.Frag) (tl:TE):TI:=fun σ H R=>tl σ H fun x H1=>∃ a,x=.ref a/\((∃ xs,kW K H1 a xs/\R (Av K a) H1)\/∃ xs,iA K H1 a xs/\R (AU K a) H1)
theorem Ac {l:Expr} {tl:TE} (hl:PE X l tl):PI X tg l (Bs X.K tl):=by
  intro pins s σ H R I h;refine dc (hl pins s σ H _ I h) fun v s1 ⟨x,H1,I1,r1,q1⟩=>?_
  obtain ⟨a,e,q⟩:=q1;subst e;cases r1;rcases q with ⟨xs,hq,q⟩ | ⟨xs,hq,q⟩
  · obtain ⟨its,rv,p,hz⟩:=I1.list hq;refine wpAny_pyIter_list p.isList ?_;refine ⟨s1.heap.objs.size,[s1.heap.objs.size],_,_,H1,rfl,I1.kept (t':=s1.toks) fun b o e=>Heap.get?_push_of_some _ e,sT a _,⟨_,Heap.get?_push_size _ rfl,rfl,rfl⟩,fun b hb=>?_,q⟩;have e:b=s1.heap.objs.size:=by simpa using hb
    subst e;exact I1.fpOk (Nat.le_refl _) (I1.hok.fresh (Nat.le_refl _))
  · obtain ⟨its,rv,p,hz⟩:=I1.tuple hq;refine wpAny_pyIter_tuple (show s1.heap.IsTuple a its.toArray from p) ?_;refine ⟨s1.heap.objs.size,[s1.heap.objs.size],_,_,H1,rfl,I1.kept (t':=s1.toks) fun b o e=>Heap.get?_push_of_some _ e,p9 a _,⟨_,Heap.get?_push_size _ rfl,rfl,rfl⟩,fun b hb=>?_,q⟩;have e:b=s1.heap.objs.size:=by simpa using hb
    subst e;exact I1.fpOk (Nat.le_refl _) (I1.hok.fresh (Nat.le_refl _))
theorem zy (Rk:It->Hp->Prop):wu X (fun (r:R (List PyData)) H=>match r with | .ok ds=>∀ J H',aq H H'->(∃ Gd,yq J Gd ds/\An H' (fun _=>False) Gd)->Rk J H' | .ex c=>Xw X c H | .no=>False) where
  mono:=fun r H H' h s=>by
    cases r with
    | ok d=>exact fun J H2 s2=>h J H2 (s.trans s2)
    | ex c=>exact Xw.mono h s
    | no=>exact h
  ex:=fun c H h=>h
  no:=fun H h=>h
theorem c6 (ha:Z.cD X a fa):Z.re X tg a (gK fa):=⟨have ha:=ha.un;PI.imp (Ac ha) fun σ H Rk h=>(dl (P:=gj) (f:=fa) (k:=fun _=>tU) (zy (X:=X) Rk) h).post fun v H1 ⟨_,d,_,_,p1,q1⟩=>by
    cases d with
    | list ds =>
      simp only [Rp] at p1;obtain ⟨a',o,vs,rfl,h,r⟩:=p1;exact ⟨a',rfl,.inl ⟨vs,.inl (.inr ⟨o,h⟩),q1 _ H1 (aq.refl _) ⟨_,vk,fun H2 k _=>⟨o,vs,k.2 _ _ _ h,br.kp k _ _ r⟩⟩⟩⟩
    | tuple ds =>
      simp only [Rp] at p1;obtain ⟨a',vs,rfl,h,r⟩:=p1;exact ⟨a',rfl,.inr ⟨vs,iA.of h,q1 _ H1 (aq.refl _) ⟨_,xb,fun H2 k _=>⟨vs,k.1 _ _ h,br.kp k _ _ r⟩⟩⟩⟩
    | _=>exact q1.elim⟩
noncomputable def bG (lo:Int) (n:Nat):List PyData:=(List.range n).map fun (k:Nat)=>.int (lo+k)
noncomputable def ki:List PyData->R (List PyData)
  | [.int j]=>if -(2 ^ 62)<=j/\j < 2 ^ 62 then .ok (bG 0 j.toNat) else .no
  | [.int i,.int j]=>if -(2 ^ 62)<=i/\i < 2 ^ 62/\-(2 ^ 62)<=j/\j < 2 ^ 62 then .ok (bG i (j-i).toNat) else .no
  | _=>.no
noncomputable def gI (fs:aI->R (List PyData)):aI->R (List PyData):=fun ρ=>fs ρ>>=ki
theorem mx {lo:Int} {n:Nat}:yq (zL lo n) (fun _=>True) (bG lo n) where
  go:=fun i H _ hi=>by
    show i < n;simpa [bG] using hi
  yld:=fun i H x H' d _ hd ⟨e,y⟩=>by
    subst e;subst y;refine ⟨aq.refl _,?_⟩;unfold bG at hd;rw [List.getElem?_map] at hd;cases h:(List.range n)[i]? with
    | none=>rw [h] at hd;cases hd
    | some k =>
      rw [h] at hd;have hk:k=i:=by
        rw [List.getElem?_range] at h
        · exact (Option.some.inj h).symm
        · have:=(List.getElem?_eq_some_iff.mp h).1;simpa using this
      subst hk;cases hd;exact cV
  stop:=fun i H _ hi=>by
    show n<=i;simpa [bG] using hi
theorem g8 (T:Tb X nl G) (j:Nat) (hG:G[j]?=some ("range" : Str)) (hm:X.mg "range" = none) (ha:Z.pS X [a] fs) (hl:∀ ρ ds,fs ρ=.ok ds->ds.length=1) (hs:az a=true:=by rfl):Z.re X tg (.Call (.Name "range" p) [a] [] pos) (gI fs):=⟨have ha:=ha.un;PI.imp (sP (T.gl _ (List.mem_of_getElem? hG)).1 hm ha (aO hs)) fun σ H Rk ⟨ρ,sl,q⟩=>by
    refine ⟨ρ,sl,?_⟩;dsimp only [gI] at q;cases e:fs ρ with
    | ex c=>rw [e] at q;exact q
    | no=>rw [e] at q;exact q
    | ok ds =>
      rw [e] at q;have hlen:=hl ρ ds e;intro vs H1 s1 r1
      match ds,hlen with
      | [d],_ =>
        simp only [RA] at r1;obtain ⟨v,r',rfl,p1,rfl⟩:=r1;cases d with
        | int j =>
          have ev:v=.int j:=by simpa only [Rp] using p1
          subst ev;by_cases hz:-(2 ^ 62)<=j/\j < 2 ^ 62
          · have e2:ki [.int j]=.ok (bG 0 j.toNat):=if_pos hz;rw [R.ok_bind,e2] at q;exact ⟨j,rfl,hz.1,hz.2,q _ H1 s1 ⟨_,mx,fun _ _ _=>True.intro⟩⟩
          · have e2:ki [.int j]=.no:=if_neg hz;rw [R.ok_bind,e2] at q;exact q.elim
        | _=>exact q.elim⟩
end
noncomputable def qF (x:Int):List Int->List Int
  | []=>[x]
  | y::r=>if x<=y then x::y::r else y::qF x r
noncomputable def eU:List Int->List Int
  | []=>[]
  | x::r=>qF x (eU r)
theorem jE (x:Int):∀ l,(qF x l).Perm (x::l)
  | []=>List.Perm.refl _
  | y::r=>by
    unfold qF;split
    · exact List.Perm.refl _
    · exact ((jE x r).cons y).trans (List.Perm.swap x y r)
theorem ee:∀ l,(eU l).Perm l
  | []=>List.Perm.refl _
  | x::r=>(jE x (eU r)).trans ((ee r).cons x)
theorem j6 (x:Int):∀ l,l.Pairwise (·<=·)->(qF x l).Pairwise (·<=·)
  | [],_=>by unfold qF;exact List.pairwise_singleton _ _
  | y::r,h=>by
    have h':=List.pairwise_cons.mp h;unfold qF;split
    · rename_i hxy;refine List.pairwise_cons.mpr ⟨fun z hz=>?_,h⟩;rcases List.mem_cons.mp hz with rfl | hz
      · exact hxy
      · exact Int.le_trans hxy (h'.1 z hz)
    · rename_i hxy;refine List.pairwise_cons.mpr ⟨fun z hz=>?_,j6 x r h'.2⟩;rcases List.mem_cons.mp ((jE x r).mem_iff.mp hz) with rfl | hz
      · omega
      · exact h'.1 z hz
theorem gC:∀ l,(eU l).Pairwise (·<=·)
  | []=>List.Pairwise.nil
  | x::r=>j6 x _ (gC r)
theorem pC {a b:List Int} (hp:a.Perm b) (hs:a.Pairwise (·<=·)):a=eU b:=PySem.W.ksm_same (hp.trans (ee b).symm) hs (gC b)
section
variable {prog:Program} {w:World} {A:Around} {E:Value->Shared->Prop} {s:Shared}
theorem n9 {d:Addr} {kvs:List (bZ×Value)} {ns:List Int} {Q:Value->Shared->Prop} (hh:A.handled=none) (lo:(d==sysModules)=false) (hd:s.heap.DictOf (cf prog w) d kvs) (hk:kvs.map (·.1)=ns.map Sum.inl) (h64:ns.length < 64)
    (h:∀ (D:Addr) (h':Heap) (tk:Nat) (vs:List Value) (e:Nat),s.heap.get? D=none->(∀ b o,s.heap.get? b=some o->h'.get? b=some o)->h'.get? D=some (seqObj "list" vs.toArray e)->IntsAre vs (eU ns)->Q (.ref D) { s with heap:=h',toks:=tk }) :
    wpAny (model prog w) A (call (.builtin "sorted") [.ref d]) Q E s:=by
  obtain ⟨ep,hat⟩:=hd.dictAt;have hlen:kvs.length=ns.length:=by have:=congrArg List.length hk;simpa using this
  have hn:kvs.length<=sizeLine:=by rw [sizeLine_eq];omega
  refine Calls.call_function_entry kind_sorted plain_sorted entry_sorted (args_sorted1 _) ?_;unfold Builtin.«sorted»;refine wpAny_bind (m:=checkCount "sorted" 1 1 _) (wpAny_pure ?_);refine wpAny_bind (PySem.W.kdu_collect (A:=A.in1) (PySem.W.kdl_dict (knd:=cf prog w) (kvs:=kvs) (ep:=ep) lo) hh hat hn fun h1 tk acc hk1 hacc=>?_);have hl:acc.toList.length=kvs.length:=by rw [Array.length_toList];exact hacc.1
  have hI:IntsAre acc.toList ns:=by
    have key:∀ (l:List Value) (ms:List Int) (k:Nat),l.length=ms.length->(∀ (j:Nat) (v:Value),l[j]?=some v->∃ n:Int,ms[j]?=some n/\∃ t,v=Value.int n t)->IntsAre l ms:=by
      intro l;induction l with
      | nil=>intro ms k e _;have:ms=[]:=List.length_eq_zero_iff.mp e.symm;subst this;exact .nil
      | cons v r ih =>
        intro ms k e hv;cases ms with
        | nil=>cases e
        | cons n ms =>
          obtain ⟨n',e1,t,rfl⟩:=hv 0 v rfl;have:n=n':=Option.some.inj e1;subst this;exact .cons n t (ih ms (k+1) (by simpa using e) fun j u hu=>hv (j+1) u (by simpa using hu))
    refine key acc.toList ns 0 (by rw [hl,hlen]) fun j v hv=>?_
    obtain ⟨κ,x,hx,his⟩:=hacc.2 j v (by rw [<- Array.getElem?_toList];exact hv);have e1:(kvs.map (·.1))[j]?=some κ:=by rw [List.getElem?_map,hx];rfl
    rw [hk,List.getElem?_map] at e1;cases e2:ns[j]? with
    | none=>rw [e2] at e1;cases e1
    | some n =>
      rw [e2] at e1;have e3:Sum.inl n=κ:=Option.some.inj e1;subst e3;rcases cj (show kN (Sum.inl n) v=true from his) with ⟨i,t,e4,e5⟩ | ⟨y,t,e4,_⟩
      · cases e4;exact ⟨n,rfl,t,e5⟩
      · cases e4
  refine wpAny_bind (wpAny_newList ?_ (by rw [hl];exact hn));have hoL:(h1.push (seqObj "list" acc.toList.toArray 0)).get? h1.objs.size=some (seqObj "list" acc.toList.toArray 0):=Heap.get?_push_size _ rfl;show wpAny _ _ _ _ _ { s with heap:=h1.push (seqObj "list" acc.toList.toArray 0),toks:=tk };refine wpAny_bind (wpAny_holding (wpAny_call_entry slot_list_sort ⟨_,hoL,rfl⟩ entry_list_sort (list_sort_tree hoL hI (by rw [hl,hlen];exact h64) fun out ns' a1 a2 a3=>⟨_,rfl,?_⟩) (args_list_sort _)));refine wpAny_pure ⟨_,rfl,?_⟩;obtain ⟨e,he⟩:=sortedHeap_at (out:=out) hoL;have hsz:s.heap.get? h1.objs.size=none:=by
    cases q:s.heap.get? h1.objs.size with
    | none=>rfl
    | some o=>exact absurd (Heap.lt_size (hk1 _ _ q)) (Nat.lt_irrefl _)
  refine h h1.objs.size _ tk out.toList e hsz (fun b o q=>?_) he (by rw [pC a2 a3] at a1;exact a1);have q1:=hk1 b o q;have hlt:b < h1.objs.size:=Heap.lt_size q1;show (sortedHeap (h1.push (seqObj "list" acc.toList.toArray 0)) h1.objs.size acc.toList out).get? b=some o;rw [sortedHeap_old (Nat.ne_of_lt hlt) (by rw [size_push'];exact Nat.lt_succ_of_lt hlt)];exact Heap.get?_push_of_some _ q1
end
theorem vT {fs ex:List Addr} {H:Hp} {h h':Heap} {a:Addr} {o:HO} (k:∀ b u,h.get? b=some u->h'.get? b=some u) (hg:h.get? a=none) (hn:H a=none):Un fs ex H (dk H a o) h h':=by
  have ne:∀ {b:Addr} {u:Obj},h.get? b=some u->b≠a:=fun e z=>by subst z;rw [hg] at e;cases e
  exact ⟨fun b u q _ _ _=>k b u q,fun b u q _ _ _=>⟨u.slots,k b u q⟩,fun b u q n _=>by rw [aH (ne q)];exact n,fun b u q _=>⟨u,k b u q⟩,fun b xs q=>by rw [aH (aZ q hn)];exact q,fun b u xs q=>by rw [aH (aZ q hn)];exact q,
    fun b ps q=>⟨#[],by rw [aH (aZ q hn),q];simp⟩⟩
theorem oW {X:Cx} {pins:List (Addr×Obj)} {σ:St} {H:Hp} {s:Shared} {h':Heap} {a:Addr} {o:HO} {t':Nat} (I:ay X pins σ H s) (k:∀ b u,s.heap.get? b=some u->h'.get? b=some u) (hg:s.heap.get? a=none) (hn:H a=none)
    (new:bY X.prog X.w (dk H a o) h' a o):ay X pins σ (dk H a o) { s with heap:=h',toks:=t' }:=by
  refine I.un (vT k hg hn) fun b u e=>?_
  by_cases hb:b=a
  · subst hb;rw [bJ] at e;cases e;exact new
  · rw [aH hb] at e;exact (I.hok b u e).stay (fun c v _ q=>k c v q) (fun c q=>by rw [aH (aZ q hn)];exact q) fun c xs q=>by rw [aH (aZ q hn)];exact q
theorem tV {X:Cx} {pins:List (Addr×Obj)} {σ:St} {H:Hp} {s:Shared} {a:Addr} (I:ay X pins σ H s) (hg:s.heap.get? a=none):H a=none:=by
  cases q:H a with
  | none=>rfl
  | some o=>obtain ⟨u,e⟩:=qi (I.hok a o q);rw [hg] at e;cases e
section
variable {X:Cx} {a b c:Expr} {fa fb fc:Fe} {pos p2:Pos} {nl:Nat} {G:List Str} {x:Str} {p:Pos}
noncomputable def eA:List PyData->Option (List Int)
  | []=>some []
  | .int i::ds=>(eA ds).map fun r=>i::r
  | _=>none
theorem iN:∀ {ds:List PyData} {ns:List Int},eA ds=some ns->ds=ns.map PyData.int
  | [],ns,h=>by cases h;rfl
  | d::ds,ns,h=>by
    cases d with
    | int i =>
      simp only [eA] at h;cases e:eA ds with
      | none=>rw [e] at h;cases h
      | some r =>
        rw [e] at h;cases h;rw [List.map_cons,iN e]
    | _=>cases h
theorem jV:∀ ns:List Int,eA (ns.map PyData.int)=some ns
  | []=>rfl
  | n::ns=>by simp only [List.map_cons,eA,jV ns,Option.map_some]
noncomputable def jd:PyData->R PyData
  | .list ds=>match eA ds with
    | some ns=>if ns.length < 64 then .ok (.list ((eU ns).map PyData.int)) else .no
    | none=>.no
  | .dict kvs=>match eA (kvs.map (·.1)) with
    | some ns=>if ns.length < 64 then .ok (.list ((eU ns).map PyData.int)) else .no
    | none=>.no
  | _=>.no
noncomputable def xZ (K:PySem.W.Frag):List V->Hp->VK->Prop:=fun xs H Q=>∃ p ns,xs=[.ref p]/\kW K H p (ns.map V.int)/\ns.length < 64/\∀ l,H l=none->Q (.ref l) (dk H l (.lst ((eU ns).map V.int)))
noncomputable def yn:List V->Hp->VK->Prop:=fun xs H Q=>∃ p ks ns,xs=[.ref p]/\Rd H p (.dK ks)/\ks.map (·.1)=ns.map Sum.inl/\ns.length < 64/\∀ l,H l=none->Q (.ref l) (dk H l (.lst ((eU ns).map V.int)))
theorem mm (ns:List Int):(eU ns).length=ns.length:=(ee ns).length_eq
theorem p8:cQ X (.builtin "sorted") (xZ X.K):=by
  intro pins s σ H xs us Q I r h;obtain ⟨p,ns,rfl,hq,h64,q⟩:=h;obtain ⟨u,rfl,rx⟩:=fM r;cases rx;obtain ⟨its,rv,pl,hz⟩:=I.list hq;have hI:IntsAre its ns:=k9 rv;have hl:=IntsAre.length hI;refine sorted_ints pl.isList hI (by omega) fun out ns' a1 a2 a3=>?_
  rw [pC a2 a3] at a1;obtain ⟨e,he⟩:=sortedAll_at s.heap its out;refine ⟨.ref (s.heap.objs.size+1),_,I.laid (t':=s.toks) (o:=.lst ((eU ns).map V.int)) (fun b o e=>sortedAll_old e) (Nat.le_succ _) ⟨?_,out.toList,e,iD a1,by simpa [seqObj] using he⟩,rfl,q _ (I.hok.fresh (Nat.le_succ _))⟩;rw [List.length_map,mm,sizeLine_eq];omega
theorem qv (hc:X.calm=true):cQ X (.builtin "sorted") yn:=by
  intro pins s σ H xs us Q I r h;obtain ⟨p,ks,ns,rfl,hq,hk,h64,q⟩:=h;obtain ⟨u,rfl,rx⟩:=fM r;cases rx;obtain ⟨hz,hlo,vs,kv,hd⟩:=la I.hok hq;refine n9 (I.ok.hd hc) hlo hd (by rw [<- kv.keys];exact hk) h64 fun D h' tk vs' e hg kp hD hI=>?_
  have hn:=tV I hg;refine ⟨.ref D,_,oW (t':=tk) (o:=.lst ((eU ns).map V.int)) I kp hg hn ⟨?_,vs',e,iD hI,by simpa [seqObj] using hD⟩,rfl,q _ hn⟩;rw [List.length_map,mm,sizeLine_eq];omega
theorem n4:∀ {H:Hp} {ns:List Int} {vs:List V},br H (ns.map PyData.int) vs->vs=ns.map V.int
  | H,[],vs,r=>by rw [List.map_nil] at r;rw [r.nil_inv];rfl
  | H,n::ns,vs,r=>by
    rw [List.map_cons] at r;obtain ⟨v,r',rfl,p,t⟩:=r.cons_inv;have:v=.int n:=by simpa only [Rp] using p
    rw [this,n4 t];rfl
theorem oj:∀ {H:Hp} {kvs:List (PyData×PyData)} {ks:List (bZ×V)},cZ H kvs ks->kvs.map (·.1)=ks.map fun k=>dQ k.1
  | H,[],ks,r=>by simp only [cZ] at r;rw [r];rfl
  | H,(k,d)::kvs,ks,r=>by
    simp only [cZ,xm] at r;obtain ⟨x,v,r',rfl,⟨e,_⟩,t⟩:=r;rw [List.map_cons,List.map_cons,oj t,e]
theorem mi:∀ {ks:List (bZ×V)} {ns:List Int},(ks.map fun k=>dQ k.1)=ns.map PyData.int->ks.map (·.1)=ns.map Sum.inl
  | [],[],_=>rfl
  | [],_::_,h=>by cases h
  | _::_,[],h=>by cases h
  | (k,v)::ks,n::ns,h=>by
    rw [List.map_cons,List.map_cons] at h;injection h with h1 h2
    rw [List.map_cons,List.map_cons,mi h2];cases k with
    | inl i=>simp only [dQ] at h1;cases h1;rfl
    | inr y=>simp only [dQ] at h1;cases h1
theorem nF (T:Tb X nl G) (j:Nat) (hG:G[j]?=some ("sorted" : Str)) (hm:X.mg "sorted" = none) (ha:Z.c5 X a fa) (he:az a=true:=by rfl):Z.k7 X (.Call (.Name "sorted" p) [a] [] pos) (e1 jd fa):=⟨have ha:=ha.un;by
  refine yZ T j hG hm sA PyProof.Rows.boot_sorted (p8.or (qv T.calm)) (fun H x d Q hx q=>?_) ha he;cases d with
  | list ds =>
    simp only [jd] at q;cases ei:eA ds with
    | none=>rw [ei] at q;exact q.elim
    | some ns =>
      rw [ei] at q;dsimp only at q;by_cases h64:ns.length < 64
      · rw [if_pos h64] at q;obtain ⟨a',vs,rfl,h,r⟩:=dU (K:=X.K) hx;rw [iN ei] at r;rw [n4 r] at h;exact .inl ⟨a',ns,rfl,h,h64,fun l hl=>q _ _ (cu hl _) (eM hl (br.ints _))⟩
      · rw [if_neg h64] at q;exact q.elim
  | dict kvs =>
    simp only [jd] at q;cases ei:eA (kvs.map (·.1)) with
    | none=>rw [ei] at q;exact q.elim
    | some ns =>
      rw [ei] at q;dsimp only at q;by_cases h64:ns.length < 64
      · rw [if_pos h64] at q;have hi:gN kvs=false:=by
          cases kvs with
          | nil=>rfl
          | cons kd kvs =>
            obtain ⟨k,d⟩:=kd;cases k <;> first | rfl | (simp [eA] at ei)
        obtain ⟨a',ks,rfl,h,r⟩:=ig hi hx;have hk:=mi ((oj r).symm.trans (iN ei));exact .inr ⟨a',ks,ns,rfl,h,hk,h64,fun l hl=>q _ _ (cu hl _) (eM hl (br.ints _))⟩
      · rw [if_neg h64] at q;exact q.elim
  | _=>exact q.elim⟩
theorem sZ (hc:X.calm=true):cQ X (.builtin "all") (fun xs H Q=>∃ (p:Addr) (bs:List Bool),xs=[.ref p]/\kW X.K H p (bs.map V.bl)/\Q (.bl (bs.all id)) H):=by
  intro pins s σ H xs us Q I r h;obtain ⟨p,bs,rfl,hq,q⟩:=h;obtain ⟨u,rfl,rx⟩:=fM r;cases rx;obtain ⟨its,rv,pl,hz⟩:=I.list hq;have hh:X.A.in1.handled=none:=I.ok.hd hc;have hlt:p≠s.heap.objs.size:=by obtain ⟨o,e,_⟩:=pl.isList;exact Nat.ne_of_lt (Heap.lt_size e)
  have hits:its=bs.map Value.bool:=by
    have key:∀ (bs:List Bool) (us:List Value),bp (bs.map V.bl) us->us=bs.map Value.bool:=by
      intro bs;induction bs with
      | nil=>intro us r;cases r;rfl
      | cons k bs ih=>intro us r;rw [List.map_cons] at r;cases r with | cons r1 r2=>rw [ih _ r2];cases r1;rfl
    exact key bs its rv
  refine call_all_walk (wpAny_pyIter_list pl.isList ?_);refine ⟨s.heap.objs.size,_,_,its.toArray.size,_,_,fun i=>(bs[i]?).getD true,rfl,Walks.list hh s.heap.objs.size p hlt its.toArray,⟨⟨_,Heap.get?_push_size _ rfl,rfl,rfl⟩,?_⟩,fun i v s' Q' E' hv hQ'=>?_,fun h' tk kp=>?_⟩
  · obtain ⟨o,e,r'⟩:=pl.isList;exact ⟨o,Heap.get?_push_of_some _ e,r'⟩
  · have hv':its[i]?=some v:=by simpa using hv
    rw [hits,List.getElem?_map] at hv';cases e:bs[i]? with
    | none=>rw [e] at hv';cases hv'
    | some k =>
      rw [e] at hv';cases hv';dsimp only at hQ';rw [e] at hQ';exact wpAny_truthy_bool hQ'
  · have e:((List.range its.toArray.size).all fun i=>(bs[i]?).getD true)=bs.all id:=by
      rw [List.size_toArray,hits,List.length_map];have key:∀ (l:List Bool),((List.range l.length).all fun i=>(l[i]?).getD true)=l.all id:=by
        intro l;induction l with
        | nil=>rfl
        | cons k l ih =>
          rw [List.length_cons,List.range_succ_eq_map,List.all_cons,List.all_map,List.all_cons,<- ih];rfl
      exact key bs
    rw [e];refine ⟨.bl (bs.all id),H,I.kept (t':=tk) fun b o g=>kp b o (fun z=>?_) (Heap.get?_push_of_some _ g),rfl,q⟩;rw [List.mem_singleton.mp z] at g;exact absurd (Heap.lt_size g) (Nat.lt_irrefl _)
theorem oE:∀ {ds:List PyData} {k:Bool},og ds=some k->∃ bs:List Bool,ds=bs.map PyData.bool/\k=bs.all id
  | [],k,h=>by cases h;exact ⟨[],rfl,rfl⟩
  | d::ds,k,h=>by
    cases d with
    | bool j =>
      simp only [og] at h;cases e:og ds with
      | none=>rw [e] at h;cases h
      | some r =>
        rw [e] at h;cases h;obtain ⟨bs,e1,e2⟩:=oE e;exact ⟨j::bs,by rw [e1];rfl,by rw [e2];rfl⟩
    | _=>cases h
theorem mw:∀ {H:Hp} {ns:List Bool} {vs:List V},br H (ns.map PyData.bool) vs->vs=ns.map V.bl
  | H,[],vs,r=>by rw [List.map_nil] at r;rw [r.nil_inv];rfl
  | H,n::ns,vs,r=>by
    rw [List.map_cons] at r;obtain ⟨v,r',rfl,p,t⟩:=r.cons_inv;have:v=.bl n:=by simpa only [Rp] using p
    rw [this,mw t];rfl
theorem u5 (T:Tb X nl G) (j:Nat) (hG:G[j]?=some ("all" : Str)) (hm:X.mg "all" = none) (ha:Z.c5 X a fa) (he:az a=true:=by rfl):Z.cD X (.Call (.Name "all" p) [a] [] pos) (e1 wF fa):=⟨have ha:=ha.un;by
  refine yZ T j hG hm eE PyProof.Rows.boot_all (sZ T.calm) (fun H x d Q hx q=>?_) ha he;cases d with
  | list ds =>
    simp only [wF] at q;cases ei:og ds with
    | none=>rw [ei] at q;exact q.elim
    | some k =>
      rw [ei] at q;obtain ⟨bs,e1,e2⟩:=oE ei;obtain ⟨a',vs,rfl,h,r⟩:=dU (K:=X.K) hx;rw [e1] at r;rw [mw r] at h;refine ⟨a',bs,rfl,h,?_⟩;rw [<- e2];exact q _ H (aq.refl _) eV
  | _=>exact q.elim⟩
end
section
variable {X:Cx} {a b c:Expr} {fa fb fc:Fe} {pos p2:Pos} {nl:Nat} {G:List Str} {x:Str} {p:Pos}
theorem gw.change {Fm H:Hp} {σ:St} {ρ:aI} {i:Nat} {d d':PyData} {a:Addr} {u u':HO} (h:gw Fm H σ ρ) (h1:ρ[i]?=some (.own d)) (h2:σ[i]?=some (some (.ref a))) (hu:H a=some u) (hm:(∃ xs,u=.lst xs)\/∃ ks,u=.dK ks)
    (hr:gQ (dk H a u') d' (.ref a)):gw Fm (dk H a u') σ (ρ.set i (.own d')):=by
  have hFa:=h.own i d a h1 h2;have kp:Kp H (dk H a u'):=gm hu hm;have at_i:∀ (j:Nat) (e:PyData),(ρ.set i (.own d'))[j]?=some (.own e)->∃ e0,ρ[j]?=some (.own e0):=fun j e q=>by
    rw [List.getElem?_set] at q;by_cases hij:i=j
    · subst hij;exact ⟨d,h1⟩
    · rw [if_neg hij] at q;exact ⟨e,q⟩
  refine ⟨fun b x e=>?_,⟨by rw [List.length_set];exact h.sl.1,fun j c w' e1 e2=>?_⟩,fun j e b e1 e2=>?_,fun j k e f b e1 e2 e3 e4=>?_⟩
  · rw [aH (aZ e hFa)];exact h.fm b x e
  · rw [List.getElem?_set] at e1;by_cases hij:i=j
    · subst hij;rw [if_pos rfl] at e1;split at e1
      · cases e1;rw [h2] at e2;cases e2;exact ⟨_,rfl,hr⟩
      · cases e1
    · rw [if_neg hij] at e1;have q:=h.sl.2 j c w' e1 e2;cases c with
      | exc p=>exact q
      | non=>exact True.intro
      | val d1=>obtain ⟨v,z1,z2⟩:=q;exact ⟨v,z1,Rp.kp kp _ _ z2⟩
      | own d1 =>
        obtain ⟨v,z1,z2⟩:=q;subst z1;obtain ⟨b,ob,rfl,hb⟩:=nD z2;have nb:b≠a:=fun z=>hij (by subst z;exact h.apart i j d d1 b h1 e1 h2 e2)
        refine ⟨_,rfl,?_⟩;cases d1 <;> simp only [gQ] at z2 ⊢
        · obtain ⟨b',vs,e,hb',r⟩:=z2;cases e;exact ⟨b,vs,rfl,by rw [aH nb];exact hb',br.kp kp _ _ r⟩
        · obtain ⟨b',vs,e,hb',r⟩:=z2;cases e;exact ⟨b,vs,rfl,by rw [aH nb];exact hb',cZ.kp kp _ _ r⟩
  · obtain ⟨e0,q⟩:=at_i j e e1;exact h.own j e0 b q e2
  · obtain ⟨e0,q⟩:=at_i j e e1;obtain ⟨f0,q'⟩:=at_i k f e2;exact h.apart j k e0 f0 b q q' e3 e4
noncomputable def vZ (i:Nat) (fk fv:Fe):Fs:=fun ρ=>fv ρ>>=fun v=>ma (fk ρ)>>=fun k=>match ρ[i]? with
  | some (.own (.dict kvs))=>match eT k with
    | some _=>if kvs.length < sizeLine then .ok (.nx (ρ.set i (.own (.dict (kK kvs k v))))) else .no
    | none=>.no
  | _=>.no
theorem s9 {k:PyData} {κ:bZ} (h:eT k=some κ):k=dQ κ:=by
  cases k <;> simp only [eT] at h <;> cases h <;> rfl
theorem yU {H:Hp} {κ:bZ} {y:V} (h:Rp H (dQ κ) y):y=kV κ:=by
  cases κ <;> simp only [dQ,Rp] at h <;> exact h
theorem uX {k v:Expr} {fk fv:Fe} {q1 q2 q3:Pos} (T:Tb X nl G) (n:Nat) (hN:X.N[n]?=some x) (hk:Z.cD X k fk) (hv:Z.cD X v fv) (hs:swapsWith v (some (.Subscript (.Name x q1) k q2)) q3.line X.env=pure false:=by rfl):Z.jY X (.Assign [.Subscript (.Name x q1) k q2] v q3) (vZ n fk fv):=⟨have hk:=hk.un;have hv:=hv.un;fun Fm=>by
  have hm:=T.vis x (List.mem_of_getElem? hN);refine PS.imp (wP (by have:=T.hu;omega) (fA hN hm.1 hm.2.1 hm.2.2) hk hv hs) fun D σ H h=>?_
  refine (qE (P:=gj) (f:=fv) (k:=fun ρ v=>ma (fk ρ)>>=fun k=>match ρ[n]? with
    | some (.own (.dict kvs))=>match eT k with
      | some _=>if kvs.length < sizeLine then .ok (.nx (ρ.set n (.own (.dict (kK kvs k v))))) else .no
      | none=>.no
    | _=>.no) h).post fun vv H1 ⟨ρ1,dv,sl1,_,p1,q1⟩=>?_
  have sl0:tH X Fm (fun ρ=>ma (fk ρ)>>=fun k=>match ρ[n]? with
    | some (.own (.dict kvs))=>match eT k with
      | some _=>if kvs.length < sizeLine then .ok (.nx (ρ.set n (.own (.dict (kK kvs k dv))))) else .no
      | none=>.no
    | _=>.no) D σ H1:=⟨ρ1,sl1,q1⟩
  cases e:ρ1[n]? with
  | none =>
    exfalso;rw [e] at q1;cases e2:fk ρ1 with
    | ok _=>rw [e2] at q1;exact q1
    | ex _=>rw [e2] at q1;exact q1
    | no=>rw [e2] at q1;exact q1
  | some c =>
    rw [e] at q1;cases c with
    | own d =>
      cases d with
      | dict kvs =>
        obtain ⟨o,h2,w',rfl,p2⟩:=sl1.sl.at e;simp only [gQ] at p2;obtain ⟨a',ks,rfl,ha,r⟩:=p2;refine ⟨.ref a',h2,?_⟩;refine ⟨ρ1,sl1.sl,?_⟩;cases e2:fk ρ1 with
        | ex _=>rw [e2] at q1;exact q1.elim
        | no=>rw [e2] at q1;exact q1
        | ok kd =>
          rw [e2] at q1;simp only [ma,R.ok_bind] at q1;intro yv H3 s3 p3;cases e3:eT kd with
          | none=>rw [e3] at q1;exact q1.elim
          | some κ =>
            rw [e3] at q1;dsimp only at q1;by_cases hz:kvs.length < sizeLine
            · rw [if_pos hz] at q1;have ek:=s9 e3;subst ek;have ey:=yU p3;subst ey;have ha3:=s3 _ _ ha;have r3:cZ H3 kvs ks:=cZ.kp (Kp.of s3) _ _ r;refine ⟨a',_,rfl,qQ.k ha3 (by rw [r3.length];exact hz),q1 _ _ ((sl1.mono s3).change e h2 ha3 (.inr ⟨_,rfl⟩) ?_)⟩;simp only [gQ];exact ⟨a',_,rfl,bJ,cZ.kp (gm ha3 (.inr ⟨_,rfl⟩)) _ _ (cZ.put κ (p1.mono s3) r3)⟩
            · rw [if_neg hz] at q1;exact q1.elim
      | _ =>
        exfalso;cases e2:fk ρ1 with
        | ok _=>rw [e2] at q1;exact q1
        | ex _=>rw [e2] at q1;exact q1
        | no=>rw [e2] at q1;exact q1
    | _ =>
      exfalso;cases e2:fk ρ1 with
      | ok _=>rw [e2] at q1;exact q1
      | ex _=>rw [e2] at q1;exact q1
      | no=>rw [e2] at q1;exact q1⟩
noncomputable def kj (i:Nat) (f:Fe):Fs:=fun ρ=>ma (f ρ)>>=fun d=>match ρ[i]? with
  | some (.own (.list ds))=>if ds.length < sizeLine then .ok (.nx (ρ.set i (.own (.list (ds++[d]))))) else .no
  | _=>.no
end
open AutoSeq1 (wpAny_loadPart')
end D2
namespace D2
open PySem PySem.Spec PyProof.Rows L2
section
variable {X:Cx} {nl:Nat} {G:List Str} {x:Str} {e:Expr} {f:Fe} {q1 q2 q3 q4:Pos}
theorem oZ (T:Tb X nl G) (n:Nat) (hN:X.N[n]?=some x) (he:Z.cD X e f) (hst:az e=true:=by rfl) (hline:(q2.endLine==q3.line)=true:=by rfl) (hs:swapsWith (.Call (.Attribute (.Name x q1) "append" q2) [e] [] q3) none q4.line X.env=pure false:=by rfl) (hbase:attributeBase (.Name x q1) "append" X.env (eval (.Name x q1) X.env)=eval (.Name x q1) X.env:=by rfl):Z.jY X (.Expr (.Call (.Attribute (.Name x q1) "append" q2) [e] [] q3) q4) (kj n f):=⟨have he:=he.un;fun Fm=>by
  have hm:=T.vis x (List.mem_of_getElem? hN);have sc:starEach [e] X.env=(false,eval e X.env)::starEach [] X.env:=aO hst;refine PS.imp (rf (rh PySem.F.plainAttrs_list PySem.F.slot_list_append PySem.F.type_list_append mJ (fA hN hm.1 hm.2.1 hm.2.2) (jx he kU hst) hbase (by rw [sc];rfl) hline sc rfl) hs) fun D σ H h=>?_
  obtain ⟨ρ,sl,q⟩:=h;unfold kj at q;cases ef:f ρ with
  | ex c=>rw [ef] at q;exact q.elim
  | no=>rw [ef] at q;exact q.elim
  | ok d =>
    rw [ef] at q;simp only [ma,R.ok_bind] at q;cases er:ρ[n]? with
    | none=>rw [er] at q;exact q.elim
    | some c =>
      rw [er] at q;cases c with
      | non=>exact q.elim
      | exc p=>exact q.elim
      | val d'=>exact q.elim
      | own d' =>
        cases d' with
        | list ds =>
          dsimp only at q;by_cases hz:ds.length < sizeLine
          · rw [if_pos hz] at q;obtain ⟨o,h2,w',rfl,p2⟩:=sl.sl.at er;simp only [gQ] at p2;obtain ⟨a',vs,rfl,ha,r⟩:=p2;refine ⟨.ref a',h2,.inl ⟨rfl,_,kW.of ha⟩,ρ,sl.sl,?_⟩;unfold ai aB;rw [ef];intro us H1 s1 ra;simp only [RA] at ra;obtain ⟨v,r',rfl,p1,rfl⟩:=ra;have ha1:=s1 _ _ ha;refine ⟨a',vs,v,rfl,rfl,ha1,by rw [r.length];exact hz,q _ _ ((sl.mono s1).change er h2 ha1 (.inl ⟨_,rfl⟩) ?_)⟩;simp only [gQ];exact ⟨a',_,rfl,bJ,br.kp (gm ha1 (.inl ⟨_,rfl⟩)) _ _ (br.append (r.mono s1) (br.cons p1 br.nil))⟩
          · rw [if_neg hz] at q;exact q.elim
        | _=>exact q.elim⟩
end
noncomputable def nW (g:Fs):Fs:=fun ρ=>ma (g ρ)
theorem Tb.nox {X:Cx} {nl:Nat} {G:List Str} (T:Tb X nl G):Tb X.nox nl G:=⟨T.hu,T.calm,T.nd,T.vis,T.loc,T.gl⟩
section
variable {X:Cx} {nl:Nat} {G:List Str} {st:Stmt} {g:Fs} {pos:Pos}
theorem fg (h:Z.jY X.nox st g):Z.jY X st (nW g):=⟨have h:=h.un;fun Fm=>by
  intro pins s σ H D I ⟨ρ,sl,q⟩;refine wpAny_mono (h Fm pins s σ H D (I.wish _) ⟨ρ,sl,?_⟩) (fun _ _ q=>q.unwish) fun _ _ z=>False.elim z
  unfold nW at q;cases e:g ρ with
  | ok o =>
    rw [e] at q;cases o <;> exact q
  | ex c=>rw [e] at q;exact q.elim
  | no=>rw [e] at q;exact q.elim⟩
end
abbrev pR:List Value:=[.type "ValueError",.type "Exception",.type "BaseException",.type "object"]
abbrev oh:String := "ValueError.__new__"
section
variable {K:PySem.W.Frag} {h:Heap} {C:Addr}
noncomputable def mh (h:Heap) (C:Addr) (bm:List Value):Prop:=∃ N nm q bs hdct sn sub ab col dd k0 k1 k2 k3 k5 mN,h.get? C=some (excClassObj nm q C N bs bm hdct sn sub ab col dd k0 k1 k2 k3 k5 oh)/\h.Ns N mN/\mN "__init__" = none/\OwnTail h pR bm
theorem mh.keep {h':Heap} {bm:List Value} (c:mh h C bm) (k:∀ b o,h.get? b=some o->h'.get? b=some o):mh h' C bm :=
  let ⟨N,nm,q,bs,hdct,sn,sub,ab,col,dd,k0,k1,k2,k3,k5,mN,hC,hN,hni,T⟩:=c
  ⟨N,nm,q,bs,hdct,sn,sub,ab,col,dd,k0,k1,k2,k3,k5,mN,k _ _ hC,hN.keeps k,hni,T.keeps k⟩
noncomputable def hJ (K:PySem.W.Frag) (C:Addr):List Value:=match K.lookup C with
  | some ⟨_,_,.cls cd,_⟩=>cd.mro.drop 1
  | _=>[]
theorem lw (X:K.In h) (q:PySem.W.excIn K C pR oh=true):mh h C (hJ K C):=by
  unfold PySem.W.excIn at q;unfold hJ;cases hk:K.lookup C with
  | none=>rw [hk] at q;cases q
  | some ob =>
    rw [hk] at q;split at q
    · rename_i dd cd sl ho;cases ho;split at q
      · rename_i C' bm k0 k1 k2 k3 n k5 hm hs;simp only [Bool.not_eq_true',beq_iff_eq,Bool.and_eq_true] at q;obtain ⟨⟨⟨⟨⟨e1,e2⟩,hdel⟩,ht⟩,hok⟩,hni⟩:=q;subst e1;subst e2;obtain ⟨nm,bs,mro,ns,qn,hd,sn,sub,ab,col,del⟩:=cd;dsimp only at hm hdel hok hni ⊢;subst hm;subst hdel;have hsl:sl=#[k0,k1,k2,k3,some (.builtin oh),k5]:=by
          obtain ⟨l⟩:=sl;simp only at hs;rw [hs]
        subst hsl;exact ⟨ns,nm,qn,bs,hd,sn,sub,ab,col,dd,k0,k1,k2,k3,k5,_,X _ _ hk,.of_isNs (PySem.W.isNs_of_in X hok),PySem.W.nsMap_none_of_in X hok hni,PySem.W.tail_of_in X ht⟩
      · cases q
    · cases q
end
noncomputable def gr (x:Str) (f:Fe):Fs:=fun ρ=>ma (f ρ)>>=fun _=>.ex x
section
variable {X:Cx} {nl:Nat} {G:List Str} {x:Str} {e:Expr} {f:Fe} {np cp pos:Pos} {C:Addr}
theorem iS (T:Tb X nl G) (j:Nat) (hG:G[j]?=some x) (hm:X.mg x=some (.ref C)) (hq:PySem.W.excIn X.K C pR oh=true) (he:Z.cD X.nox e f) (hst:az e=true:=by rfl):Z.jY X (.Raise (some (.Call (.Name x np) [e] [] cp)) none pos) (gr x f):=⟨have he:=he.un;fun Fm=>by
  intro pins s σ H D I ⟨ρ,sl,q⟩;have hg:=T.gl x (List.mem_of_getElem? hG);have sc:starEach [e] X.env=(false,eval e X.env)::starEach [] X.env:=aO hst;obtain ⟨N,nm,qn,bs,hdct,sn,sub,ab,col,dd,k0,k1,k2,k3,k5,mN,hC,hN,hni,TL⟩:=lw (I.ok.mod.kin) hq;unfold gr at q;cases ef:f ρ with
  | ex c=>rw [ef] at q;exact q.elim
  | no=>rw [ef] at q;exact q.elim
  | ok d =>
    rw [ef] at q;simp only [ma,R.ok_bind] at q;refine wpAny_Raise_call_subT (C:=C) (nm:=nm) (q:=qn) (N:=N) (bs:=bs) (bm:=hJ X.K C) (hdct:=hdct) (sn:=sn) (sub:=sub) (ab:=ab) (col:=col) (dd:=dd) (k0:=k0) (k1:=k1) (k2:=k2) (k3:=k3) (k5:=k5) PySem.F.excBase_ValueError (mN:=mN) (TL.hasType rfl) (I.ok.hd T.calm) (by rw [sc];rfl) hni (jl I hg.1 hm ⟨rfl,?_⟩ hg.2.1);rw [sc];refine Calls.evalArgs_plain (wpAny_mono ?_ (fun vs s2 z=>⟨rfl,z⟩) fun _ _ y=>y);have ha:PA X.nox [e] (uq X.nox Rp (ai f aB)):=jx he kU hst;have hw:=ha cp pins s σ H (fun vs H'=>vs.length=1/\aq H H') (I.wish _) ⟨ρ,sl.sl,by
      unfold ai aB;rw [ef];intro vs H' s' ra;simp only [RA] at ra;obtain ⟨v,r,rfl,_,rfl⟩:=ra;exact ⟨rfl,s'⟩⟩
    rw [show (X.nox.env)=X.env from rfl,sc] at hw;refine wpAny_mono hw (fun us s2 ⟨vs,H2,I2,r2,hl,s12⟩=>?_) fun _ _ z=>False.elim z
    have I2:=I2.unwish;have hlen:us.length=1:=by rw [<- r2.length];exact hl
    exact ⟨by rw [hlen];decide,I2.bk _ _ hC,hN.keeps I2.bk,TL.keeps I2.bk,fun h' p mk=>q.2 C hm pins σ H2 s2 (sl.fm.trans s12) I2 h' p us mk⟩⟩
end
section
variable {P:Program} {w:World} {l:List Env} {H H':Hp} {s s':Shared} {C p:Addr} {e:Value}
theorem jW.again {a0:Value} {B h':Heap} (f:jW P w l H s C H' e s') (fly:Heap.FlyingW B l p (.ref C) a0 s'.heap) (fly':Heap.FlyingW B l p (.ref C) a0 h') (up:s'.heap.UpToSlots h') (okB:fI P w H' B) (hp:H' p=none)
    (cov:∀ b o,s.heap.get? b=some o->H b=none->b∉ja l->B.get? b=some o/\H' b=none):jW P w l H s C H' (.ref p) { s' with heap:=h' }:=by
  refine ⟨f.os,f.bare,f.same,⟨p,a0,B,rfl,fly',okB,hp,cov⟩,fun b o q n hb=>?_⟩;obtain ⟨⟨sl,q2⟩,n2⟩:=f.slot b o q n hb;obtain ⟨_,o3,q3,nf⟩:=fly.2.2.1.mem hb;rw [q2] at q3;cases q3;obtain ⟨kn,q4⟩:=up b _ q2 nf;exact ⟨⟨kn,q4⟩,n2⟩
theorem jW.land {M:Model} {A:Around} {E:Value->Shared->Prop} {Q:Unit->Shared->Prop} (f:jW P w l H s C H' (.ref p) s') (k:∀ h',jW P w l H s C H' (.ref p) { s' with heap:=h' }->Q () { s' with heap:=h' }):wpAny M A (setFlight (.ref p) none) Q E s':=by
  obtain ⟨p',a0,B,ep,fly,okB,hp,cov⟩:=f.ex;cases ep;exact lands_againW fly fun h' fly' up=>k h' (f.again fly fly' up okB hp cov)
theorem jW.look {M:Model} {A:Around} {E:Value->Shared->Prop} {Q:Unit->Shared->Prop} {env:Env} {outer:List Env} {L:Addr} (f:jW P w (env::outer) H s C H' e s') (hfr:A.frames=some (env::outer)) (hf:env.frame=some L)
    (k:∀ p h',e=.ref p->jW P w (env::outer) H s C H' (.ref p) { s' with heap:=h' }->Q () { s' with heap:=h' }):wpAny M A (noteFrame e env) (fun _ s2=>wpAny M A (setFlight e none) Q E s2) E s':=by
  obtain ⟨p,a0,B,rfl,fly,okB,hp,cov⟩:=f.ex;refine wpAny_looks_onW hfr hf fly fun h4 held up4=>?_
  exact wpAny_landsW (s:={ s' with heap:=h4 }) held fun h5 fly5 up5=>k p h5 rfl (f.again fly fly5 (up4.trans up5) okB hp cov)
theorem jW.obj (f:jW P w l H s C H' (.ref p) s'):∃ ob vs,s'.heap.get? p=some ob/\ob.cls=.ref C/\ob.data=.fields vs/\H' p=none/\p∉ja l:=by
  obtain ⟨p',a0,B,ep,fly,okB,hp,cov⟩:=f.ex;cases ep;obtain ⟨oe,ws,h1,h2,h3,_⟩:=fly.first;refine ⟨oe,ws,h1,h2,h3,hp,fun hm=>?_⟩;obtain ⟨_,o,ho,hnf⟩:=fly.2.2.1.mem hm;rw [h1] at ho;cases ho;exact hnf ws h3
end
theorem jW.inv {X:Cx} {pins:List (Addr×Obj)} {σ:St} {Hc H1:Hp} {sc s':Shared} {C:Addr} {e:Value} (f:jW X.prog X.w X.stack Hc sc C H1 e s') (I:ay X pins σ Hc sc):ay X pins σ H1 s' :=
  I.call' f.os f.un f.hok f.bare fun b z=>absurd z (by simp)
noncomputable def Xh (X:Cx) (p:Addr) (ob:Obj):Cx:={ X with A:=X.A.mark (some (.ref p)),calm:=false,xe:=fun _ _=>False,pn:=(p,ob)::X.pn }
section
variable {X:Cx} {pins:List (Addr×Obj)} {σ:St} {H:Hp} {s:Shared} {p:Addr} {ob:Obj}
theorem tO (I:ay X pins σ H s) (hp:s.heap.get? p=some ob) (hn:H p=none) (hl:p≠X.env.locals) (hf:p∉X.fs) (hc:∀ v,ob.data≠.cell v):ay (Xh X p ob) pins σ H s:=by
  refine ⟨⟨I.ok.mod,I.ok.kind,I.ok.glob,I.ok.blt,I.ok.above,I.ok.inj,I.ok.has,I.ok.cab,fun z=>(by cases z),I.ok.frames,I.ok.stk,I.ok.exf,I.ok.bs,I.ok.bsz,I.ok.noex,I.ok.exfs,I.ok.funs,I.ok.frf⟩,I.os,I.bare,I.base,I.loc,I.cell,I.free,I.freeC,fun q hq=>?_,I.hok,I.len⟩;have hq':q∈(p,ob)::(X.pn++pins):=hq;rcases List.mem_cons.mp hq' with rfl | z
  · exact ⟨hp,hn,hl,hf,hc⟩
  · exact I.pin q z
theorem pZ (ok:X.Ok) (I:ay (Xh X p ob) pins σ H s):ay X pins σ H s :=
  ⟨ok,I.os,I.bare,I.base,I.loc,I.cell,I.free,I.freeC,fun q hq=>I.pin q (List.mem_cons_of_mem _ hq),I.hok,I.len⟩
end
structure xG (X:Cx) (nl:Nat) (G:List Str):Prop where
  hu:X.A.units+64 < cLine
  nd:X.N.Nodup
  vis:∀ x∈X.N,zU X.env.scope x/\(x==("__debug__" : Str))=false/\(x==("__classdict__" : Str))=false
  loc:∀ x∈X.N.take nl,yr X.env.scope x/\(X.fn x=true\/X.env.scope.names.lookup x=some .local)
  gl:∀ x∈G,Gl X x/\(x==("__debug__" : Str))=false/\x≠("__name__" : Str)
theorem Tb.h {X:Cx} {nl:Nat} {G:List Str} (T:Tb X nl G) (p:Addr) (ob:Obj):xG (Xh X p ob) nl G:=⟨T.hu,T.nd,T.vis,T.loc,T.gl⟩
section
variable {M:Model} {A:Around} {E:Value->Shared->Prop} {s:Shared} {C C2 p:Addr} {bm bm2:List Value} {ob:Obj} {Q:Bool->Shared->Prop}
theorem sk (hC:mh s.heap C bm) (hC2:mh s.heap C2 bm2) (he:s.heap.get? p=some ob) (hc:ob.cls=.ref C) (h:Q ((Value.ref C::bm).contains (.ref C2)) s):wpAny M A (excMatches (.ref p) (.ref C2)) Q E s:=by
  obtain ⟨N,nm,qn,bs,hdct,sn,sub,ab,col,dd,k0,k1,k2,k3,k5,mN,hC,hN,hni,TL⟩:=hC;obtain ⟨N',nm',qn',bs',hdct',sn',sub',ab',col',dd',k0',k1',k2',k3',k5',mN',hC2,hN',hni',TL'⟩:=hC2;obtain ⟨hp,g,d,tk,os⟩:=s;have hb2:(Value.ref C2::bm2).contains (.type "BaseException")=true:=by rw [List.contains_cons,show bm2.contains (.type "BaseException")=true from TL'.hasType (by decide),Bool.or_true]
  have f:=tc_notTuple;unfold excMatches
  repeat (first | (with_reducible refine wpAny_loadPart_at he ?_;rw [hc]) | with_reducible refine wpAny_loadPart_at hC2 ?_ | (with_reducible refine wpAny_isSubtype_exc hC2 ?_;rw [hb2]) | with_reducible refine wpAny_isSubtype_exc hC ?_ | wp_step)
  cases hb:(Value.ref C::bm).contains (.ref C2) with
  | true=>rw [hb] at h;wp_walk;exact h
  | false=>rw [hb] at h;wp_walk;exact h
end
section
variable {K:PySem.W.Frag} {x t:Value} {Hh:Heap->Prop}
theorem v9 {c:Value} (ty:∀ (M:Model) (h:Heap),K.In h->Hh h->PySem.W.Looks M h (typeOf x) t) (e:PySem.W.kitOne K t c=some true):Answers (fun s=>K.In s.heap/\Hh s.heap) x c true:=by
  intro dep tk prog w A R s hs;obtain ⟨h0,g,d,tt,os⟩:=s;obtain ⟨⟨X,p⟩,hq⟩:=hs;have look:=ty (model prog w) h0 X p;unfold PySem.W.kitOne at e;unfold Builtin.«isinstance.nested»;refine wpAny_bind (look.at ?_);by_cases q:(t==c)=true
  · rw [if_pos q];exact wpAny_bind (wpAny_rule (wpAny_pure (hq tt)))
  · rw [if_neg q] at e;rw [if_neg q];obtain ⟨hty,his,hsub⟩:=PySem.W.kit_cls (M:=model prog w) X e;have both:PySem.W.Looks (model prog w) h0 (isInstance x c) true:=look.andThen hsub;refine wpAny_bind (hty.at ?_);rw [if_pos (by decide)]
    k_delta "plainIsInstance"
    refine wpAny_bind (wpAny_bind (his.at ?_));simp only [if_false,Bool.false_eq_true,Bool.not_true];refine wpAny_bind (both.at ?_)
    first | exact wpAny_pure (wpAny_pure (hq tt)) | (simp only [if_true];exact wpAny_pure (wpAny_pure (hq tt))) | (simp only [if_true];exact wpAny_pure (hq tt)) | exact wpAny_bind (wpAny_pure (wpAny_pure (hq tt)))
end
noncomputable def k8 (i:Nat) (p:Addr):Fe:=fun ρ=>match ρ[i]? with
  | some (.exc q)=>if q=p then .ok (.bool true) else .no
  | _=>.no
section
variable {X:Cx} {nl:Nat} {G:List Str} {p C C2:Addr} {ob:Obj} {n cx:Str} {pi pe pc pos:Pos}
theorem o6 (hp:(p,ob)∈X.pn) (hc:ob.cls=.ref C):cQ X (.builtin "isinstance") (fun xs H Q=>∃ cv,xs=[.ref p,cv]/\(∀ u,bz cv u->PySem.W.kitOne X.K (.ref C) u=some true)/\Q (.bl true) H):=by
  intro pins s σ H xs us Q I r h;obtain ⟨cv,rfl,hk,q⟩:=h;obtain ⟨u,v,rfl,rx,ry⟩:=kM r;cases rx;have pin:=(I.pin (p,ob) (List.mem_append_left _ hp)).1;refine call_isinstance (S:=fun _ R s=>(X.K.In s.heap/\s.heap.get? p=some ob)/\∀ tk,R (.ok (.ret (.bool true))) { s with toks:=tk })
    (fun prog w A R s hs=>isinstance_outer (v9 (K:=X.K) (x:=.ref p) (t:=.ref C) (Hh:=fun h=>h.get? p=some ob) (fun M h _ hp=>hc ▸ (PySem.W.Looks.ld hp).andThen .now) (hk _ ry) 0 _ prog w A R s hs) (fun z=>nomatch z)) ⟨⟨I.kIn,pin⟩,fun tk=>⟨.bl true,H,I.tok tk,rfl,q⟩⟩
theorem uM {i:Nat} {σ:St} {H:Hp} {Q:VK} (h:gS X gj (k8 i p) σ H Q):σ[i]?=some (some (.ref p))/\Q (.bl true) H:=by
  obtain ⟨ρ,sl,q⟩:=h;unfold k8 at q;split at q
  · rename_i q' e;split at q
    · rename_i e';subst e';obtain ⟨o,h1,h2⟩:=sl.at e;have h2':o=some (.ref q'):=h2;subst h2';exact ⟨h1,q _ H (aq.refl _) eV⟩
    · exact q.elim
  · exact q.elim
theorem uO (T:xG X nl G) (hp:(p,ob)∈X.pn) (hc:ob.cls=.ref C) (i:Nat) (hN:X.N[i]?=some n) (j:Nat) (hG:G[j]?=some ("isinstance" : Str)) (hm:X.mg "isinstance" = none) (j':Nat) (hG':G[j']?=some cx) (hm':X.mg cx=some (.ref C2)) (hk:PySem.W.kitOne X.K (.ref C) (.ref C2)=some true):Z.cD X (.Call (.Name "isinstance" pi) [.Name n pe,.Name cx pc] [] pos) (k8 i p):=⟨by
  have g:=T.gl _ (List.mem_of_getElem? hG);have g':=T.gl _ (List.mem_of_getElem? hG');have v:=T.vis n (List.mem_of_getElem? hN);have h1:PE X (.Name n pe) (wn i):=fA hN v.1 v.2.1 v.2.2;have h2:PE X (.Name cx pc) (tC (.ref C2)):=mP g'.1 hm' rfl g'.2.1;refine PE.imp (fE (o6 hp hc) g.1 hm PyProof.Rows.boot_isinstance (eW h1 (eW h2 lu)) g.2.2 g.2.1) fun σ H Q h=>?_
  obtain ⟨a,b⟩:=uM h;exact ⟨_,a,.ref C2,rfl,fun u r=>by cases r;exact hk,b⟩⟩
theorem rZ {T':String} (T:xG X nl G) (hp:(p,ob)∈X.pn) (hc:ob.cls=.ref C) (i:Nat) (hN:X.N[i]?=some n) (j:Nat) (hG:G[j]?=some ("isinstance" : Str)) (hm:X.mg "isinstance" = none) (j':Nat) (hG':G[j']?=some cx) (hm':X.mg cx=none) (hv:bootBuiltins cx=some (.type T')) (hk:PySem.W.kitOne X.K (.ref C) (.type T')=some true):Z.cD X (.Call (.Name "isinstance" pi) [.Name n pe,.Name cx pc] [] pos) (k8 i p):=⟨by
  have g:=T.gl _ (List.mem_of_getElem? hG);have g':=T.gl _ (List.mem_of_getElem? hG');have v:=T.vis n (List.mem_of_getElem? hN);have h1:PE X (.Name n pe) (wn i):=fA hN v.1 v.2.1 v.2.2;have h2:PE X (.Name cx pc) (tC (.ty T')):=qS g'.1 hm' hv rfl g'.2.2 g'.2.1;refine PE.imp (fE (o6 hp hc) g.1 hm PyProof.Rows.boot_isinstance (eW h1 (eW h2 lu)) g.2.2 g.2.1) fun σ H Q h=>?_
  obtain ⟨a,b⟩:=uM h;exact ⟨_,a,.ty T',rfl,fun u r=>by cases r;exact hk,b⟩⟩
end
noncomputable def AC (X:Cx) (C:Addr) (hs:List ExceptHandler) (F:Addr->aI->R PyData):Prop :=
  ∀ (pins:List (Addr×Obj)) (σ:St) (Hc H:Hp) (sc s:Shared) (p:Addr) (Fm:Hp) (ρ:aI) (D:mT),ay X pins σ Hc sc->jW X.prog X.w X.stack Hc sc C H (.ref p) s->gw Fm H σ ρ ->
    (match F p ρ with
      | .ok d=>∀ v H',aq Fm H'->Rp H' d v->D.rt v H'
      | _=>False)->wpAny (model X.prog X.w) X.A (handleBy (.ref p) X.env hs) (SP X pins D) X.xe s
section
variable {X:Cx} {nl:Nat} {G:List Str} {C C2:Addr} {n cx:Str} {np rp hp:Pos} {e:Expr} {dn:List ExceptHandler} {F:Addr->aI->R PyData} {f:Addr->Fe} {name:Option Str} {body:List Stmt}
theorem yi {pins:List (Addr×Obj)} {σ:St} {Hc H:Hp} {sc s:Shared} {p:Addr} {Q:Flow->Shared->Prop} {E:Value->Shared->Prop} (T:Tb X nl G) (j:Nat) (hG:G[j]?=some cx) (hm:X.mg cx=some (.ref C2)) (hq:PySem.W.excIn X.K C pR oh=true) (hq2:PySem.W.excIn X.K C2 pR oh=true)
    (I:ay X pins σ Hc sc) (fl:jW X.prog X.w X.stack Hc sc C H (.ref p) s)
    (h:if (Value.ref C::hJ X.K C).contains (.ref C2)=true then codeAny (model X.prog X.w) (X.A.mark (some (.ref p))) (.handlers (.ref p) [.ExceptHandler none name body hp] X.env) (fun r s₂=>match r with
          | .ok f=>(match name with
            | none=>Q f s₂
            | some n=>wpAny (model X.prog X.w) X.A (do bindName X.env n .none;unbindBehindTheSuite X.env n hp) (fun _ s₃=>Q f s₃) E s₂)
          | .error x=>cameBackBy (model X.prog X.w) X.A X.env E x s₂) s
      else wpAny (model X.prog X.w) X.A (handleBy (.ref p) X.env dn) Q E s) :
    wpAny (model X.prog X.w) X.A (handleBy (.ref p) X.env (.ExceptHandler (some (.Name cx np)) name body hp::dn)) Q E s:=by
  have I1:=fl.inv I;obtain ⟨ob,vs,ho,hcls,hd,hn,hfr⟩:=fl.obj;have g:=T.gl cx (List.mem_of_getElem? hG);have hl:X.A.frames=some X.stack:=I.ok.frames;refine wpAny_handleBy_cons (codeAny_handlers_test ?_) (by intro z;cases z);refine Calls.Name_function_global I1.ok.kind g.1 (Calls.loadGlobal_global (by rw [I1.ok.glob];exact I1.mod.glob.keeps I1.bk) hm ?_) g.2.1;refine sk ((lw I1.ok.mod.kin hq).keep I1.bk) ((lw I1.ok.mod.kin hq2).keep I1.bk) ho hcls ?_;cases hb:(Value.ref C::hJ X.K C).contains (.ref C2) with
  | true=>rw [hb] at h;exact h
  | false=>rw [hb] at h;exact h
end
theorem x5 {X:Cx} {pins:List (Addr×Obj)} {σ:St} {H:Hp} {s:Shared} {M:Model} {A:Around} {E:Value->Shared->Prop} {i:Nat} {x:Str} {v:V} {Q:Unit->Shared->Prop} (I:ay X pins σ H s) (hN:X.N.Nodup) (hi:X.N[i]?=some x) (hk:X.env.scope.names.lookup x=some .local)
    (hv:σ[i]?=some (some v)) (h:∀ s',ay X pins (σ.set i none) H s'->Q () s'):wpAny M A (unbindName X.env x) Q E s:=by
  obtain ⟨m,hn,hl⟩:=id I.loc;obtain ⟨u,ru,lk⟩:=hl i x v hi hv (.inl hk);have hm:m x=some u:=by
    rcases lk with ⟨_,z⟩ | ⟨k,_⟩
    · exact z
    · rcases k with k | k <;> (have k':X.env.scope.names.lookup x=_:=k;rw [hk] at k';cases k')
  have plain:(X.env.scope.kind==.class||(X.env.scope.kind==.module&&X.env.locals != X.env.globals))=false:=by rw [I.ok.kind];rfl
  refine wpAny_unbindName_local hk hn hm plain fun h' w' hn' sb=>h _ ?_
  obtain ⟨oL,_,_,hoL,_⟩:=id hn;have young:∀ b o,X.s₀.heap.get? b=some o->b≠X.env.locals:=fun b o q=>Nat.ne_of_lt (Nat.lt_of_lt_of_le (Heap.lt_size q) I.ok.above)
  refine ⟨I.ok,I.os,I.bare,⟨fun b o q n hb hx=>(sb.2 b (young b o q)).trans (I.base.keep b o q n hb hx),fun b o q n hb hx=>?_,I.base.free,fun b o q hx=>?_,I.base.tups,I.base.frzs,I.base.tbls⟩,⟨_,hn',fun j y v' q1 q2 q3=>?_⟩,fun y c q=>?_,I.free,I.freeC,fun p hp=>?_,fun b ob q=>?_,by simpa using I.len⟩
  · obtain ⟨sl,q1⟩:=I.base.slot b o q n hb hx;exact ⟨sl,(sb.2 b (young b o q)).trans q1⟩
  · obtain ⟨o',q1⟩:=I.base.there b o q hx;exact ⟨o',(sb.2 b (young b o q)).trans q1⟩
  · by_cases hj:i=j
    · subst hj;rw [List.getElem?_set,if_pos rfl] at q2;split at q2 <;> cases q2
    · rw [List.getElem?_set,if_neg hj] at q2;obtain ⟨u',r',z⟩:=hl j y v' q1 q2 q3;refine ⟨u',r',?_⟩;rcases z with ⟨k,z⟩ | ⟨k,c,z1,z2⟩
      · refine .inl ⟨k,?_⟩;have ne:y≠x:=fun t=>hj (kY hN hi (t ▸ q1))
        simp [ne,z]
      · exact .inr ⟨k,c,z1,z2.sameBut sb (I.cne y c z1)⟩
  · obtain ⟨w2,z⟩:=I.cell y c q;exact ⟨w2,z.sameBut sb (I.cne y c q)⟩
  · obtain ⟨q,n,ne,nf,d⟩:=I.pin p hp;exact ⟨(sb.2 p.1 ne).trans q,n,ne,nf,d⟩
  · refine (I.hok b ob q).stay (fun c w2 hc z=>(sb.2 c ?_).trans z) (fun _ z=>z) fun _ _ z=>z
    rintro rfl;rcases hc with rfl | hc
    · rw [I.free] at q;cases q
    · rw [I.free] at hc;cases hc
section
variable {X:Cx} {nl:Nat} {G:List Str} {C C2:Addr} {n cx:Str} {np rp hp:Pos} {e:Expr} {dn:List ExceptHandler} {f:Addr->Fe}
theorem sW {pins:List (Addr×Obj)} {σ:St} {Hc H:Hp} {sc s:Shared} {p:Addr} (I:ay X pins σ Hc sc) (fl:jW X.prog X.w X.stack Hc sc C H (.ref p) s):∃ ob,s.heap.get? p=some ob/\ob.cls=.ref C/\ay (Xh X p ob) pins σ H s:=by
  have I1:=fl.inv I;obtain ⟨ob,vs,ho,hcls,hd,hn,hfr⟩:=fl.obj;refine ⟨ob,ho,hcls,tO I1 ho hn (fun z=>?_) (fun z=>?_) (fun v z=>by rw [hd] at z;cases z)⟩
  · obtain ⟨m,⟨o,es,ep,q1,q2,_⟩,_⟩:=I1.loc;rw [<- z,ho] at q1;cases q1;rw [hd] at q2;cases q2
  · apply hfr;rcases I.ok.stk with e | ⟨e,_⟩
    · rw [e];exact z
    · rw [e];obtain ⟨env,he,hf⟩:=List.mem_filterMap.mp (show p∈X.outer.filterMap (·.frame) from z);exact List.mem_filterMap.mpr ⟨env,List.mem_cons_of_mem _ he,hf⟩
end
open Classical in
noncomputable def se (F:Addr->R PyData):R PyData:=if h:∃ r,∀ p,F p=r then h.choose else .no
theorem pW (r:R PyData):se (fun _=>r)=r:=by
  have h:∃ r',∀ p:Addr,(fun _=>r) p=r':=⟨r,fun _=>rfl⟩
  unfold se;rw [dif_pos h];exact (h.choose_spec 0).symm
theorem wB {F:Addr->R PyData} {d:PyData} (h:se F=.ok d) (p:Addr):F p=.ok d:=by
  unfold se at h;split at h
  · rename_i q;rw [q.choose_spec p];exact h
  · cases h
noncomputable abbrev Hs:=List (Str×(Addr->aI->R PyData))
noncomputable def vq (hs:Hs) (ρ:aI) (k:PyData->oP):R PyData->R oP
  | .ok d=>.ok (k d)
  | .no=>.no
  | .ex c=>match hs.lookup c with
    | some h=>ma (se (fun p=>h p ρ))>>=fun d=>.ok (.rt d)
    | none=>.no
inductive lN (X:Cx) (src:List ExceptHandler):Hs->Prop
  | nil:lN X src []
  | cons {c:Str} {C:Addr} {h:Addr->aI->R PyData} {hs:Hs} (hm:X.mg c=some (.ref C)) (he:AC X C src h) (r:lN X src hs):lN X src ((c,h)::hs)
theorem lN.at {X:Cx} {src:List ExceptHandler} {c:Str} {h:Addr->aI->R PyData}:∀ {hs:Hs},lN X src hs->hs.lookup c=some h->∃ C,X.mg c=some (.ref C)/\AC X C src h
  | _,.nil,e=>by cases e
  | _,.cons (c:=c') hm he r,e=>by
    rw [List.lookup_cons] at e;split at e
    · rename_i q;have:c=c':=by simpa using q
      subst this;cases e;exact ⟨_,hm,he⟩
    · exact lN.at r e
section
variable {X:Cx} {k n:Nat} {f:Addr} {fd:FuncData} {ps:List Str} {F:List PyData->R PyData} {x:Str} {p pos sp tp:Pos} {e:Expr} {es:List Expr} {fs:aI->R (List PyData)} {nl:Nat} {G:List Str}
theorem u3 {pins:List (Addr×Obj)} {σ:St} {H:Hp} {s:Shared} {ρ:aI} {ds:List PyData} {Qv:Value->Shared->Prop} {Ev:Value->Shared->Prop}
    (C:ba X.prog X.w X.K X.mg X.base (cY X.prog X.w X.mg) k f fd ps (dR F n)) (hr:eu k X.A) (T:Tb X nl G) (j:Nat) (hG:G[j]?=some x) (hm:X.mg x=some (.ref f)) (hk:PySem.W.keepIn X.K (.ref f)=true) (hb:bF X.K fd ps []) (ha:pS X.nox (e::es) fs)
    (hfs:∀ ρ ds,fs ρ=.ok ds->ds.length=n) (he:(e::es).all az=true) (I:ay X pins σ H s) (sl:Sl H σ ρ) (efs:fs ρ=.ok ds) (hno:F ds≠.no)
    (hok:∀ d,F ds=.ok d->∀ v u H' s',ay X pins σ H' s'->aq H H'->Rp H' d v->bz v u->Qv u s')
    (hex:∀ c,F ds=.ex c->∀ C Hc sc H1 e s',X.mg c=some (.ref C)->ay X pins σ Hc sc->aq H Hc->jW X.prog X.w X.stack Hc sc C H1 e s'->Ev e s') :
    wpAny (model X.prog X.w) X.A (eval (.Call (.Name x p) (e::es) [] pos) X.env) Qv Ev s:=by
  rw [List.all_cons,Bool.and_eq_true] at he;have g:=T.gl x (List.mem_of_getElem? hG);refine wpAny_Call_Name_kw (jl I g.1 hm ?_ g.2.1);have hw:=ha pos pins s σ H (fun vs H'=>aq H H'/\RA Rp H' ds vs) (I.wish _) ⟨ρ,sl,by rw [efs];exact fun vs H' s' r=>⟨s',r⟩⟩;refine PySem.W.callWith_K (h₀:=X.base) I.ok.mod.kin hk (wpAny_mono hw (fun us s1 ⟨vs,H1,I1,r,s1',ra⟩=>⟨I1.unwish.kIn,?_⟩) fun _ _ z=>False.elim z) (aO he.1) (je he.2);have I1:=I1.unwish;have ra':=kz.mp ra;have hsp:dR F n vs H1 (fun v H'=>aq H1 H'/\∃ d,F ds=.ok d/\Rp H' d v) (fun v _ H'=>∃ c,F ds=.ex c/\v=.str c 0):=by
    refine ⟨ds,ra',hfs ρ ds efs,?_⟩;cases ef:F ds with
    | ok d=>exact fun v H' s' r=>⟨s',d,rfl,r⟩
    | ex c=>exact fun H' s'=>⟨c,rfl,rfl⟩
    | no=>exact absurd ef hno
  have hl:(us++[]).length=ps.length:=by rw [List.append_nil,<- r.length];exact C.len _ _ _ _ hsp
  refine wpAny_call (codeAny_mono (C.run X.A X.stack s1 H1 ⟨us,[]⟩ (us++[]) vs _ _ hr I1.env0 (hb s1 us I1.kIn hl) (by rw [List.append_nil];exact r) hsp) fun r' s' hq=>?_);cases r' with
  | error e' =>
    obtain ⟨c',C',H',hm',fl,c,ef,ev⟩:=hq;have:c'=c:=by injection ev
    subst this;exact hex c' ef C' H1 s1 H' e' s' hm' I1 s1' fl
  | ok fl =>
    cases fl with
    | ret u =>
      obtain ⟨v,H',I',rv,s2,d,ef,rp⟩:=I1.after hq;exact hok d ef v u H' s' I' (s1'.trans s2) rp rv
    | next=>exact False.elim hq
    | brk=>exact False.elim hq
    | cont=>exact False.elim hq
theorem qc {pins:List (Addr×Obj)} {σ:St} {H Fm:Hp} {ρ:aI} {D:mT} {h0:ExceptHandler} {src:List ExceptHandler} {hs:Hs} {kk:PyData->oP} {c:Str} {r:R PyData} (hstk:X.stack=X.env::X.outer/\X.env.frame=some X.env.locals) (hH:lN X (h0::src) hs) (ec:r=.ex c) (sl:gw Fm H σ ρ) (q:yP X Fm (vq hs ρ kk r) D)
    {C:Addr} {Hc H1:Hp} {sc s':Shared} {ev:Value} (hm:X.mg c=some (.ref C)) (I:ay X pins σ Hc sc) (sH:aq H Hc) (fl:jW X.prog X.w X.stack Hc sc C H1 ev s') :
    wpAny (model X.prog X.w) X.A (noteFrame ev X.env) (fun _ s₂=>wpAny (model X.prog X.w) X.A (setFlight ev none) (fun _ s₃=>wpAny (model X.prog X.w) X.A (handleBy ev X.env (h0::src)) (SP X pins D) X.xe s₃) X.xe s₂) X.xe s':=by
  subst ec;simp only [vq] at q;cases el:hs.lookup c with
  | none=>rw [el] at q;exact q.elim
  | some h =>
    rw [el] at q;dsimp only at q;obtain ⟨C',hm',hE⟩:=hH.at el;rw [hm] at hm';cases hm';have fl':=fl;rw [hstk.1] at fl';refine fl'.look (by rw [I.ok.frames,hstk.1]) hstk.2 fun p h' ep fl2=>?_
    subst ep;rw [<- hstk.1] at fl2;have sl1:gw Fm H1 σ ρ:=sl.mono (sH.trans fl.same);refine hE pins σ Hc H1 sc _ p Fm ρ D I fl2 sl1 ?_;cases ep:se (fun p=>h p ρ) with
    | ex c=>rw [ep] at q;exact q.elim
    | no=>rw [ep] at q;exact q.elim
    | ok d =>
      rw [ep] at q;rw [wB ep p];exact q
variable {h0:ExceptHandler} {src:List ExceptHandler} {hs:Hs}
end
noncomputable def iq:List PyData->Option (List Str)
  | []=>some []
  | .str y::ds=>(iq ds).map fun r=>y::r
  | _=>none
theorem lE:∀ {ds:List PyData} {ys:List Str},iq ds=some ys->ds=ys.map PyData.str
  | [],ys,h=>by cases h;rfl
  | d::ds,ys,h=>by
    cases d with
    | str y =>
      simp only [iq] at h;cases e:iq ds with
      | none=>rw [e] at h;cases h
      | some r =>
        rw [e] at h;cases h;rw [lE e];rfl
    | _=>cases h
theorem fL:∀ ys:List Str,iq (ys.map PyData.str)=some ys
  | []=>rfl
  | y::ys=>by simp only [List.map_cons,iq,fL ys,Option.map_some]
noncomputable def eJ (sep:Str):PyData->R PyData
  | .list ds=>match iq ds with
    | some ys=>if (ys.map (·.length)).sum+ys.length*sep.length<=16777216 then .ok (.str (Txt.join sep ys)) else .no
    | none=>.no
  | _=>.no
theorem pz:∀ {H:Hp} {ys:List Str} {vs:List V},br H (ys.map PyData.str) vs->vs=ys.map V.str
  | H,[],vs,r=>by rw [List.map_nil] at r;rw [r.nil_inv];rfl
  | H,y::ys,vs,r=>by
    rw [List.map_cons] at r;obtain ⟨v,r',rfl,p,t⟩:=r.cons_inv;have:v=.str y:=by simpa only [Rp] using p
    rw [this,pz t];rfl
theorem n6:∀ {ys:List Str} {us:List Value},bp (ys.map V.str) us->StrsAre us ys
  | [],us,r=>by cases r;exact .nil
  | y::ys,us,r=>by
    cases r with
    | cons r1 r2 =>
      obtain ⟨t,rfl⟩:=r1;exact .cons y t (n6 r2)
section
variable {X:Cx} {a:Expr} {fa:Fe} {sep:Str} {i:Nat} {pc pa pos:Pos}
theorem vG:AK X "str.join" (fun x vs H Q=>∃ sep b ys,x=.str sep/\vs=[.ref b]/\kW X.K H b (ys.map V.str)/\(ys.map (·.length)).sum+ys.length*sep.length<=16777216/\Q (.str (Txt.join sep ys)) H):=by
  intro pins s σ H x vs v us Q I rx rv h;obtain ⟨sep,b,ys,rfl,rfl,hq,hz,q⟩:=h;obtain ⟨t,rfl⟩:=rx;obtain ⟨u,rfl,ru⟩:=fM rv;cases ru;obtain ⟨its,r,p,_⟩:=I.list hq;exact join_list p.isList (by simpa using n6 r) hz fun t' k=>⟨.str _,H,I.tok k,⟨t',rfl⟩,q⟩
theorem eo (ha:Z.c5 X a fa) (hst:az a=true:=by rfl) (hline:(pa.endLine==pos.line)=true:=by rfl):Z.cD X (.Call (.Attribute (.Constant (.str sep) i pc) "join" pa) [a] [] pos) (e1 (eJ sep) fa):=⟨have ha:=ha.un;by
  have sc:starEach [a] X.env=(false,eval a X.env)::starEach [] X.env:=aO hst;refine PE.imp (rh PySem.F.plainAttrs_str PySem.F.slot_str_join PySem.F.type_str_join vG uB (eZ ha jD hst) rfl (by rw [sc];rfl) hline sc rfl) fun σ H Q h=>?_
  refine ⟨rfl,?_⟩;rw [<- nP] at h;refine (jz (I:=fS) (f:=ai fa aB) (k:=fun _=>one (eJ sep)) (dP (X:=X) eE Q) h).post fun vs H1 ⟨_,ds,_,_,p1,q1⟩=>?_
  unfold one at q1;split at q1
  · rename_i d;simp only [RA] at p1;obtain ⟨v,r',rfl,p,rfl⟩:=p1;unfold eJ at q1;split at q1
    · rename_i xs;split at q1
      · rename_i ys es;split at q1
        · rename_i hz;obtain ⟨b,ws,rfl,hq,r⟩:=dU (K:=X.K) p;rw [lE es] at r;rw [pz r] at hq;exact ⟨sep,b,ys,rfl,rfl,hq,hz,q1 _ H1 (aq.refl _) mS⟩
        · exact q1.elim
      · exact q1.elim
    · exact q1.elim
  · exact q1.elim⟩
end
noncomputable def fO (i:Nat) (f:Fe):Fs:=fun ρ=>ma (f ρ)>>=fun d=>match ρ[i]? with
  | some (.own (.list ds))=>match d with
    | .list es=>if ds.length+es.length<=sizeLine then .ok (.nx (ρ.set i (.own (.list (ds++es))))) else .no
    | _=>.no
  | _=>.no
section
variable {X:Cx} {nl:Nat} {G:List Str} {x:Str} {e:Expr} {f:Fe} {q1 q2 q3 q4:Pos}
theorem vV:Bf X "list.extend" (fun x vs H Q=>∃ l b xs zs,x=.ref l/\vs=[.ref b]/\H l=some (.lst xs)/\Rd H b (.lst zs)/\xs.length+zs.length<=sizeLine/\Q .non (dk H l (.lst (xs++zs)))):=by
  intro pins s σ H x vs v us Q I rx rv h;obtain ⟨l,b,xs,zs,rfl,rfl,hH,hB,hz,q⟩:=h;cases rx;obtain ⟨u,rfl,ru⟩:=fM rv;cases ru;obtain ⟨z,its,n,r,hl,e1⟩:=I.lstM hH;obtain ⟨z2,its2,n2,r2,e2⟩:=hB.ok I.hok;have hl2:=r2.length;have fits:its.toArray.size+its2.toArray.size<=sizeLine:=by simp only [List.size_toArray];omega
  have door:¬ (!its.toArray.isEmpty&&Builtin.List.listTooLong (its.toArray.size+its2.toArray.size))=true:=by
    rw [uw fits,Bool.and_false];exact Bool.false_ne_true
  refine call_meets F.slot_list_extend ⟨_,e1,rfl⟩ F.entry_list_extend (F.args_list_extend_2 _ _) (AutoSeq1.list_extend_list_list_0 l its.toArray n b its2.toArray n2 door (by simp only [List.size_toArray];omega) (by omega)) ⟨e1,e2,?_⟩;refine ⟨.non,_,I.lset (its':=its++its2) hH e1 (by simp) (r.append r2) ?_,rfl,q⟩;rw [List.length_append];exact hz
theorem j4 (T:Tb X nl G) (n:Nat) (hN:X.N[n]?=some x) (he:Z.cD X e f) (hst:az e=true:=by rfl) (hline:(q2.endLine==q3.line)=true:=by rfl) (hs:swapsWith (.Call (.Attribute (.Name x q1) "extend" q2) [e] [] q3) none q4.line X.env=pure false:=by rfl) (hbase:attributeBase (.Name x q1) "extend" X.env (eval (.Name x q1) X.env)=eval (.Name x q1) X.env:=by rfl):Z.jY X (.Expr (.Call (.Attribute (.Name x q1) "extend" q2) [e] [] q3) q4) (fO n f):=⟨have he:=he.un;fun Fm=>by
  have hm:=T.vis x (List.mem_of_getElem? hN);have sc:starEach [e] X.env=(false,eval e X.env)::starEach [] X.env:=aO hst;refine PS.imp (rf (rh PySem.F.plainAttrs_list PySem.F.slot_list_extend PySem.F.type_list_extend vV (fA hN hm.1 hm.2.1 hm.2.2) (jx he kU hst) hbase (by rw [sc];rfl) hline sc rfl) hs) fun D σ H h=>?_
  obtain ⟨ρ,sl,q⟩:=h;unfold fO at q;cases ef:f ρ with
  | ex c=>rw [ef] at q;exact q.elim
  | no=>rw [ef] at q;exact q.elim
  | ok d =>
    rw [ef] at q;simp only [ma,R.ok_bind] at q;cases er:ρ[n]? with
    | none=>rw [er] at q;exact q.elim
    | some c =>
      rw [er] at q;cases c with
      | non=>exact q.elim
      | exc p=>exact q.elim
      | val d'=>exact q.elim
      | own d' =>
        cases d' with
        | list ds =>
          cases d with
          | list es =>
            dsimp only at q;by_cases hz:ds.length+es.length<=sizeLine
            · rw [if_pos hz] at q;obtain ⟨o,h2,w',rfl,p2⟩:=sl.sl.at er;simp only [gQ] at p2;obtain ⟨a',vs,rfl,ha,r⟩:=p2;refine ⟨.ref a',h2,.inl ⟨rfl,_,kW.of ha⟩,ρ,sl.sl,?_⟩;unfold ai aB;rw [ef];intro us H1 s1 ra;simp only [RA] at ra;obtain ⟨v,r',rfl,p1,rfl⟩:=ra;have ha1:=s1 _ _ ha;simp only [Rp] at p1;obtain ⟨b,o2,ws,rfl,hb,rb⟩:=p1;refine ⟨a',b,vs,ws,rfl,rfl,ha1,.inr ⟨o2,hb⟩,by rw [r.length,rb.length];exact hz,q _ _ ((sl.mono s1).change er h2 ha1 (.inl ⟨_,rfl⟩) ?_)⟩;simp only [gQ];exact ⟨a',_,rfl,bJ,br.kp (gm ha1 (.inl ⟨_,rfl⟩)) _ _ (br.append (r.mono s1) rb)⟩
            · rw [if_neg hz] at q;exact q.elim
          | _=>exact q.elim
        | _=>exact q.elim⟩
end
section
variable {X:Cx} {a b c:Expr} {fa fb fc:Fe} {pos p2:Pos} {nl:Nat} {G:List Str} {x:Str} {p:Pos} {tg:Expr} {fs:aI->R (List PyData)}
theorem pL (T:Tb X nl G) (j:Nat) (hG:G[j]?=some ("range" : Str)) (hm:X.mg "range" = none) (ha:Z.pS X [a,b] fs) (hl:∀ ρ ds,fs ρ=.ok ds->ds.length=2) (hs:az a=true:=by rfl) (hs2:az b=true:=by rfl):Z.re X tg (.Call (.Name "range" p) [a,b] [] pos) (gI fs):=⟨have ha:=ha.un;PI.imp (rY (T.gl _ (List.mem_of_getElem? hG)).1 hm ha (by rw [aO hs,aO hs2];rfl) (aO hs2)) fun σ H Rk ⟨ρ,sl,q⟩=>by
    refine ⟨ρ,sl,?_⟩;dsimp only [gI] at q;cases e:fs ρ with
    | ex c=>rw [e] at q;exact q
    | no=>rw [e] at q;exact q
    | ok ds =>
      rw [e] at q;have hlen:=hl ρ ds e;intro vs H1 s1 r1
      match ds,hlen with
      | [d,d'],_ =>
        simp only [RA] at r1;obtain ⟨v,r',rfl,p1,v',r'',rfl,p2,rfl⟩:=r1;cases d with
        | int i =>
          cases d' with
          | int j =>
            have ev:v=.int i:=by simpa only [Rp] using p1
            have ev':v'=.int j:=by simpa only [Rp] using p2
            subst ev;subst ev';by_cases hz:-(2 ^ 62)<=i/\i < 2 ^ 62/\-(2 ^ 62)<=j/\j < 2 ^ 62
            · have e2:ki [.int i,.int j]=.ok (bG i (j-i).toNat):=if_pos hz;rw [R.ok_bind,e2] at q;exact ⟨i,j,rfl,hz,q _ H1 s1 ⟨_,mx,fun _ _ _=>True.intro⟩⟩
            · have e2:ki [.int i,.int j]=.no:=if_neg hz;rw [R.ok_bind,e2] at q;exact q.elim
          | _=>exact q.elim
        | _=>exact q.elim⟩
end
noncomputable def l7:PyData->PyData->R PyData
  | .dict kvs,k=>match eT k with
    | some _=>.ok ((dL kvs k).getD .none)
    | none=>.no
  | _,_=>.no
noncomputable def tm:PyData->R Unit
  | .dict kvs=>if gN kvs=true then .no else .ok ()
  | _=>.no
noncomputable def ou (fo fe:Fe):Fe:=fun ρ=>fo ρ>>=fun x=>tm x>>=fun _=>fe ρ>>=fun y=>l7 x y
section
variable {X:Cx} {o e f:Expr} {apos cpos:Pos} {fo fe ff:Fe}
theorem vd {H:Hp} {kvs:List (PyData×PyData)} {k d:PyData} {a:Addr} {y z:V} {κ:bZ} (hi:gN kvs=false) (h:fS H (.dict kvs) (.ref a)) (hy:fS H k y) (e:eT k=some κ) (hz:Rp H d z):∃ o,kO H a y o/\Rp H ((dL kvs k).getD d) (o.getD z):=by
  obtain ⟨a',ks,ea,h,r⟩:=ig hi h;cases ea;obtain ⟨o,g,e1,e2⟩:=rn (κ:=κ) h r;rw [<- rD hy e] at g;rw [<- oH e] at e1 e2;refine ⟨o,g,?_⟩;cases el:dL kvs k with
  | none =>
    rw [el] at e1;cases o with
    | none=>exact hz
    | some v=>cases e1
  | some d' =>
    obtain ⟨v,rfl,p⟩:=e2 d' el;exact p
theorem rR (hu:X.A.units+64 < cLine) (ho:Z.c5 X o fo) (he:Z.cD X e fe) (hb:attributeBase o "get" X.env (eval o X.env)=eval o X.env:=by rfl) (hst:az e=true:=by rfl) (hline:(apos.endLine==cpos.line)=true:=by rfl):Z.cD X (.Call (.Attribute o "get" apos) [e] [] cpos) (ou fo fe):=⟨have ho:=ho.un;have he:=he.un;by
  have sc:starEach [e] X.env=(false,eval e X.env)::starEach [] X.env:=aO hst;refine PE.imp (uK (by omega) ho he ⟨hb,by rw [sc];rfl,hline,by rw [sc];rfl⟩) fun σ H Q h=>?_
  refine (dl (P:=o5) (f:=fo) (k:=fun ρ x=>tm x>>=fun _=>fe ρ>>=fun y=>l7 x y) (dP (X:=X) eE Q) h).post fun v H1 ⟨ρ1,d1,sl1,_,p1,q1⟩=>?_
  cases d1 with
  | dict kvs =>
    by_cases hi:gN kvs=true
    · simp only [tm,if_pos hi] at q1;exact q1.elim
    simp only [tm,if_neg hi,R.ok_bind] at q1;have hi:=Bool.not_eq_true _ ▸ hi;obtain ⟨a,ks,rfl,h1,r1⟩:=ig hi p1;refine ⟨a,rfl,.inl ⟨ks,h1⟩,?_⟩;refine (dl (P:=gj) (f:=fe) (k:=fun _ y=>l7 (.dict kvs) y) (dP (X:=X) eE Q) ⟨ρ1,sl1,q1⟩).post fun u H2 ⟨_,d2,_,s2,p2,q2⟩=>?_
    unfold l7 at q2;dsimp only at q2;cases ek:eT d2 with
    | none=>rw [ek] at q2;exact q2.elim
    | some κ =>
      rw [ek] at q2;obtain ⟨o',g,p3⟩:=vd hi (fS.mono p1 s2) (.inl p2) ek (d:=.none) (z:=.non) wZ;exact ⟨o',g,q2 _ H2 (aq.refl _) p3⟩
  | _=>exact q1.elim⟩
end
section
variable {X:Cx} {k n:Nat} {f:Addr} {fd:FuncData} {ps:List Str} {F:List PyData->R PyData} {x:Str} {p pos sp tp:Pos} {e:Expr} {es:List Expr} {fs:aI->R (List PyData)} {nl:Nat} {G:List Str} {h0:ExceptHandler} {src:List ExceptHandler} {hs:Hs}
noncomputable def oV (i:Nat) (F:List PyData->R PyData) (fs:aI->R (List PyData)) (hs:Hs):Fs:=fun ρ=>ma (fs ρ)>>=fun ds=>vq hs ρ (fun d=>.nx (ρ.set i (.val d))) (F ds)
theorem sh {y:Str} {py:Pos} (C:ba X.prog X.w X.K X.mg X.base (cY X.prog X.w X.mg) k f fd ps (dR F n)) (hr:eu k X.A) (T:Tb X nl G) (hstk:X.stack=X.env::X.outer/\X.env.frame=some X.env.locals) (i:Nat) (hN:(X.N.take nl)[i]?=some y) (j:Nat) (hG:G[j]?=some x) (hm:X.mg x=some (.ref f)) (hk:PySem.W.keepIn X.K (.ref f)=true) (hb:bF X.K fd ps []) (ha:Z.pS X.nox (e::es) fs) (hfs:∀ ρ ds,fs ρ=.ok ds->ds.length=n) (hH:lN X (h0::src) hs) (he:(e::es).all az=true:=by rfl) (hsw:swapsWith (.Call (.Name x p) (e::es) [] pos) (some (.Name y py)) sp.line X.env=pure false:=by rfl):Z.jY X (.Try [.Assign [.Name y py] (.Call (.Name x p) (e::es) [] pos) sp] (h0::src) [] [] tp) (oV i F fs hs):=⟨have ha:=ha.un;fun Fm=>by
  intro pins s σ H D I ⟨ρ,sl,q⟩;obtain ⟨n1,n2,n3⟩:=T.nm hN;unfold oV at q;cases efs:fs ρ with
  | ex c=>rw [efs] at q;exact q.elim
  | no=>rw [efs] at q;exact q.elim
  | ok ds =>
    rw [efs] at q;simp only [ma,R.ok_bind] at q;refine wpAny_Try_except (wpAny_execs_cons (wpAny_Assign_Name (u3 C hr T j hG hm hk hb ha hfs he I sl.sl efs (fun z=>by rw [z] at q;exact q) (fun d ed v u H' s' I' sH rp rv=>?_) fun c ec C' Hc sc H1 ev s' hm' I' sH fl=>qc hstk hH ec sl q hm' I' sH fl) hsw));rw [ed] at q;refine ge I' T.nd n1 n2 rv (fun s2 I2=>?_) n3;exact wpAny_execs_nil (wpAny_execs_nil ⟨_,H',I2,q _ H' ((sl.mono sH).set i (fun e z=>by cases z) ⟨v,rfl,rp⟩)⟩)⟩
variable {k' n':Nat} {f':Addr} {fd':FuncData} {ps':List Str} {F':List PyData->R PyData} {x':Str} {p' pos' sp' ip:Pos} {e':Expr} {es':List Expr} {fs':aI->R (List PyData)} {c:Expr} {t:aI->R Bool}
end
section
variable {X:Cx} {a b:Expr} {fa fb:Fe} {pos p:Pos} {nl:Nat} {G:List Str}
theorem p0 (T:xG X nl G) (j:Nat) (hG:G[j]?=some ("int" : Str)) (hm:X.mg "int" = none) (ha:Z.c5 X a fa) (he:az a=true:=by rfl):Z.cD X (.Call (.Name "int" p) [a] [] pos) (e1 mM fa):=⟨have ha:=ha.un;by
  have q:=T.gl ("int" : Str) (List.mem_of_getElem? hG);have key:PE X (.Call (.Name "int" p) [a] [] pos) (gS X gj (fun ρ=>ai fa aB ρ>>=one mM)) :=
    PE.imp (l6 l9 q.1 hm PyProof.Rows.boot_int (eZ ha jD he) q.2.2 q.2.1 (aO he)) (pQ eE (qI fun H x d Q hx q=>by
      cases d with
      | int i=>exact .inl ⟨i,by rw [aS hx],q _ H (aq.refl _) cV⟩
      | bool k=>exact .inr ⟨k,by rw [jg hx],q _ H (aq.refl _) cV⟩
      | _=>exact q.elim))
  rw [nP] at key;exact key⟩
end
noncomputable abbrev iJ:=List PyData->R PyData
structure i5 (P:Program) (w:World) (K:PySem.W.Frag) (mg:Str->Option Value) (base:Heap) (k:Nat) (x:Str) (ps:List Str) (F:iJ) (f:Addr) (fd:FuncData):Prop where
  ok:ba P w K mg base (cY P w mg) k f fd ps (dR F ps.length)
  m:mg x=some (.ref f)
  kp:PySem.W.keepIn K (.ref f)=true
  b:bF K fd ps []
theorem ax {X:Cx} {k:Nat} {f:Addr} {fd:FuncData} {ps:List Str} {F:iJ} {x:Str} {p pos:Pos} {e:Expr} {es:List Expr} {fs:aI->R (List PyData)} {nl:Nat} {G:List Str} (C:i5 X.prog X.w X.K X.mg X.base k x ps F f fd) (hr:eu k X.A) (T:Tb X nl G) (j:Nat) (hG:G[j]?=some x) (ha:Z.pS X (e::es) fs) (hlen:(e::es).length=ps.length) (hfs:∀ ρ ds,fs ρ=.ok ds->ds.length=ps.length) (he:(e::es).all az=true:=by rfl):Z.cD X (.Call (.Name x p) (e::es) [] pos) (aJ F fs):=⟨have ha:=ha.un;ww C.ok hr T j hG C.m C.kp C.b ha hlen hfs he⟩
structure cU (K:PySem.W.Frag) (x:Str) (st:Stmt) (f:Addr) (fd:FuncData):Prop where
  ns:PySem.W.nsIn K mainGlobals x=some (some (.ref f))
  fn:gP K x x st f fd
theorem aV {K:PySem.W.Frag} {x:Str} {st:Stmt} {f:Addr} {oc:Value} {od an:Option Addr} {osl:Array (Option Value)} {kV doc pm cdv ct:Value} (a:PySem.W.nsIn K mainGlobals x=some (some (.ref f))) (l:K.lookup f=some ⟨oc,od,.func (PySem.W.fnOf x x (dC st) (cI st) (ak st) .none kV doc pm an cdv ct),osl⟩) (c:PySem.W.codeIn K cdv x=true) (k:PySem.W.keepIn K (.ref f)=true) :
    cU K x st f (PySem.W.fnOf x x (dC st) (cI st) (ak st) .none kV doc pm an cdv ct):=⟨a,uc l c k⟩
end D2
namespace D2
open PySem PySem.Spec PySem.Calls PySem.W PyProof.Rows L2 Builtin Builtin.ObjectAttr Builtin.Getset_descriptor
structure lP (K:PySem.W.Frag) (C:Addr):Prop where
  ga:PySem.W.findIn K (.ref C) "__getattribute__" = some (some (.builtin "BaseException.__getattribute__"))
  gt:PySem.W.findIn K (.ref C) "__getattr__" = some none
  cl:PySem.W.findIn K (.ref C) "__class__" = some (some (.builtin "object.__class__"))
  ob:PySem.W.mroIn K C (.type "object")=some true
  bx:PySem.W.mroIn K C (.type "BaseException")=some true
  gs:PySem.W.specialIn K (.builtin "object.__class__") "__get__" = some (some (.builtin "getset_descriptor.__get__"))
  tk:PySem.W.takesIn K (.builtin "object.__class__")=some true
section
variable {prog:Program} {w:World} {A:Around} {E:Value->Shared->Prop} {s:Shared} {K:PySem.W.Frag} {x C:Addr} {ox:Obj}
theorem ub {M:Model} {h:Heap} (Z:lP K C) (X:K.In h):PySem.W.Looks M h (find (.ref x) (.ref C) "__class__") (.bind (.builtin "getset_descriptor.__get__") (.builtin "object.__class__")):=by
  refine (PySem.W.looks_findIn X Z.cl).andThen ((PySem.W.looks_specialIn X Z.gs).andThen ?_);exact (show PySem.W.Looks M h (dataDescriptor? (some (.builtin "object.__class__")) (some (.builtin "getset_descriptor.__get__"))) (some (.builtin "getset_descriptor.__get__",.builtin "object.__class__")) from (PySem.W.looks_takesIn X Z.tk).andThen .now).andThen (PySem.W.Looks.tag .now)
theorem wv {tp:Value} {R:Result->Shared->Prop} (Z:lP K C) (X:K.In s.heap) (L:PySem.W.Looks (model prog w) s.heap (typeOf (.ref x)) (.ref C)) (h:R (.ok (.ret (.ref C))) s) :
    codeAny (model prog w) A (.call (.builtin "getset_descriptor.__get__") ⟨[.builtin "object.__class__",.ref x,tp],[]⟩) R s:=by
  obtain ⟨hh,g,dr,t,os⟩:=s;have L0:=L;have L1:=PySem.W.looks_mroIn (M:=model prog w) X Z.ob;refine codeAny_call_builtin PySem.W.KF.slot_gs.plain PySem.W.KF.entry_gs (PySem.W.KF.slot_gs.check _ _ _ _ _ _ _ _ PySem.W.KF.type_class (PySem.W.KF.args_gs _ _ _) ?_);unfold Builtin.«getset_descriptor.__get__» descrGet;rw [PySem.W.dga_obj];refine wpAny_bind (wpAny_pure ?_);unfold descrGetter descrCheckInstance descrNameAndClass isInstance;simp only [PySem.W.KF.owner_class]
  repeat lk
  refine ⟨Code.quiet_builtin _ (by decide +kernel),codeAny_builtin PySem.W.KF.entry_class ?_⟩;unfold Builtin.«object.__class__» shownTypeOf
  repeat lk
  exact h
theorem me {tk:Tok} {Q:Fin->Shared->Prop} (Z:lP K C) (X:K.In s.heap) (L:PySem.W.Looks (model prog w) s.heap (typeOf (.ref x)) (.ref C)) (h:Q (.done (.ret (.ref C))) s) :
    wpAny (model prog w) A (Builtin.«object.__getattribute__» ⟨[.ref x,.str "__class__" tk],[]⟩) Q E s:=by
  obtain ⟨hh,g,d,t,os⟩:=s;have L1:=ub (M:=model prog w) (x:=x) Z X;refine wpAny_bind (wpAny_pure (wpAny_bind ?_));show wpAny _ _ (pure _) _ _ _;refine wpAny_pure (wpAny_bind (L.at (wpAny_bind (L1.at ?_))));show wpAny _ _ (holding [Value.builtin "object.__class__"] (call (.builtin "getset_descriptor.__get__") [.builtin "object.__class__",.ref x,.ref C])>>=ret) _ _ _;exact wpAny_bind (wpAny_holding (wpAny_call (wv (s:=⟨hh,g,d,t,os⟩) Z X L (wpAny_pure h))))
theorem uD {tk:Tok} {R:Result->Shared->Prop} (Z:lP K C) (X:K.In s.heap) (L:PySem.W.Looks (model prog w) s.heap (typeOf (.ref x)) (.ref C)) (h:R (.ok (.ret (.ref C))) s) :
    codeAny (model prog w) A (.call (.builtin "BaseException.__getattribute__") ⟨[.ref x,.str "__class__" tk],[]⟩) R s:=by
  obtain ⟨hh,g,d,t,os⟩:=s;have L1:=PySem.W.looks_mroIn (M:=model prog w) X Z.bx;refine codeAny_call_builtin F.excAttr_ValueError.ga.plain F.entry_bexc_ga ?_;have hk:builtinKind "BaseException.__getattribute__" = some .slot:=by decide +kernel
  have hsplit:splitId "BaseException.__getattribute__" = some ("BaseException","__getattribute__"):=by decide +kernel
  have ha:=F.args_bexc_ga (.ref x) (.str "__class__" tk);simp only [checkBuiltinCall,hk,hsplit];refine wpAny_bind ?_;unfold isInstance;refine wpAny_bind (L.at (L1.at ?_));rw [if_neg (by decide)];unfold argsOk at ha;cases hsg:Manifest.signature? "BaseException.__getattribute__" with
  | none=>exact wpAny_pure (me (s:=⟨hh,g,d,t,os⟩) Z X L h)
  | some sig =>
    rw [hsg] at ha;dsimp only at ha ⊢;rw [ha];exact wpAny_pure (me (s:=⟨hh,g,d,t,os⟩) Z X L h)
theorem sg {Q:Option Value->Shared->Prop} (Z:lP K C) (X:K.In s.heap) (L:PySem.W.Looks (model prog w) s.heap (typeOf (.ref x)) (.ref C)) (h:Q (some (.ref C)) { s with toks:=s.toks+1 }) :
    wpAny (model prog w) A (getAttr? (.ref x) "__class__") Q E s:=by
  obtain ⟨hh,g,d,t,os⟩:=s;have L1:=PySem.W.looks_findIn (M:=model prog w) X Z.ga;have L2:=PySem.W.looks_findIn (M:=model prog w) X Z.gt;have f3:=F.excAttr_ValueError.ga.bind (.ref x);unfold getAttr? getAttrBy? getAttrBy;refine wpAny_bind (wpAny_mkText (wpAny_bind (wpAny_attempt (wpAny_holding (wpAny_bind (L.at (wpAny_bind (L1.at ?_))))))));show wpAny _ _ (getAttrByItsOwn _ _ _ _ _ _) _ _ _;unfold getAttrByItsOwn;refine wpAny_bind (show wpAny _ _ (typeLookup (.ref C) "__getattr__") _ _ _ from L2.at ?_);refine wpAny_bind (wpAny_attempt (wpAny_holding ?_));show wpAny _ _ (boundAndCalled _ _ _) _ _ _;unfold boundAndCalled;rw [f3];refine wpAny_bind (wpAny_pure ?_);show wpAny _ _ (call (.builtin "BaseException.__getattribute__") [.ref x,.str "__class__" _]) _ _ _;refine wpAny_call (uD (s:=⟨hh,g,d,t+1,os⟩) Z X L ?_);exact PySem.W.handed_on rfl (wpAny_pure h)
theorem ul (Z:lP K C) (hc:ox.cls=.ref C):PySem.W.KitX K (.ref x) (.ref C) (fun h=>h.get? x=some ox):=by
  have ty:∀ (M:Model) (h:Heap),K.In h->h.get? x=some ox->PySem.W.Looks M h (typeOf (.ref x)) (.ref C):=fun M h _ hp=>hc ▸ (PySem.W.Looks.ld hp).andThen .now
  obtain ⟨cd,hcd,_⟩:=Option.bind_eq_some_iff.mp Z.ob;unfold PySem.W.clsIn at hcd;split at hcd
  · rename_i c' d' cd' sl' ho;refine ⟨ty,fun M h X _=>?_,fun h tp dd its n sl X htp=>?_,fun X p k=>sg Z X (ty _ _ X p) k⟩
    · intro A' Q' E' s' k q;unfold isType loadHead;exact wpAny_bind (wpAny_loadPart (k _ _ (X _ _ ho)) (wpAny_pure q))
    · refine Bool.eq_false_iff.mpr fun q=>?_
      have e:C=tp:=Value.ref.inj (beq_iff_eq.mp q);subst e;have z:=(X _ _ ho).symm.trans htp;cases z
  · cases hcd
end
noncomputable def lI (i:Nat) (p:Addr):Fe:=fun ρ=>match ρ[i]? with
  | some (.exc q)=>if q=p then .ok (.bool false) else .no
  | _=>.no
section
variable {X:Cx} {nl:Nat} {G:List Str} {p C C2:Addr} {ob:Obj} {n cx:Str} {pi pe pc pos:Pos}
theorem tq (Z:lP X.K C) (hp:(p,ob)∈X.pn) (hc:ob.cls=.ref C):cQ X (.builtin "isinstance") (fun xs H Q=>∃ cv,xs=[.ref p,cv]/\(∀ u,bz cv u->PySem.W.kitOne X.K (.ref C) u=some false)/\Q (.bl false) H):=by
  intro pins s σ H xs us Q I r h;obtain ⟨cv,rfl,hk,q⟩:=h;obtain ⟨u,v,rfl,rx,ry⟩:=kM r;cases rx;have pin:=(I.pin (p,ob) (List.mem_append_left _ hp)).1;refine call_isinstance (S:=fun _ R s=>(X.K.In s.heap/\s.heap.get? p=some ob)/\∀ tk,R (.ok (.ret (.bool false))) { s with toks:=tk })
    (fun prog w A R s hs=>isinstance_outer (PySem.W.kit_ans (ul Z hc) (hk _ ry) 0 _ prog w A R s hs) (fun z=>nomatch z)) ⟨⟨I.kIn,pin⟩,fun tk=>⟨.bl false,H,I.tok tk,rfl,q⟩⟩
theorem wb {i:Nat} {σ:St} {H:Hp} {Q:VK} (h:gS X gj (lI i p) σ H Q):σ[i]?=some (some (.ref p))/\Q (.bl false) H:=by
  obtain ⟨ρ,sl,q⟩:=h;unfold lI at q;split at q
  · rename_i q' e;split at q
    · rename_i e';subst e';obtain ⟨o,h1,h2⟩:=sl.at e;have h2':o=some (.ref q'):=h2;subst h2';exact ⟨h1,q _ H (aq.refl _) eV⟩
    · exact q.elim
  · exact q.elim
theorem tu (T:xG X nl G) (hp:(p,ob)∈X.pn) (hc:ob.cls=.ref C) (i:Nat) (hN:X.N[i]?=some n) (j:Nat) (hG:G[j]?=some ("isinstance" : Str)) (hm:X.mg "isinstance" = none) (j':Nat) (hG':G[j']?=some cx) (hm':X.mg cx=some (.ref C2)) (hz:lP X.K C) (hk:PySem.W.kitOne X.K (.ref C) (.ref C2)=some false):Z.cD X (.Call (.Name "isinstance" pi) [.Name n pe,.Name cx pc] [] pos) (lI i p):=⟨by
  have g:=T.gl _ (List.mem_of_getElem? hG);have g':=T.gl _ (List.mem_of_getElem? hG');have v:=T.vis n (List.mem_of_getElem? hN);have h1:PE X (.Name n pe) (wn i):=fA hN v.1 v.2.1 v.2.2;have h2:PE X (.Name cx pc) (tC (.ref C2)):=mP g'.1 hm' rfl g'.2.1;refine PE.imp (fE (tq hz hp hc) g.1 hm PyProof.Rows.boot_isinstance (eW h1 (eW h2 lu)) g.2.2 g.2.1) fun σ H Q h=>?_
  obtain ⟨a,b⟩:=wb h;exact ⟨_,a,.ref C2,rfl,fun u r=>by cases r;exact hk,b⟩⟩
end
section
variable {X:Cx} {nl:Nat} {G:List Str} {C C2:Addr} {n m cx:Str} {np rp hp mp ap:Pos} {a e:Expr} {dn:List ExceptHandler} {f f1:Addr->Fe}
theorem pH (T:Tb X nl G) (j:Nat) (hG:G[j]?=some cx) (hm:X.mg cx=some (.ref C2)) (hq:PySem.W.excIn X.K C pR oh=true) (hq2:PySem.W.excIn X.K C2 pR oh=true) (hb:(Value.ref C::hJ X.K C).contains (.ref C2)=true)
    (i:Nat) (hN:(X.N.take nl)[i]?=some n) (hk:X.env.scope.names.lookup n=some .local) (k:Nat) (hNm:(X.N.take nl)[k]?=some m)
    (ha:∀ p ob,ob.cls=.ref C->xG (Xh X p ob) nl G->cD (Xh X p ob) a (f1 p))
    (he:∀ p ob,ob.cls=.ref C->xG (Xh X p ob) nl G->cD (Xh X p ob) e (f p)) (hs:swapsWith a (some (.Name m mp)) ap.line X.env=pure false:=by rfl) :
    AC X C (.ExceptHandler (some (.Name cx np)) (some n) [.Assign [.Name m mp] a ap,.Return (some e) rp] hp::dn) (fun p ρ=>f1 p (ρ.set i (.exc p))>>=fun d=>f p ((ρ.set i (.exc p)).set k (.val d))):=fun pins σ Hc H sc s p Fm ρ D I fl sl q=>by
  obtain ⟨hi,hl,hf⟩:=T.nm hN;obtain ⟨hi2,hl2,hf2⟩:=T.nm hNm;refine yi T j hG hm hq hq2 I fl ?_;rw [hb];refine codeAny_handlers_suite_as (fl.land fun h' fl'=>?_);obtain ⟨ob,ho,hcls,Ih⟩:=sW I fl';refine ge (X:=Xh X p ob) (v:=.ref p) Ih T.nd hi hl rfl (fun s2 I2=>?_) hf;dsimp only at q;have hi':i < σ.length:=by rw [I.len];exact (List.getElem?_eq_some_iff.mp hi).1
  cases ef1:f1 p (ρ.set i (.exc p)) with
  | ex c=>rw [ef1] at q;exact q.elim
  | no=>rw [ef1] at q;exact q.elim
  | ok d1 =>
    rw [ef1,R.ok_bind] at q;cases ef:f p ((ρ.set i (.exc p)).set k (.val d1)) with
    | ex c=>rw [ef] at q;exact q.elim
    | no=>rw [ef] at q;exact q.elim
    | ok d =>
      rw [ef] at q;have sl2:Sl H (σ.set i (some (.ref p))) (ρ.set i (.exc p)):=Sl.set (c:=.exc p) (o:=some (.ref p)) sl.sl i rfl;have hw1:=ha p ob hcls (T.h p ob) pins _ (σ.set i (some (.ref p))) H (fun v H'=>aq H H'/\Rp H' d1 v) I2 ⟨_,sl2,by rw [ef1];exact fun v H' s' r=>⟨s',r⟩⟩;refine wpAny_execs_cons (wpAny_Assign_Name (wpAny_mono hw1 (fun u1 s3 ⟨v1,H3,I3,r3,s13,rp1⟩=>?_) fun _ _ z=>False.elim z) hs);refine ge (X:=Xh X p ob) (v:=v1) I3 T.nd hi2 hl2 r3 (fun s4 I4=>?_) hf2;have kn:Sl H3 ((σ.set i (some (.ref p))).set k (some v1)) ((ρ.set i (.exc p)).set k (.val d1)):=Sl.set (c:=.val d1) (o:=some v1) (sl2.mono s13) k ⟨v1,rfl,rp1⟩;have hw:=he p ob hcls (T.h p ob) pins _ _ H3 (fun v H'=>aq H3 H'/\Rp H' d v) I4 ⟨_,kn,by rw [ef];exact fun v H' s' r=>⟨s',r⟩⟩;refine wpAny_execs_cons (wpAny_Return_some (wpAny_mono hw (fun u s5 ⟨v,H5,I5,r5,s35,rp⟩=>?_) fun _ _ z=>False.elim z));have I6:=pZ I.ok I5;show wpAny _ X.A (do bindName X.env n .none;unbindBehindTheSuite X.env n hp) _ _ s5;refine wpAny_bind (wpAny_bindName (ge (v:=.non) I6 T.nd hi hl rfl (fun s7 I7=>?_) hf));unfold unbindBehindTheSuite;refine wpAny_onRaise (x5 (v:=.non) I7 T.nd hi hk (by rw [List.getElem?_set,if_pos rfl,if_pos (by simpa using hi')]) fun s8 I8=>?_);exact ⟨v,_,H5,I8,r5,q v H5 (sl.fm.trans (s13.trans s35)) rp⟩
end
section
variable {X:Cx} {nl:Nat} {G:List Str} {x:Str} {pos:Pos}
theorem qr (T:xG X nl G) (i:Nat) (hN:X.N[i]?=some x):Z.cD X (.Name x pos) (ag i):=⟨by
  have hm:=T.vis x (List.mem_of_getElem? hN);refine PE.imp (fA hN hm.1 hm.2.1 hm.2.2) fun σ H Q ⟨ρ,sl,q⟩=>?_
  unfold ag at q;split at q
  · rename_i d e;obtain ⟨o,h1,v,rfl,h2⟩:=sl.at e;exact ⟨v,h1,q v H (aq.refl H) h2⟩
  · exact q.elim⟩
end
theorem sK {X:Cx} {k:Nat} {f:Addr} {fd:FuncData} {F:iJ} {x:Str} {p pos:Pos} {nl:Nat} {G:List Str} (C:i5 X.prog X.w X.K X.mg X.base k x [] F f fd) (hr:eu k X.A) (T:Tb X nl G) (j:Nat) (hG:G[j]?=some x):Z.cD X (.Call (.Name x p) [] [] pos) (aJ F aB):=⟨by
  have g:=T.gl x (List.mem_of_getElem? hG);refine PE.imp (vj C.ok hr g.1 C.m C.kp C.b .nil rK g.2.1) fun σ H Q ⟨ρ,sl,q⟩=>?_
  have q':qq X gj (F []) H Q:=q;refine ⟨[],by simp [br],rfl,?_⟩;cases e2:F [] with
  | ok d=>rw [e2] at q';exact fun v H' s' p'=>q' v H' s' p'
  | ex c=>rw [e2] at q';exact fun H' s'=>Xw.ex q' H' s'
  | no=>rw [e2] at q';exact q'⟩
theorem Bq {K:PySem.W.Frag} {x qual:Str} {st:Stmt} {f:Addr} {fd:FuncData} (F:gP K x qual st f fd) (h:∀ (kV doc pm:Value) (an:Option Addr) (cdv ct:Value),bindArgs (PySem.W.fnOf x qual (dC st) (cI st) (ak st) .none kV doc pm an cdv ct) ⟨[],[]⟩=pure []):bF K fd [] []:=F.binds fun kV doc pm an cdv ct us hl=>match us,hl with | [],_=>h kV doc pm an cdv ct
end D2
namespace D2
open PySem PySem.Spec PyProof.Rows L2 PySem.Builtin PySem.Builtin.Str
theorem qP {prog:Program} {w:World} {A:Around} {E:Value->Shared->Prop} {s:Shared} {x y:Str} {t u:Tok} {Q:Value->Shared->Prop} (hy:(y.length==0)=false) (hsz:x.length+2<=sizeLine)
    (h:∀ (l:List (Str×Tok)) k,l.map (·.1)=Txt.split x y->Q (.ref s.heap.objs.size) { s with heap:=s.heap.push { cls:=.type "list",data:=.seq (strValues l).toArray },toks:=k }) :
    wpAny (model prog w) A (call (.builtin "str.split") [.str x t,.str y u]) Q E s:=by
  have hn:(partsBetween x (occurrences x y 0 x.length (x.length+1)) y.length).length<=sizeLine:=by
    have e1:=StrLaws.occ_length_le x y 0 x.length (x.length+1);rw [length_partsBetween];omega
  cases h1:(decide (x.length < y.length)||decide (strKind x < strKind y))
  · cases hf:(occurrences x y 0 x.length (x.length+1)).isEmpty
    · refine call_meets F.slot_str_split (typeIs_str _ _ _) F.entry_str_split (F.args_str_split_2 _ _) (meets_str_split_sep x y t u h1 hy hf (by omega) hn) ?_;show wants Q E _ { s with toks:=_,heap:=s.heap.push { cls:=.type "list",data:=.seq (strsFrom s.toks (partsBetween x (occurrences x y 0 x.length (x.length+1)) y.length)).toArray } };rw [strsFrom_eq];exact h (numbered s.toks _) _ ((numbered_texts _ _).trans ((if_neg (ne_true_of_eq_false h1)).trans (if_neg (ne_true_of_eq_false hf))).symm)
    · exact call_meets F.slot_str_split (typeIs_str _ _ _) F.entry_str_split (F.args_str_split_2 _ _) (meets_str_split_not_found x y t u h1 hy hf)
        (h [(x,t)] s.toks ((if_neg (ne_true_of_eq_false h1)).trans (if_pos hf)).symm)
  · exact call_meets F.slot_str_split (typeIs_str _ _ _) F.entry_str_split (F.args_str_split_2 _ _) (meets_str_split_cannot_occur x y t u h1)
      (h [(x,t)] s.toks (if_pos h1).symm)
theorem mE:∀ {l:List (Str×Tok)},bp ((l.map (·.1)).map V.str) (strValues l)
  | []=>.nil
  | p::r=>.cons ⟨p.2,rfl⟩ (mE (l:=r))
theorem jX {H:Hp}:∀ (ys:List Str),br H (ys.map PyData.str) (ys.map V.str)
  | []=>by simp only [List.map_nil,br]
  | y::ys=>by
    simp only [List.map_cons,br];exact ⟨_,_,rfl,by simp only [Rp],jX ys⟩
section
variable {X:Cx} {o e:Expr} {fo fe:Fe} {apos cpos:Pos}
theorem tW:AK X "str.split" (fun x vs H Q=>∃ xx y,x=.str xx/\vs=[.str y]/\(y.length==0)=false/\xx.length+2<=sizeLine/\∀ l,H l=none->Q (.ref l) (dk H l (.lst ((Txt.split xx y).map V.str)))):=by
  intro pins s σ H x vs v us Q I rx rv h;obtain ⟨xx,y,rfl,rfl,hy,hsz,q⟩:=h;obtain ⟨t,rfl⟩:=rx;obtain ⟨u,rfl,t',rfl⟩:=fM rv;refine qP hy hsz fun l k hl=>?_
  have hf:=I.hok.fresh (Nat.le_refl s.heap.objs.size);refine ⟨.ref s.heap.objs.size,_,I.laid (t':=k) (o:=.lst ((Txt.split xx y).map V.str)) (fun b o e=>Heap.get?_push_of_some _ e) (Nat.le_refl _) ⟨?_,strValues l,0,?_,Heap.get?_push_size _ rfl⟩,rfl,q _ hf⟩
  · rw [List.length_map];exact Nat.le_trans (split_le xx y) hsz
  · rw [<- hl];exact mE
noncomputable def zT:PyData->R Unit
  | .str _=>.ok ()
  | _=>.no
noncomputable def fi:PyData->PyData->R PyData
  | .str x,.str y=>if (y.length==0)=false/\x.length+2<=sizeLine then .ok (.list ((Txt.split x y).map PyData.str)) else .no
  | _,_=>.no
noncomputable def eR (fo fe:Fe):Fe:=fun ρ=>fo ρ>>=fun x=>zT x>>=fun _=>fe ρ>>=fun y=>fi x y
theorem fJ (ho:Z.c5 X o fo) (he:Z.cD X e fe) (hb:attributeBase o "split" X.env (eval o X.env)=eval o X.env:=by rfl) (hst:az e=true:=by rfl) (hline:(apos.endLine==cpos.line)=true:=by rfl):Z.k7 X (.Call (.Attribute o "split" apos) [e] [] cpos) (eR fo fe):=⟨have ho:=ho.un;have he:=he.un;by
  have sc:starEach [e] X.env=(false,eval e X.env)::starEach [] X.env:=aO hst;refine PE.imp (rh PySem.F.plainAttrs_str PySem.F.slot_str_split PySem.F.type_str_split tW ho (jx he kU hst) hb (by rw [sc];rfl) hline sc rfl) fun σ H Q h=>?_
  refine (dl (P:=o5) (f:=fo) (k:=fun ρ x=>zT x>>=fun _=>fe ρ>>=fun y=>fi x y) (dP (X:=X) sA Q) h).post fun v H1 ⟨ρ1,d1,sl1,_,p1,q1⟩=>?_
  cases d1 with
  | str xx =>
    have ev:v=.str xx:=eX p1;subst ev;refine ⟨rfl,?_⟩;have q1:qq X yb (ai fe aB ρ1>>=one (fi (.str xx))) H1 Q:=by
      have e0:(ai fe aB ρ1>>=one (fi (.str xx)))=(fe ρ1>>=fun y=>fi (.str xx) y):=by
        unfold ai aB;cases fe ρ1 <;> rfl
      rw [e0];exact q1
    refine (jz (I:=Rp) (f:=ai fe aB) (k:=fun _=>one (fi (.str xx))) (dP (X:=X) sA Q) ⟨ρ1,sl1,q1⟩).post fun us H2 ⟨_,ds2,_,s2,p2,q2⟩=>?_
    unfold one at q2;split at q2
    · rename_i d2;simp only [RA] at p2;obtain ⟨w,r',rfl,p2,rfl⟩:=p2;cases d2 with
      | str y =>
        have ew:w=.str y:=by simpa only [Rp] using p2
        subst ew;simp only [fi] at q2;split at q2
        · rename_i hz;refine ⟨xx,y,rfl,rfl,hz.1,hz.2,fun l hl=>q2 _ _ (cu hl _) ⟨?_,l,rfl,hl⟩⟩;simp only [gQ];exact ⟨l,_,rfl,bJ,jX _⟩
        · exact q2.elim
      | _=>exact q2.elim
    · exact q2.elim
  | _=>exact q1.elim⟩
end
end D2
set_option maxHeartbeats 400000
namespace D2
open PySem PySem.Spec PyProof.Rows L2 PySem.Builtin
theorem mU:typeLookup (.type "list") "keys" = pure none:=by rw [typeLookup_type,builtinLookup_eq_fast];kernel_rfl
theorem nh {prog:Program} {w:World} {A:Around} {E:Value->Shared->Prop} {s:Shared} {a:Addr} {xs:Array Value} {k:Nat} {sl:Array (Option Value)} {Q:Option Value->Shared->Prop}
    (hx:s.heap.get? a=some ⟨.type "list",none,.seq xs k,sl⟩) (hA:A.handled=none)
    (h:∀ h' tk,(∀ b o,s.heap.get? b=some o->h'.get? b=some o)->Q none { s with heap:=h',toks:=tk }):wpAny (model prog w) A (getAttr? (.ref a) "keys") Q E s:=by
  obtain ⟨hp,g,d,tk,os⟩:=s;have hT:∀ tk',(⟨hp,g,d,tk',os⟩:Shared).TypeIs (.ref a) "list" := fun _=>⟨_,hx,rfl⟩
  have f1:=sub_AttributeError;have f3:=F.slot_list_getattribute.lookup;have f4:=F.slot_list_getattribute.bind (.ref a);have f5:=am_list_getattr_none;unfold getAttr? getAttrBy? getAttrBy
  repeat (any_goals (first | assumption | exact hT _ | ((with_reducible show wpAny _ _ (call (Value.builtin "list.__getattribute__") _ _) _ _ _);refine call_meets F.slot_list_getattribute (hT _) am_entry_list_getattribute (F.args_list_getattribute_2 _ _) (meets_getattribute_miss_list a xs k sl "keys" _ mU (by decide +kernel) (by decide +kernel)) ⟨hx,hA,fun h' tk' e hx'=>?_⟩) | wp_step))
  obtain ⟨t',u',he⟩:=hx'.there;show wpAny _ _ (getattributeRaised _ _ _ _ _ _ _) _ _ _;unfold getattributeRaised
  repeat (any_goals (first | assumption | wp_step))
  all_goals first | exact h _ _ hx'.of.keeps | exact h _ _ hx'.1
theorem eS:plainId "dict.update.loop" = true:=by decide +kernel
theorem kh:entryFor table "dict.update.loop" = some Builtin.«dict.update.loop»:=entryFor_of_tree (by kernel_rfl)
noncomputable def cT {K:Type} [DecidableEq K] (kvs:List (K×Value)) (ps:List (K×Value)):List (K×Value):=ps.foldl (fun a p=>stored a p.1 p.2) kvs
section
variable {prog:Program} {w:World} {K:Type} [DecidableEq K] {knd:KeyKind prog w K} {A:Around} {R:Result->Shared->Prop}
theorem mF {l it d:Addr} {its:List Value} {ps:List (K×Value)} (hh:A.in1.handled=none) (h1:it≠d) (h2:l≠d) (h3:l≠it) (hlen:ps.length=its.length):∀ (n i:Nat) (s:Shared) (kvs:List (K×Value)),n=its.length-i->i<=its.length ->
    s.heap.IsListIter it l i->s.heap.IsList l its.toArray->s.heap.DictOf knd d kvs ->
    (∀ (j:Nat) (v:Value),its[j]?=some v->∃ (tA:Addr) (kv vv:Value) (o:Obj) (m:Nat) (k:K),v=.ref tA/\tA≠d/\tA≠it/\s.heap.get? tA=some o/\o.cls=.type "tuple" /\ o.data=.seq #[kv,vv] m/\ps[j]?=some (k,vv)/\knd.is k kv=true) ->
    (∀ i,i<=ps.length->(cT [] (ps.take i)).length<=sizeLine)->kvs=cT [] (ps.take i) ->
    (∀ h' tk,h'.DictOf knd d (cT [] ps)->(∀ b o,b≠d->b≠it->s.heap.get? b=some o->h'.get? b=some o)->R (.ok (.ret .none)) { s with heap:=h',toks:=tk }) ->
    codeAny (model prog w) A (Code.builtin "dict.update.loop" ⟨[Value.ref d,Value.ref it,rawInt i,Value.none],[]⟩) R s
  | n,i,s,kvs,hn,hi,hit,hl,hd,hps,hz,hk,fin=>by
    refine codeAny_builtin kh ?_;rw [Around.under_plainId eS _];show wpAny _ A.in1 (pyNext (Value.ref it)>>=_) _ _ s;by_cases hlt:i < its.length
    · have hx:its.toArray[i]?=some its[i]:=by simp [hlt]
      refine wpAny_bind (wpAny_pyNext_list_item hit hl hx fun h' hit' sb=>?_);obtain ⟨tA,kv,vv,o,m,k,e1,e2,e3,e4,e5,e6,e7,e8⟩:=hps i its[i] (List.getElem?_eq_getElem hlt);dsimp only;rw [e1];have g':h'.get? tA=some o:=(sb.2 tA e3).trans e4;refine wpAny_bind (wpAny_holding (wpAny_bind (wpAny_tryCatch ?_)));unfold Builtin.Dict.pairItems;refine wpAny_bind (wpAny_typeOf (T := "tuple") ⟨o,g',e5⟩ ?_);rw [if_pos (by decide)];refine wpAny_bind (wpAny_seqItems g' e6 (wpAny_pure ?_));show wpAny _ A.in1 (holding [kv,vv] (dictSet d kv vv)) _ _ _;have hd':h'.DictOf knd d kvs:=hd.sameBut sb (Ne.symm h1);refine wpAny_holding (wpAny_dictSet_pairs e8 hd' (fun h2' hd2 sb2=>?_) (by rw [hk];exact hz i (by omega)));refine wpAny_pure ⟨plainId_quiet eS _,?_⟩;have key:cT [] (ps.take (i+1))=stored kvs k vv:=by
        rw [List.take_succ,e7,hk];unfold cT;rw [List.foldl_append];rfl
      have st:∀ b o',b≠d->b≠it->s.heap.get? b=some o'->h2'.get? b=some o':=fun b o' b1 b2 q=>(sb2.2 b b1).trans ((sb.2 b b2).trans q)
      refine mF hh h1 h2 h3 hlen (n-1) (i+1) _ (stored kvs k vv) (by omega) (by omega) ?_ ?_ hd2 (fun j v hj=>?_) hz key.symm fun h3' tk hd3 st3=>fin h3' tk hd3 fun b o' b1 b2 q=>st3 b o' b1 b2 (st b o' b1 b2 q)
      · obtain ⟨oi,q1,q2,q3⟩:=hit';exact ⟨oi,(sb2.2 it h1).trans q1,q2,q3⟩
      · obtain ⟨ol,q1,q2⟩:=hl;exact ⟨ol,st l ol h2 h3 q1,q2⟩
      · obtain ⟨tA',kv',vv',o',m',k',f1,f2,f3,f4,f5⟩:=hps j v hj;exact ⟨tA',kv',vv',o',m',k',f1,f2,f3,st tA' o' f2 f3 f4,f5⟩
    · have hx:its.toArray[i]?=none:=by simp;omega
      refine wpAny_bind (wpAny_pyNext_list_end hh hit hl hx fun h' sb=>?_);show wpAny _ A.in1 (Builtin.Dict.addKeywords d []>>=_) _ _ _;refine wpAny_bind (wpAny_pure (wpAny_pure (fin h' _ ?_ fun b o b1 b2 q=>sb b o b2 q)));have e:ps.take i=ps:=List.take_of_length_le (by omega);rw [hk,e] at hd;exact hd.extBut sb (Ne.symm h1)
termination_by n i=>its.length-i
end
theorem qa {prog:Program} {w:World} {K:Type} [DecidableEq K] {knd:KeyKind prog w K} {A:Around} {E:Value->Shared->Prop} {s:Shared} {l:Addr} {its:List Value} {n:Nat} {sl:Array (Option Value)} {ps:List (K×Value)} {Q:Value->Shared->Prop}
    (hl:s.heap.get? l=some ⟨.type "list",none,.seq its.toArray n,sl⟩) (hh:A.handled=none) (hlen:ps.length=its.length)
    (hps:∀ (j:Nat) (v:Value),its[j]?=some v->∃ (tA:Addr) (kv vv:Value) (o:Obj) (m:Nat) (k:K),v=.ref tA/\s.heap.get? tA=some o/\o.cls=.type "tuple" /\ o.data=.seq #[kv,vv] m/\ps[j]?=some (k,vv)/\knd.is k kv=true)
    (hz:∀ i,i<=ps.length->(cT [] (ps.take i)).length<=sizeLine)
    (fin:∀ h' tk,h'.DictOf knd s.heap.objs.size (cT [] ps)->(∀ b o,s.heap.get? b=some o->h'.get? b=some o)->Q (.ref s.heap.objs.size) { s with heap:=h',toks:=tk }) :
    wpAny (model prog w) A (call (.type "dict") [.ref l]) Q E s:=by
  refine callType_codes (Q₁:=fun obj s₁=>obj=.ref s.heap.objs.size/\s₁={ s with heap:=s.heap.push { cls:=.type "dict",data:=.dict #[] } }) F.kt_called_dict (F.kt_typeCall_dict_1 _) F.entry_dict_init (kt_code_dict_new _ ⟨rfl,rfl⟩) ?_;rintro obj s₁ ⟨rfl,rfl⟩;have hnew:(s.heap.push { cls:=.type "dict",data:=.dict #[] }).DictOf knd s.heap.objs.size []:=Heap.DictOf.new s.heap;have hl':(s.heap.push { cls:=.type "dict",data:=.dict #[] }).get? l=some ⟨.type "list",none,.seq its.toArray n,sl⟩:=Heap.get?_push_of_some _ hl;refine ⟨hnew.typeIs,F.args_dict_init_2 _ _,?_⟩;unfold Builtin.«dict.__init__»;refine wpAny_bind ?_;unfold Builtin.Dict.selfAndRest;refine wpAny_bind (wpAny_notOrdered_dict hnew.typeIs ?_);show wpAny _ _ (pure (s.heap.objs.size,[Value.ref l])) _ _ _;refine wpAny_pure ?_;show wpAny _ _ (Builtin.Dict.updateFrom "dict.__init__" s.heap.objs.size (.ref l) [] .none) _ _ _;unfold Builtin.Dict.updateFrom;refine wpAny_bind (wpAny_typeOf (T := "list") ⟨_,hl',rfl⟩ ?_);rw [if_pos (by decide)];refine wpAny_bind (nh hl' hh fun h1 tk1 k1=>?_);rw [if_pos (by rfl)];refine wpAny_bind (wpAny_rule ?_);have hl1:h1.get? l=some ⟨.type "list",none,.seq its.toArray n,sl⟩:=k1 _ _ hl';have hL1:h1.IsList l its.toArray:=⟨_,hl1,rfl,n,rfl⟩
  refine wpAny_bind (wpAny_pyIter_list hL1 ?_);have d0:(s.heap.push { cls:=.type "dict",data:=.dict #[] }).get? s.heap.objs.size=some { cls:=.type "dict",data:=.dict #[] }:=Heap.get?_push_size _ rfl;have lt1:∀ {b:Addr} {o:Obj},s.heap.get? b=some o->b < s.heap.objs.size:=fun q=>Heap.lt_size q
  have lt2:s.heap.objs.size < h1.objs.size:=Heap.lt_size (k1 _ _ d0);have up:∀ b o,s.heap.get? b=some o->(h1.push { cls:=.type "list_iterator",data:=.fields #[.ref l,.int 0 0] }).get? b=some o:=fun b o q=>Heap.get?_push_of_some _ (k1 _ _ (Heap.get?_push_of_some _ q))
  refine wpAny_pure ⟨plainId_quiet eS _,?_⟩;refine mF (A:=A.in1) (knd:=knd) (l:=l) (it:=h1.objs.size) (d:=s.heap.objs.size) (its:=its) (ps:=ps) hh (Nat.ne_of_gt lt2) (Nat.ne_of_lt (lt1 hl)) (Nat.ne_of_lt (Nat.lt_trans (lt1 hl) lt2)) hlen its.length 0 _ [] (by simp) (Nat.zero_le _) ⟨_,Heap.get?_push_size _ rfl,rfl,rfl⟩ ⟨_,up _ _ hl,rfl,n,rfl⟩ ?_ (fun j v hj=>?_) hz rfl fun h' tk hd st=>?_
  · obtain ⟨o,es,ep,ho,r⟩:=hnew;exact ⟨o,es,ep,Heap.get?_push_of_some _ (k1 _ _ ho),r⟩
  · obtain ⟨tA,kv,vv,o,m,k,f1,f2,f3,f4,f5,f6⟩:=hps j v hj;exact ⟨tA,kv,vv,o,m,k,f1,Nat.ne_of_lt (lt1 f2),Nat.ne_of_lt (Nat.lt_trans (lt1 f2) lt2),up _ _ f2,f3,f4,f5,f6⟩
  · exact ⟨rfl,fin h' tk hd fun b o q=>st b o (Nat.ne_of_lt (lt1 q)) (Nat.ne_of_lt (Nat.lt_trans (lt1 q) lt2)) (up b o q)⟩
end D2
namespace D2
open PySem PySem.Spec PyProof.Rows L2
noncomputable def gz (H:Hp):List V->List (bZ×V)->Prop
  | [],kvs=>kvs=[]
  | v::vs,kvs=>∃ t k y r,v=.ref t/\kvs=(k,y)::r/\H t=some (.tup [kV k,y])/\gz H vs r
noncomputable def gn (kvs ps:List (bZ×V)):List (bZ×V):=ps.foldl (fun a p=>iF a p.1 p.2) kvs
theorem vw:∀ {ps:List (bZ×V)} {qs:List (bZ×Value)} {a:List (bZ×V)} {b:List (bZ×Value)},KV a b->KV ps qs->KV (gn a ps) (cT b qs)
  | _,_,a,b,h,.nil=>h
  | _,_,a,b,h,.cons (a:=p) (b:=q) r t=>by
    obtain ⟨e,r⟩:=r;have:=vw (KV.put h p.1 r) t;rw [e] at this;unfold gn cT at *;rw [List.foldl_cons,List.foldl_cons,e];exact this
theorem kX:∀ (ps a:List (bZ×V)),(gn a ps).length<=a.length+ps.length
  | [],a=>by simp [gn]
  | p::ps,a=>by
    have h1:=kX ps (iF a p.1 p.2);have h2:=gW a p.1 p.2;unfold gn at *;rw [List.foldl_cons,List.length_cons];omega
theorem ji:∀ (ps a:List (bZ×Value)),(cT a ps).length<=a.length+ps.length
  | [],a=>by simp [cT]
  | p::ps,a=>by
    have h1:=ji ps (stored a p.1 p.2);have h2:(stored a p.1 p.2).length<=a.length+1:=by
      unfold stored;split <;> simp
    unfold cT at *;rw [List.foldl_cons,List.length_cons];omega
section
variable {X:Cx} {nl:Nat} {G:List Str} {a:Expr} {fa:Fe} {p pos:Pos}
theorem jZ {P:Program} {w:World} {H:Hp} {h:Heap} (ok:fI P w H h):∀ {vs:List V} {its:List Value} {kvs:List (bZ×V)},bp vs its->gz H vs kvs->∃ ps:List (bZ×Value),KV kvs ps/\ps.length=its.length /\
    ∀ (j:Nat) (v:Value),its[j]?=some v->∃ (tA:Addr) (kv vv:Value) (o:Obj) (m:Nat) (k:bZ),v=.ref tA/\h.get? tA=some o/\o.cls=.type "tuple" /\ o.data=.seq #[kv,vv] m/\ps[j]?=some (k,vv)/\(cf P w).is k kv=true
  | _,_,kvs,.nil,q=>by
    simp only [gz] at q;subst q;exact ⟨[],.nil,rfl,fun j v hj=>by simp at hj⟩
  | _,_,kvs,.cons rv t,q=>by
    simp only [gz] at q;obtain ⟨tA,k,y,r,rfl,rfl,ht,q⟩:=q;cases rv;obtain ⟨_,its2,r2,o,q1,q2,m,q3⟩:=ok tA _ ht;obtain ⟨u1,u2,rfl,rk,ry⟩:=kM r2;obtain ⟨ps,kv,hl,hj⟩:=jZ ok t q;refine ⟨(k,u2)::ps,.cons ⟨rfl,ry⟩ kv,by simp [hl],fun j v e=>?_⟩;cases j with
    | zero =>
      simp only [List.getElem?_cons_zero,Option.some.injEq] at e;subst e;exact ⟨tA,u1,u2,o,_,k,rfl,q1,q2,q3,rfl,oU rk⟩
    | succ j=>exact hj j v e
theorem qO (hc:X.calm=true):cQ X (.type "dict") (fun xs H Q=>∃ b vs kvs,xs=[.ref b]/\kW X.K H b vs/\gz H vs kvs/\kvs.length<=sizeLine/\∀ l,H l=none->Q (.ref l) (dk H l (.dK (gn [] kvs)))):=by
  intro pins s σ H xs us Q I r h;obtain ⟨b,vs,kvs,rfl,hq,hp,hz,q⟩:=h;obtain ⟨u,rfl,rx⟩:=fM r;cases rx;obtain ⟨its,rv,⟨o,n,e,hcl,hdi,hda⟩,_⟩:=I.list hq;obtain ⟨oc,od,oda,osl⟩:=o;simp only at hcl hdi hda;subst hcl hdi hda;obtain ⟨ps,kv,hl,hj⟩:=jZ I.hok rv hp;have hlk:kvs.length=ps.length:=kv.length;refine qa (knd:=cf X.prog X.w) e (I.ok.hd hc) hl hj (fun i hi=>?_) fun h' tk hd kp=>?_
  · have:=ji (ps.take i) [];rw [List.length_take] at this;simp only [List.length_nil] at this;omega
  · have hf:=I.hok.fresh (Nat.le_refl s.heap.objs.size);have hg:s.heap.get? s.heap.objs.size=none:=Heap.get?_none_of_le (Nat.le_refl _);have big:=I.big;refine ⟨.ref s.heap.objs.size,_,oW (t':=tk) (o:=.dK (gn [] kvs)) I kp hg hf (vH ?_ ?_ (vw .nil kv) hd),rfl,q _ hf⟩
    · have:=kX kvs [];simp only [List.length_nil] at this;omega
    · exact beq_eq_false_iff_ne.mpr (Nat.ne_of_gt big)
noncomputable def tY:List PyData->Option (List (bZ×PyData))
  | []=>some []
  | .tuple [.str y,d]::r=>(tY r).map fun t=>(.inr y,d)::t
  | .tuple [.int i,d]::r=>(tY r).map fun t=>(.inl i,d)::t
  | _=>none
noncomputable def jb (a:List (PyData×PyData)) (ps:List (bZ×PyData)):List (PyData×PyData):=ps.foldl (fun a p=>kK a (dQ p.1) p.2) a
noncomputable def ln:PyData->R PyData
  | .list ds=>match tY ds with
    | some kds=>if kds.length<=sizeLine then .ok (.dict (jb [] kds)) else .no
    | none=>.no
  | _=>.no
theorem we {H:Hp} {k:bZ} {d:PyData} {v:V} (h:Rp H (.tuple [dQ k,d]) v):∃ t y,v=.ref t/\H t=some (.tup [kV k,y])/\Rp H d y:=by
  simp only [Rp,br] at h;obtain ⟨t,vs,rfl,ht,v1,r1,rfl,p1,v2,r2,rfl,p2,rfl⟩:=h;refine ⟨t,v2,rfl,?_,p2⟩;cases k with
  | inl i=>simp only [dQ,Rp] at p1;subst p1;exact ht
  | inr y=>simp only [dQ,Rp] at p1;subst p1;exact ht
theorem oy {H:Hp}:∀ {ds:List PyData} {vs:List V} {kds:List (bZ×PyData)},br H ds vs->tY ds=some kds->∃ kvs,gz H vs kvs/\kvs.length=kds.length/\∀ a b,cZ H a b->cZ H (jb a kds) (gn b kvs)
  | [],vs,kds,r,e=>by
    simp only [tY,Option.some.injEq] at e;subst e;rw [r.nil_inv];exact ⟨[],by simp only [gz],rfl,fun a b h=>h⟩
  | d::ds,vs,kds,r,e=>by
    obtain ⟨v,r',rfl,p,t⟩:=r.cons_inv;have go:∀ (k:bZ) (x:PyData),d=.tuple [dQ k,x]->(tY ds).map (fun t=>(k,x)::t)=some kds->∃ kvs,gz H (v::r') kvs/\kvs.length=kds.length/\∀ a b,cZ H a b->cZ H (jb a kds) (gn b kvs):=fun k x hd hm=>by
      subst hd;cases e1:tY ds with
      | none=>rw [e1] at hm;cases hm
      | some t1 =>
        rw [e1] at hm;simp only [Option.map_some,Option.some.injEq] at hm;subst hm;obtain ⟨tA,y,rfl,ht,py⟩:=we p;obtain ⟨kvs,q1,q2,q3⟩:=oy t e1;refine ⟨(k,y)::kvs,?_,by simp [q2],fun a b h=>?_⟩
        · simp only [gz];exact ⟨tA,k,y,kvs,rfl,rfl,ht,q1⟩
        · exact q3 _ _ (cZ.put k py h)
    unfold tY at e;split at e
    · rename_i z;cases z
    · rename_i y x r2 z;injection z with z1 z2
      subst z2;exact go (.inr y) x z1 e
    · rename_i y x r2 z;injection z with z1 z2
      subst z2;exact go (.inl y) x z1 e
    · cases e
theorem o9 (T:Tb X nl G) (j:Nat) (hG:G[j]?=some ("dict" : Str)) (hm:X.mg "dict" = none) (ha:Z.c5 X a fa) (he:az a=true:=by rfl):Z.k7 X (.Call (.Name "dict" p) [a] [] pos) (e1 ln fa):=⟨have ha:=ha.un;by
  refine wT T j hG hm sA PyProof.Rows.boot_dict (qO T.calm) (fun H x d Q hx q=>?_) ha he;cases d with
  | list ds =>
    obtain ⟨b,vs,rfl,hb,r⟩:=dU (K:=X.K) hx;simp only [ln] at q;cases e:tY ds with
    | none=>rw [e] at q;exact q.elim
    | some kds =>
      rw [e] at q;dsimp only at q;split at q
      · rename_i hz;obtain ⟨kvs,q1,q2,q3⟩:=oy r e;refine ⟨b,vs,kvs,rfl,hb,q1,by omega,fun l hl=>q _ _ (cu hl _) ⟨?_,l,rfl,hl⟩⟩;simp only [gQ];refine ⟨l,_,rfl,bJ,cZ.kp (Kp.of (cu hl _)) _ _ (q3 [] [] ?_)⟩;simp only [cZ]
      · exact q.elim
  | _=>exact q.elim⟩
end
theorem sG (a b c:Value):argsOk "max" ⟨[a,b,c],[]⟩:=by unfold argsOk;kernel_rfl
section
variable {prog:Program} {w:World} {A:Around} {E:Value->Shared->Prop} {s:Shared}
theorem kR {a b c:Value} {Q:Value->Shared->Prop}
    (h:wpAny (model prog w) A.in1 (pyIter (.ref s.heap.objs.size)) (fun it s₂=>∃ I fp wr n P St bt,it=.ref I/\Walks prog w A.in1 I fp wr n P St/\St 0 s₂.heap/\(∀ b∈fp,b < s₂.heap.objs.size)/\0 < n/\CmpOf prog w A.in1 .Gt P bt /\
      ∀ v h' tk,P (argBest bt (n-1)) v->(∀ b o,b∉wr->s₂.heap.get? b=some o->h'.get? b=some o)->Q v { s₂ with heap:=h',toks:=tk }) E
      { s with heap:=s.heap.push { cls:=.type "tuple",data:=.seq #[a,b,c] } }) :
    wpAny (model prog w) A (call (.builtin "max") [a,b,c]) Q E s:=by
  have hname:(toString "max" ++ toString ".loop" : String) = "max.loop" := by decide
  refine call_function_tree F.kind_max F.plain_max F.entry_max (sG _ _ _) ?_;show wpAny _ A.in1 (Builtin.Builtins.bindParams "max" ["key","default"] 0 ⟨[],[]⟩>>=_) _ _ s;refine wpAny_bind (wpAny_of_eq (show Builtin.Builtins.bindParams "max" ["key","default"] 0 ⟨[],[]⟩=pure [none,none] from rfl) ?_);show wpAny _ A.in1 (newTuple [a,b,c]>>=_) _ _ s;refine wpAny_bind (wpAny_newObj_type ?_);refine wpAny_bind (wpAny_mono h (fun it s₂ h₂=>?_) fun _ _ e=>e);obtain ⟨I,fp,wr,n,P,St,bt,rfl,W,hst,hfp,hn,hcmp,hQ⟩:=h₂;refine wpAny_bind (wpAny_newObj_type ?_);have hSf:s₂.heap.objs.size∉fp:=fun hm=>Nat.lt_irrefl _ (hfp _ hm)
  rw [hname];refine wpAny_pure ⟨plainId_quiet F.plain_max_loop _,codeAny_max_loop_first W bt hcmp s₂.heap.objs.size hSf hn (W.frame _ _ _ hst fun b _ o e=>Heap.get?_push_of_some _ e) (Heap.get?_push_size _ rfl) fun v h' tk hP hk=>?_⟩;exact hQ v h' tk hP fun b o hbw e=>hk b o hbw (Nat.ne_of_lt (Heap.lt_size e)) (Heap.get?_push_of_some _ e)
noncomputable def sV (a b c:Int):Int:=if c > (if b > a then b else a) then c else if b > a then b else a
theorem kA {a b c:Int} {t u r:Tok} {Q:Value->Shared->Prop} (hh:A.handled=none)
    (h:∀ h' tk q,(∀ c o,s.heap.get? c=some o->h'.get? c=some o)->Q (.int (sV a b c) q) { s with heap:=h',toks:=tk }) :
    wpAny (model prog w) A (call (.builtin "max") [.int a t,.int b u,.int c r]) Q E s:=by
  have hT:(s.heap.push { cls:=.type "tuple",data:=.seq #[.int a t,.int b u,.int c r] }).IsTuple s.heap.objs.size (intItems #[(a,t),(b,u),(c,r)]):=⟨_,Heap.get?_push_size _ rfl,rfl,0,by simp [intItems]⟩
  refine kR (wpAny_pyIter_tuple hT ?_);have hsz:(s.heap.push { cls:=.type "tuple",data:=.seq #[.int a t,.int b u,.int c r] }).objs.size=s.heap.objs.size+1:=Heap.size_push ..;refine ⟨_,[_,s.heap.objs.size],[_],_,_,_,_,rfl,Walks.tuple (A:=A.in1) hh _ s.heap.objs.size (by rw [hsz];exact Nat.ne_of_lt (Nat.lt_succ_self _)) (intItems #[(a,t),(b,u),(c,r)]),
    ⟨⟨_,Heap.get?_push_size _ rfl,rfl,rfl⟩,hT.push _⟩,fun x hc=>?_,by simp [intItems],CmpOf.ints_gt (numAt #[(a,t),(b,u),(c,r)]) (fun _ _=>intItems_at),fun v h' tk hP hk=>?_⟩
  · show x < ((s.heap.push _).push _).objs.size;rw [Heap.size_push,hsz];rcases List.mem_cons.mp hc with rfl | hc
    · rw [hsz];exact Nat.lt_succ_self _
    · rcases List.mem_cons.mp hc with rfl | hc
      · exact Nat.lt_succ_of_lt (Nat.lt_succ_self _)
      · cases hc
  · have hold:∀ c o,s.heap.get? c=some o->h'.get? c=some o:=fun c o e=>by
      refine hk c o (fun hm=>?_) (Heap.get?_push_of_some _ (Heap.get?_push_of_some _ e));rcases List.mem_cons.mp hm with e1 | hm
      · have:=Heap.lt_size e;rw [e1,hsz] at this;exact Nat.lt_irrefl _ (Nat.lt_of_succ_lt this)
      · cases hm
    have hv:∃ q,v=Value.int (sV a b c) q:=by
      have hP':(intItems #[(a,t),(b,u),(c,r)])[argBest (fun i j=>decide (numAt #[(a,t),(b,u),(c,r)] i > numAt #[(a,t),(b,u),(c,r)] j)) 2]?=some v:=by
        have hsz2:(intItems #[(a,t),(b,u),(c,r)]).size-1=2:=by simp [intItems]
        rw [<- hsz2];exact hP
      unfold sV;by_cases hba:b > a
      · by_cases hcb:c > b
        · have e:argBest (fun i j=>decide (numAt #[(a,t),(b,u),(c,r)] i > numAt #[(a,t),(b,u),(c,r)] j)) 2=2:=by simp [argBest,numAt,hba,hcb]
          rw [e] at hP';exact ⟨r,by simpa [intItems,hba,hcb] using hP'.symm⟩
        · have e:argBest (fun i j=>decide (numAt #[(a,t),(b,u),(c,r)] i > numAt #[(a,t),(b,u),(c,r)] j)) 2=1:=by simp [argBest,numAt,hba,hcb]
          rw [e] at hP';exact ⟨u,by simpa [intItems,hba,hcb] using hP'.symm⟩
      · by_cases hca:c > a
        · have e:argBest (fun i j=>decide (numAt #[(a,t),(b,u),(c,r)] i > numAt #[(a,t),(b,u),(c,r)] j)) 2=2:=by simp [argBest,numAt,hba,hca]
          rw [e] at hP';exact ⟨r,by simpa [intItems,hba,hca] using hP'.symm⟩
        · have e:argBest (fun i j=>decide (numAt #[(a,t),(b,u),(c,r)] i > numAt #[(a,t),(b,u),(c,r)] j)) 2=0:=by simp [argBest,numAt,hba,hca]
          rw [e] at hP';exact ⟨t,by simpa [intItems,hba,hca] using hP'.symm⟩
    obtain ⟨q,rfl⟩:=hv;exact h h' tk q hold
end
section
variable {X:Cx} {nl:Nat} {G:List Str} {a b c:Expr} {fa fb fc:Fe} {p pos:Pos}
theorem rP (hc:X.calm=true):cQ X (.builtin "max") (fun xs H Q=>∃ i j k,xs=[.int i,.int j,.int k]/\Q (.int (sV i j k)) H):=by
  intro pins s σ H xs us Q I r h;obtain ⟨i,j,k,rfl,q⟩:=h;cases r with
  | cons r1 r =>
    obtain ⟨t,rfl⟩:=r1;obtain ⟨u,w',rfl,⟨t2,rfl⟩,⟨t3,rfl⟩⟩:=kM r;exact kA (I.ok.hd hc) fun h' tk z kp=>⟨.int (sV i j k),H,I.kept kp,⟨z,rfl⟩,q⟩
noncomputable def xB:List PyData->R PyData
  | [.int i,.int j,.int k]=>.ok (.int (sV i j k))
  | _=>.no
noncomputable def xw (fa fb fc:Fe):Fe:=fun ρ=>ai fa (ai fb (ai fc aB)) ρ>>=xB
theorem sY (T:Tb X nl G) (j:Nat) (hG:G[j]?=some ("max" : Str)) (hm:X.mg "max" = none) (ha:Z.c5 X a fa) (hb:Z.c5 X b fb) (hc:Z.c5 X c fc) (he:az a=true:=by rfl) (he2:az b=true:=by rfl) (he3:az c=true:=by rfl):Z.cD X (.Call (.Name "max" p) [a,b,c] [] pos) (xw fa fb fc):=⟨have ha:=ha.un;have hb:=hb.un;have hc:=hc.un;by
  have q:=T.gl ("max" : Str) (List.mem_of_getElem? hG);refine PE.imp (fE (rP T.calm) q.1 hm PyProof.Rows.boot_max (eZ ha (eZ hb (eZ hc jD he3) he2) he) q.2.2 q.2.1 (aO he) (je (by rw [List.all_cons,List.all_cons,he2,he3];rfl))) (pQ eE fun H xs ds Q ra q=>?_);unfold xB at q;split at q
  · rename_i i j k;simp only [RA] at ra;obtain ⟨v1,r1,z1,p1,v2,r2,z2,p2,v3,r3,z3,p3,z4⟩:=ra;subst z4;subst z3;subst z2;subst z1;exact ⟨i,j,k,by rw [aS p1,aS p2,aS p3],q _ H (aq.refl _) cV⟩
  · exact q.elim⟩
end
end D2
namespace HT
open PySem PySem.Spec PyProof.Rows L2
section
open PySem.SeqAt
open PySem.AutoSeq1 (wpAny_loadPart')
open PySem.MeetsSeq PySem.MeetsSeq2 PySem.MeetsSeq3
end
end HT
namespace D2
open PySem PySem.Spec PyProof.Rows L2
noncomputable def lG (H:Hp):List V->List (List Int)->Prop
  | [],rs=>rs=[]
  | v::vs,rs=>∃ a r rs',v=.ref a/\rs=r::rs'/\H a=some (.tup (r.map V.int))/\lG H vs rs'
theorem lG.len {H:Hp}:∀ {vs:List V} {rs:List (List Int)},lG H vs rs->vs.length=rs.length
  | [],rs,h=>by simp only [lG] at h;rw [h];rfl
  | v::vs,rs,h=>by
    simp only [lG] at h;obtain ⟨a,r,rs',_,rfl,_,t⟩:=h;rw [List.length_cons,List.length_cons,t.len]
section
variable {X:Cx}
theorem jQ {pins:List (Addr×Obj)} {σ:L2.St} {H:Hp} {s:Shared} (I:ay X pins σ H s) {a:Addr} {r:List Int} (ha:H a=some (.tup (r.map V.int))):∃ items,IsTup s.heap a items/\IntsAre items.toList r:=by
  obtain ⟨its,r1,p1,_⟩:=I.tuple (iA.of ha);exact ⟨its.toArray,p1,k9 r1⟩
end
theorem rN {P:Program} {w:World} {K:PySem.W.Frag} {mg:Str->Option Value} {base:Heap} {x qual:Str} {st:Stmt} {f:Addr} {fd:FuncData} {N ps:List Str} {k:Nat} {g:Fs} (F:gP K x qual st f fd) (S:aQ N ps (ak st))
    (body:∀ (cdv:Value) (A:Around) (outer:List Env) (s:Shared) (H:Hp) (E:XK),eu k (A.deeper (envOfC qual (ak st) s.heap.objs.size f cdv)) ->
      Z.kf (eN (cY P w mg) P w K mg base N qual (ak st) f cdv A outer s H E) (cI st) g):ba P w K mg base (cY P w mg) (k+1) f fd ps (dR (dX N.length g) ps.length) :=
  D2.xa F S fun cdv A outer s H E hr=>(body cdv A outer s H E hr).un
theorem aA {P:Program} {w:World} {K:PySem.W.Frag} {mg:Str->Option Value} {base:Heap} {x qual:Str} {st:Stmt} {f:Addr} {fd:FuncData} {N ps:List Str} {k:Nat} {g:Fs} {G:List Str} (F:gP K x qual st f fd) (S:aQ N ps (ak st)) (ck:rg (ak st) N G)
    (body:∀ (cdv:Value) (A:Around) (outer:List Env) (s:Shared) (H:Hp) (E:XK),eu k (A.deeper (envOfC qual (ak st) s.heap.objs.size f cdv))->Tb (eN (cY P w mg) P w K mg base N qual (ak st) f cdv A outer s H E) N.length G ->
      Z.kf (eN (cY P w mg) P w K mg base N qual (ak st) f cdv A outer s H E) (cI st) g):ba P w K mg base (cY P w mg) (k+1) f fd ps (dR (dX N.length g) ps.length) :=
  rN F S fun cdv A outer s H E hr=>body cdv A outer s H E hr (yW hr ck)
noncomputable def kx (K:PySem.W.Frag):Bool:=K.all fun p=>match p.2.cls with
  | .type n=>!(n == "list")
  | _=>true
theorem kT {α β:Type} [BEq α] {a:α} {o:β}:∀ {K:List (α×β)},K.lookup a=some o->∃ p∈K,p.2=o
  | [],e=>by cases e
  | (b,x)::r,e=>by
    rw [List.lookup_cons] at e;split at e
    · cases e;exact ⟨_,List.mem_cons_self,rfl⟩
    · obtain ⟨p,h1,h2⟩:=kT e;exact ⟨p,List.mem_cons_of_mem _ h1,h2⟩
theorem qN {K:PySem.W.Frag} (h:kx K=true) {a:Addr} {o:Obj} (e:K.lookup a=some o) (c:o.cls=.type "list"):False:=by
  obtain ⟨p,m,rfl⟩:=kT e;have q:=List.all_eq_true.mp h _ m;simp only [c] at q;simp at q
noncomputable def xQ (F:List PyData->R PyData):Prop:=∀ ns:List Int,ns.length<=63->F [.list (ns.map .int)]=.ok (.bool true)
theorem Au {l:PySem.W.OpenLaw} {q:Program} {loose:List Str} {XP:(Str->Option Value)->Heap->Prop} {YP:World->Heap->Prop} {d:DefRec} {K:Params->PySem.W.Frag} {k:Nat} {x:Str} {F:List PyData->R PyData} (hn:l.most=some 63) (hdf:d.params.defaults=[])
    (hr:eu k callerA) (hY:∀ (w:World) (h:Heap),YP w h->(K w.params).In h) (hF:xQ F)
    (G:∀ (w:World) (mg:Str->Option Value) (fa:Addr) (h:Heap),(K w.params).In h->h.Ns mainGlobals mg->mg d.name=some (.ref fa) ->
      kx (K w.params)=true/\∃ fd:FuncData,(∀ (s:Shared) (u:Value),BindsTo s fd ⟨[u],[]⟩ [(x,u)])/\∀ base:Heap,(K w.params).In base->base.Ns mainGlobals mg->ba l.prog w (K w.params) mg base (cY l.prog w mg) k fa fd [x] (dR F 1)) :
    PySem.W.WalkO q loose XP YP l.row.toRowW d [] (fun f vs=>PySem.call f vs):=by
  refine Att.attach_call hn hdf fun w s₀ s₁ mg mb fa o pm cd doc a vs ns G0 Y ho hd hcd hmg hobj hints hlen hg=>?_
  have KX:=hY w _ Y;obtain ⟨nl,fd,hb,hG⟩:=G w mg fa _ KX G0.T.g hmg;refine L2.ut (sp:=dR F 1) KX G0.T.g G0.T.b G0.T.builtins G0.T.nolimit hg hobj hints (Nat.le_trans hlen (by decide)) hr hG hb (fun H hO hS=>?_) fun H e s' ⟨_,_,_,_,_,z⟩=>z
  refine ⟨[.list (ns.map .int)],br.cons ?_ br.nil,rfl,?_⟩
  · rcases hS with (h | ⟨o,h⟩) | ⟨o,its,n,h,c,_⟩
    · rcases hO a with z | ⟨o,xs,z⟩
      · rw [z] at h;cases h
      · rw [z] at h;cases h
    · simp only [Rp];exact ⟨a,o,_,rfl,h,br.ints ns⟩
    · exact (qN nl h c).elim
  · rw [hF ns hlen];intro v H' _ r;simpa only [Rp] using r
section
variable {K:PySem.W.Frag} {x qual:Str} {st:Stmt} {f:Addr} {fd:FuncData} {p1 p2 p3 p4 p5 p6 p7:Str}
theorem xF (F:gP K x qual st f fd) (h:∀ (kV doc pm:Value) (an:Option Addr) (cdv ct:Value) (a1:Value),bindArgs (PySem.W.fnOf x qual (dC st) (cI st) (ak st) .none kV doc pm an cdv ct) ⟨[a1],[]⟩=pure [(p1,a1)]):bF K fd [p1] []:=F.binds fun kV doc pm an cdv ct us hl=>match us,hl with | [a1],_=>h kV doc pm an cdv ct a1
theorem tI (F:gP K x qual st f fd) (h:∀ (kV doc pm:Value) (an:Option Addr) (cdv ct:Value) (a1 a2:Value),bindArgs (PySem.W.fnOf x qual (dC st) (cI st) (ak st) .none kV doc pm an cdv ct) ⟨[a1,a2],[]⟩=pure [(p1,a1),(p2,a2)]):bF K fd [p1,p2] []:=F.binds fun kV doc pm an cdv ct us hl=>match us,hl with | [a1,a2],_=>h kV doc pm an cdv ct a1 a2
theorem AM (F:gP K x qual st f fd) (h:∀ (kV doc pm:Value) (an:Option Addr) (cdv ct:Value) (a1 a2 a3:Value),bindArgs (PySem.W.fnOf x qual (dC st) (cI st) (ak st) .none kV doc pm an cdv ct) ⟨[a1,a2,a3],[]⟩=pure [(p1,a1),(p2,a2),(p3,a3)]):bF K fd [p1,p2,p3] []:=F.binds fun kV doc pm an cdv ct us hl=>match us,hl with | [a1,a2,a3],_=>h kV doc pm an cdv ct a1 a2 a3
end
@[simp] theorem R.ite_bind {α β:Type} {c:Prop} [Decidable c] (x y:R α) (k:α->R β):((if c then x else y)>>=k)=if c then x>>=k else y>>=k:=by
  by_cases h:c
  · rw [if_pos h,if_pos h]
  · rw [if_neg h,if_neg h]
@[simp] theorem fW {α:Type} (a:α):ma (R.ok a)=.ok a:=(rfl)
noncomputable def uQ:oP->R PyData
  | .rt d=>.ok d
  | .nx _=>.ok .none
  | _=>.no
theorem cF (n:Nat) (g:Fs) (ds:List PyData):dX n g ds=(g (ds.map cg.val++List.replicate (n-ds.length) .non)>>=uQ):=by
  unfold dX;congr 1
@[simp] theorem Ap (d:PyData):uQ (.rt d)=.ok d:=(rfl)
section
variable (f g h:Fe) (ρ:aI) (i j:Nat) (t u:aI->R Bool) (a b:Fs) (fs:aI->R (List PyData)) (F:List PyData->R PyData) (d e:PyData)
@[simp] theorem bW:eC d ρ=.ok d:=(rfl)
@[simp] theorem aC:ag 0 (.val d::ρ)=.ok d:=(rfl)
@[simp] theorem aW (c:cg):ag (i+1) (c::ρ)=ag i ρ:=(rfl)
@[simp] theorem xp:kD 0 (.own d::ρ)=.ok d:=(rfl)
@[simp] theorem wz (c:cg):kD (i+1) (c::ρ)=kD i ρ:=(rfl)
@[simp] theorem eO (k:PyData->R PyData):e1 k f ρ=(f ρ>>=fun x=>k x):=(rfl)
@[simp] theorem bR (k:PyData->PyData->R PyData):e2 k f g ρ=(f ρ>>=fun x=>g ρ>>=fun y=>k x y):=(rfl)
@[simp] theorem fy:tE f ρ=(f ρ>>=pf):=(rfl)
@[simp] theorem eI (k:Bool):pf (.bool k)=.ok k:=(rfl)
@[simp] theorem mY:g9 t u ρ=(t ρ>>=fun k=>if k=true then .ok true else u ρ):=(rfl)
@[simp] theorem lB:cG t ρ=(t ρ>>=fun k=>.ok (!k)):=(rfl)
@[simp] theorem nz:iu f g ρ=(f ρ>>=fun d=>pf d>>=fun k=>if k=true then g ρ else .ok (.bool false)):=(rfl)
@[simp] theorem yO:AW f g ρ=(f ρ>>=fun d=>pf d>>=fun k=>if k=true then .ok (.bool true) else g ρ):=(rfl)
@[simp] theorem wC:qe f ρ=(f ρ>>=fun d=>pf d>>=fun k=>.ok (.bool (!k))):=(rfl)
@[simp] theorem bM:aB ρ=.ok []:=(rfl)
@[simp] theorem bA:ai f fs ρ=(f ρ>>=fun d=>fs ρ>>=fun ds=>.ok (d::ds)):=(rfl)
@[simp] theorem cA:aJ F fs ρ=(fs ρ>>=F):=(rfl)
@[simp] theorem zm (p q:PyData->PyData->R PyData):fB p q f g h ρ=(f ρ>>=fun x=>g ρ>>=fun y=>p x y>>=fun d=>pf d>>=fun k=>if k=true then h ρ>>=fun z=>q y z else .ok (.bool false)):=(rfl)
@[simp] theorem rc:lC fs ρ=(fs ρ>>=fun ds=>if ds.length<=sizeLine then .ok (.tuple ds) else .no):=(rfl)
@[simp] theorem v8:lj fs ρ=(fs ρ>>=fun ds=>if ds.length<=sizeLine then .ok (.list ds) else .no):=(rfl)
@[simp] theorem dt:dJ ρ=.ok none:=(rfl)
@[simp] theorem c9:cH f ρ=(f ρ>>=fun d=>As d>>=fun i=>.ok (some i)):=(rfl)
@[simp] theorem il (k:Int):As (.int k)=.ok k:=(rfl)
@[simp] theorem fq (lo hi:Fo):kw f lo hi ρ=(f ρ>>=fun d=>lo ρ>>=fun l=>hi ρ>>=fun u=>vM d l u):=(rfl)
@[simp] theorem z5:bX ρ=.ok (.nx ρ):=(rfl)
@[simp] theorem jp:aU a b ρ=(a ρ>>=qX b):=(rfl)
@[simp] theorem Aj:qX b (.nx ρ)=b ρ:=(rfl)
@[simp] theorem Aa:qX b (.rt d)=.ok (.rt d):=(rfl)
@[simp] theorem dH:iE t a b ρ=(t ρ>>=fun k=>if k=true then a ρ else b ρ):=(rfl)
@[simp] theorem dB:cq f ρ=(f ρ>>=fun d=>.ok (.rt d)):=(rfl)
@[simp] theorem bH:cm i f ρ=(f ρ>>=fun d=>.ok (.nx (ρ.set i (.val d)))):=(rfl)
@[simp] theorem Al:i6 i f ρ=(f ρ>>=fun d=>.ok (.nx (ρ.set i (.own d)))):=(rfl)
@[simp] theorem fK:gK f ρ=(f ρ>>=tU):=(rfl)
@[simp] theorem l8:gI fs ρ=(fs ρ>>=ki):=(rfl)
@[simp] theorem kH (ds:List PyData):tU (.tuple ds)=.ok ds:=(rfl)
@[simp] theorem pV (ds:List PyData):tU (.list ds)=.ok ds:=(rfl)
@[simp] theorem nL:nW a ρ=ma (a ρ):=(rfl)
theorem iB (it:aI->R (List PyData)) (bb:PyData->aI->Option aI):nN it bb a ρ=(it ρ>>=fun ds=>gf bb a ds ρ):=rfl
@[simp] theorem fZ (bb:PyData->aI->Option aI):gf bb a [] ρ=.ok (.nx ρ):=by unfold gf;rfl
noncomputable def tS (k:aI->R oP):oP->R oP
  | .nx ρ=>k ρ
  | .ct ρ=>k ρ
  | .bk ρ=>.ok (.nx ρ)
  | .rt r=>.ok (.rt r)
@[simp] theorem ud (k:aI->R oP):tS k (.nx ρ)=k ρ:=(rfl)
@[simp] theorem zO (k:aI->R oP):tS k (.rt d)=.ok (.rt d):=(rfl)
theorem dN (i:Nat) (ds:List PyData):gf (bn i) a (d::ds) ρ=(a (ρ.set i (.val d))>>=tS (gf (bn i) a ds)):=by
  rw [gf];show (a (ρ.set i (.val d))>>=_)=_;congr 1
theorem aD {a b:Fs} {ρ ρ':aI} (h:a ρ=.ok (.nx ρ')):aU a b ρ=b ρ':=by rw [jp,h];rfl
theorem iX {a b:Fs} {ρ:aI} {d:PyData} (h:a ρ=.ok (.rt d)):aU a b ρ=.ok (.rt d):=by rw [jp,h];rfl
theorem jt {n:Nat} {g:Fs} {ds:List PyData} {d:PyData} (h:g (ds.map cg.val++List.replicate (n-ds.length) .non)=.ok (.rt d)):dX n g ds=.ok d:=by rw [cF,h];rfl
theorem iC (bb:PyData->aI->Option aI):cw bb t f ρ []=.ok []:=by unfold cw;rfl
theorem dE (i:Nat) (ds:List PyData):cw (bn i) t f ρ (d::ds)=(t (ρ.set i (.val d))>>=fun k=>if k=true then f (ρ.set i (.val d))>>=fun x=>cw (bn i) t f ρ ds>>=fun xs=>.ok (x::xs) else cw (bn i) t f ρ ds):=by
  rw [cw];rfl
theorem vC:ou f g ρ=(f ρ>>=fun x=>tm x>>=fun _=>g ρ>>=fun y=>l7 x y):=(rfl)
theorem xR {kvs:List (PyData×PyData)} (hi:gN kvs=false):tm (.dict kvs)=.ok ():=by
  show (if gN kvs=true then R.no else R.ok ())=_;rw [hi];rfl
theorem xj {kvs:List (PyData×PyData)} (e:f ρ=.ok (.dict kvs)) (hi:gN kvs=false):ou f g ρ=(g ρ>>=fun y=>l7 (.dict kvs) y):=by rw [vC,e,R.ok_bind,xR hi];rfl
noncomputable def zu:R (List PyData)->R PyData
  | .ok xs=>.ok (.list xs)
  | .ex c=>.ex c
  | .no=>.no
@[simp] theorem rl (xs:List PyData):zu (.ok xs)=.ok (.list xs):=(rfl)
theorem dS (it:aI->R (List PyData)) (own:Nat) (fr:List Nat) (bb:PyData->aI->Option aI):cR it own fr bb t f ρ=(ma (it ρ)>>=fun ds=>if ds.length<=sizeLine then zu (cw bb t f (av own fr ρ) ds) else .no):=by
  unfold cR;congr 1
theorem mq (i:Nat) (G:PyData->PyData):∀ (ds:List PyData),(∀ d∈ds,f (ρ.set i (.val d))=.ok (G d))->cw (bn i) (fun _=>.ok true) f ρ ds=.ok (ds.map G)
  | [],_=>iC ..
  | d::ds,hh=>by
    rw [dE,hh d List.mem_cons_self,mq i G ds fun x hx=>hh x (List.mem_cons_of_mem _ hx)];rfl
theorem jm (i:Nat) (p:PyData->Bool) (G:PyData->PyData):∀ (ds:List PyData),(∀ d∈ds,t (ρ.set i (.val d))=.ok (p d))->(∀ d∈ds,p d=true->f (ρ.set i (.val d))=.ok (G d))->cw (bn i) t f ρ ds=.ok ((ds.filter p).map G)
  | [],_,_=>iC ..
  | d::ds,hh,hg=>by
    rw [dE,hh d List.mem_cons_self,jm i p G ds (fun x hx=>hh x (List.mem_cons_of_mem _ hx)) fun x hx=>hg x (List.mem_cons_of_mem _ hx)];cases hp:p d with
    | true=>rw [List.filter_cons_of_pos hp,R.ok_bind,if_pos rfl,hg d List.mem_cons_self hp];rfl
    | false=>rw [List.filter_cons_of_neg (by rw [hp];simp)];rfl
end
section
variable (i j:Int) (xs ys:List PyData)
@[simp] theorem uU:nK (.int i)=.ok (.int (-i)):=(rfl)
@[simp] theorem fx:aY (.int i) (.int j)=.ok (.int (i+j)):=(rfl)
@[simp] theorem yw:aY (.list xs) (.list ys)=if xs.length+ys.length<=sizeLine then .ok (.list (xs++ys)) else .no:=(rfl)
@[simp] theorem ze:mW (.int i) (.int j)=.ok (.int (i-j)):=(rfl)
@[simp] theorem gL:dF (.int i) (.int j)=if 0 < j then .ok (.int (i%j)) else .no:=(rfl)
@[simp] theorem jL:gk (.int i) (.int j)=if 0 < j/\j < 1073741824 then .ok (.int (i / j)) else .no:=(rfl)
theorem vh:eP (.int i) (.int j)=if (-(2 ^ 64) < i/\i < 2 ^ 64)\/(-(2 ^ 64) < j/\j < 2 ^ 64) then .ok (.int (i*j)) else .no:=rfl
@[simp] theorem qH (p:Int->Int->Bool):fF p (.int i) (.int j)=.ok (.bool (p i j)):=(rfl)
@[simp] theorem AQ:zh (.int i) (.int j)=.ok (.int (if j < i then j else i)):=(rfl)
@[simp] theorem AO:yc (.int i) (.int j)=.ok (.int (if j > i then j else i)):=(rfl)
@[simp] theorem A6:eL (.tuple xs)=.ok (.int xs.length):=(rfl)
@[simp] theorem vg:eL (.list xs)=.ok (.int xs.length):=(rfl)
@[simp] theorem uf:iP (.list xs)=.ok (.tuple xs):=(rfl)
@[simp] theorem AX (k:Bool):mM (.bool k)=.ok (.int (if k then 1 else 0)):=(rfl)
@[simp] theorem rM (lo hi:Option Int):vM (.list xs) lo hi=.ok (.list (iH xs lo hi)):=(rfl)
theorem mO {α:Type} {xs:List α} {i:Int} (h0:0<=i) (h1:i < xs.length):L2.atI xs i=some (xs[i.toNat]'(by omega)):=by
  unfold L2.atI vK;rw [if_pos h0,if_pos h1];exact List.getElem?_eq_getElem (by omega)
theorem A7 {xs:List PyData} {i:Int} (h0:0<=i) (h1:i < xs.length):eG (.tuple xs) (.int i)=.ok (xs[i.toNat]'(by omega)):=by
  show (match L2.atI xs i with | some d=>R.ok d | none=>.no)=_;rw [mO h0 h1]
theorem qU {xs:List PyData} {i:Int} (h0:0<=i) (h1:i < xs.length):eG (.list xs) (.int i)=.ok (xs[i.toNat]'(by omega)):=by
  show (match L2.atI xs i with | some d=>R.ok d | none=>.no)=_;rw [mO h0 h1]
theorem rE:PyData.eqv (.int i) (.int j)=decide (i=j):=by
  simp only [PyData.eqv];by_cases h:i=j
  · subst h;simp
  · simp [h]
theorem iL:jP (.int i) (.int j)=.ok (.bool (decide (i=j))):=by
  unfold jP;rw [if_pos (by rfl),rE]
theorem gO:pP (.int i) (.int j)=.ok (.bool (!decide (i=j))):=by
  unfold pP;rw [if_pos (by rfl),rE]
end
end D2
namespace G
open PySem PySem.Spec PyProof.Rows L2 D2
noncomputable def AF:PyData->Bool
  | .int _=>true
  | _=>false
noncomputable def noD:PyData->Prop
  | .dict _=>False
  | _=>True
noncomputable def iW (d:PyData) (lo hi:Int):Bool:=match d with
  | .int i=>decide (lo<=i)&&decide (i<=hi)
  | _=>false
noncomputable def dA (c:Int):Int->List PyData->Bool
  | _,[]=>true
  | l,d::r=>match d with
    | .int i=>(decide (l<=i)&&decide (i < c))&&dA c (i+1) r
    | _=>false
@[simp] noncomputable def xA (c:Int):PyData->Bool
  | .tuple ds=>dA c 0 ds
  | _=>false
noncomputable abbrev cN (d:PyData):Prop:=d.canLay0=true
theorem cN.noD {d:PyData} (h:cN d):noD d:=by
  cases d <;> first | trivial | (simp [cN,PyData.canLay0] at h)
theorem ng:∀ {ds:List PyData},PyData.canLayAll0 ds=true->∀ x∈ds,cN x
  | [],_,x,hx=>by cases hx
  | d::ds,h,x,hx=>by
    have h':d.canLay0=true/\PyData.canLayAll0 ds=true:=by simpa [PyData.canLayAll0] using h
    rcases List.mem_cons.mp hx with rfl | hx
    · exact h'.1
    · exact ng h'.2 x hx
theorem jv:∀ {ds:List PyData},(∀ x∈ds,cN x)->PyData.canLayAll0 ds=true
  | [],_=>by simp [PyData.canLayAll0]
  | d::ds,h=>by
    have h1:=h d List.mem_cons_self;have h2:=jv fun x hx=>h x (List.mem_cons_of_mem _ hx)
    simp only [PyData.canLayAll0,Bool.and_eq_true];exact ⟨h1,h2⟩
theorem bV {ds:List PyData}:cN (.tuple ds)<->∀ x∈ds,cN x:=by
  constructor
  · intro h;exact ng (by simpa [cN,PyData.canLay0] using h)
  · intro h;simp only [cN,PyData.canLay0];exact jv h
theorem sM {ds:List PyData}:cN (.list ds)<->∀ x∈ds,cN x:=by
  constructor
  · intro h;exact ng (by simpa [cN,PyData.canLay0] using h)
  · intro h;simp only [cN,PyData.canLay0];exact jv h
theorem gi (i:Int):cN (.int i):=by simp [cN,PyData.canLay0]
theorem l0:cN .none:=by simp [cN,PyData.canLay0]
theorem pd (c:Int):∀ (ds:List PyData) (l:Int),dA c l ds=true->ds=[]\/l+(ds.length:Int)<=c
  | [],l,_=>.inl rfl
  | d::ds,l,h=>by
    right;cases d with
    | int i =>
      simp only [dA,Bool.and_eq_true,decide_eq_true_eq] at h;obtain ⟨⟨h1,h2⟩,h3⟩:=h;rcases pd c ds (i+1) h3 with rfl | z
      · simp;omega
      · rw [List.length_cons];omega
    | _=>cases h
noncomputable def hV (c:Int):PyData->Bool
  | .tuple ds=>dA c 0 ds&&!ds.isEmpty
  | _=>false
noncomputable def bU (c:Int):PyData->Bool
  | .tuple [w,m,g,s]=>iW w 0 1&&(iW m 0 12&&(iW g (-20) 20&&hV c s))
  | _=>false
noncomputable def cr:PyData->Bool
  | .tuple ds=>(decide (1<=ds.length)&&decide (ds.length<=24))&&ds.all (bU ds.length)
  | _=>false
theorem qR (p:PyData->Bool):∀ ds:List PyData,D2.og (ds.map fun d=>.bool (p d))=some (ds.all p)
  | []=>rfl
  | d::ds=>by
    simp only [List.map_cons,D2.og,qR p ds,List.all_cons,Option.map_some]
theorem iz {n:Nat} (h:n<=1000):n<=sizeLine:=Nat.le_trans h (by decide)
theorem uP {xs:List PyData} (hg:∀ x∈xs,cN x):jP (.list xs) (.list [])=.ok (.bool xs.isEmpty):=by
  unfold jP;have ho:kg (.list xs) (.list [])=true:=by
    unfold kg;have h1:(PyData.list xs).canLay0=true:=sM.mpr hg;rw [h1];simp [PyData.canLay0,PyData.canLayAll0,PyData.depth,PyData.depthAll]
  rw [if_pos ho];cases xs <;> simp [PyData.eqv,PyData.eqvAll]
theorem j9 {α:Type} (p:α->Bool):∀ xs:List α,(xs.filter fun x=>!p x).isEmpty=xs.all p
  | []=>rfl
  | x::xs=>by
    cases hp:p x with
    | true=>rw [List.filter_cons_of_neg (by rw [hp];simp),List.all_cons,hp,j9 p xs];rfl
    | false=>rw [List.filter_cons_of_pos (by rw [hp];rfl),List.all_cons,hp];rfl
noncomputable abbrev rA (ns:List Int):PyData:=.list (ns.map .int)
theorem gv {i j:Int} (h:(-(2 ^ 64) < i/\i < 2 ^ 64)\/(-(2 ^ 64) < j/\j < 2 ^ 64)):eP (.int i) (.int j)=.ok (.int (i*j)):=by rw [vh,if_pos h]
structure qu (c:Int) (n:Nat) (kvs:List (PyData×PyData)):Prop where
  ex:∃ ns:List Int,kvs.map (·.1)=ns.map PyData.int/\(∀ x∈ns,0<=x/\x < c)/\ns.length<=n/\(n=0\/ns≠[])/\ns.Nodup
theorem qu.put {c:Int} {n:Nat} {kvs:List (PyData×PyData)} (h:qu c n kvs) {k:Int} (h0:0<=k) (h1:k < c) (v:PyData):qu c (n+1) (kK kvs (.int k) v):=by
  obtain ⟨ns,e,hb,hl,hn,nd⟩:=h.ex;have hany:(kvs.any fun kv=>dY kv.1 (.int k))=ns.any fun i=>decide (i=k):=by
    have:(kvs.any fun kv=>dY kv.1 (.int k))=(kvs.map (·.1)).any fun d=>dY d (.int k):=by rw [List.any_map];rfl
    rw [this,e,List.any_map];rfl
  unfold kK;rw [hany];by_cases hm:k∈ns
  · have ha:(ns.any fun i=>decide (i=k))=true:=by simp;exact hm
    rw [if_pos ha];refine ⟨ns,?_,hb,by omega,.inr (by intro z;rw [z] at hm;cases hm),nd⟩;rw [<- e,List.map_map];apply List.map_congr_left;intro kv _;show (if dY kv.1 (.int k)=true then (kv.1,v) else kv).1=kv.1;split <;> rfl
  · have ha:¬ (ns.any fun i=>decide (i=k))=true:=by simp;exact hm
    rw [if_neg ha];refine ⟨ns++[k],by rw [List.map_append,List.map_append,e];rfl,fun x hx=>?_,by simp;omega,.inr (by simp),?_⟩
    · rcases List.mem_append.mp hx with z | z
      · exact hb x z
      · simp at z;subst z;exact ⟨h0,h1⟩
    · rw [List.nodup_append];refine ⟨nd,by simp,fun a hma b hb'=>?_⟩;simp at hb';subst hb';rintro rfl;exact hm hma
theorem qu.len {c:Int} {n:Nat} {kvs:List (PyData×PyData)} (h:qu c n kvs):kvs.length<=n:=by
  obtain ⟨ns,e,_,hl,_⟩:=h.ex;have:=congrArg List.length e;simp at this;omega
theorem pB (lo:Int) (n:Nat):∀ d∈bG lo n,∃ k,d=.int k:=fun d hd=>by
  unfold bG at hd;obtain ⟨k,_,rfl⟩:=List.mem_map.mp hd;exact ⟨_,rfl⟩
theorem gG (lo:Int) (n:Nat):(bG lo n).length=n:=by unfold bG;simp
theorem wW {xs:List PyData} {i:Int} (h0:0<=i) (h1:i < xs.length):∃ x∈xs,eG (.list xs) (.int i)=.ok x:=⟨_,List.getElem_mem _,qU h0 h1⟩
theorem wt {ds:List PyData} {lo hi:Option Int}:∀ x∈D2.iH ds lo hi,x∈ds:=fun x hx=>List.mem_of_mem_drop (List.mem_of_mem_take hx)
theorem vA {x:PyData} (hg:cN x):pP x (.tuple [])=.ok (.bool (match x with | .tuple []=>false | _=>true)):=by
  unfold pP;have ho:kg x (.tuple [])=true:=by
    unfold kg;have h1:x.canLay0=true:=hg;rw [h1];simp [PyData.canLay0,PyData.canLayAll0,PyData.depth,PyData.depthAll];omega
  rw [if_pos ho];cases x with
  | tuple ds=>cases ds <;> simp [PyData.eqv,PyData.eqvAll]
  | dict k=>exact hg.noD.elim
  | _=>simp [PyData.eqv]
structure P4 where
  w:Int
  m:Int
  g:Int
  ns:List Int
noncomputable def P4.d (p:P4):PyData:=.tuple [.int p.w,.int p.m,.int p.g,.tuple (p.ns.map .int)]
structure Pl (c hi:Int) (p:P4):Prop where
  w0:0<=p.w
  w1:p.w<=1
  m0:0<=p.m
  m1:p.m<=hi
  g0:-20<=p.g
  g1:p.g<=20
  ne:p.ns≠[]
  so:p.ns.Pairwise (· < ·)
  inn:∀ x∈p.ns,0<=x/\x < c
theorem i4:∀ (ns:List Int) (l c:Int),ns.Pairwise (· < ·)->(∀ x∈ns,l<=x/\x < c)->ns=[]\/l+(ns.length:Int)<=c
  | [],_,_,_,_=>.inl rfl
  | x::r,l,c,hp,hb=>by
    right;obtain ⟨h1,h2⟩:=List.pairwise_cons.mp hp;have hx:=hb x List.mem_cons_self;rcases i4 r (x+1) c h2 (fun y hy=>⟨by have:=h1 y hy;omega,(hb y (List.mem_cons_of_mem _ hy)).2⟩) with rfl | z
    · simp;omega
    · rw [List.length_cons];omega
theorem Pl.len {c hi:Int} {p:P4} (h:Pl c hi p):(p.ns.length:Int)<=c:=by
  rcases i4 p.ns 0 c h.so h.inn with z | z
  · exact absurd z h.ne
  · omega
noncomputable abbrev gD (ps:List P4):PyData:=.tuple (ps.map P4.d)
theorem sd {ns:List Int} (h:ns.Pairwise (·<=·)) (nd:ns.Nodup):ns.Pairwise (· < ·):=by
  have:=h.and nd;exact this.imp fun ⟨a,b⟩=>by omega
end G
noncomputable section
namespace G
open PySem PySem.Spec PyProof.Rows L2 D2
noncomputable def fT:Fs :=
  (aU (cm 2 (eR (ag 0) (eC (.str (PySem.Str.ofString " "))))) (aU (cm 3 (e2 dF (e2 gk (ag 1) (eC (.int 8))) (e1 eL (ag 2)))) (aU (cm 4 (e2 dF (e2 gk (ag 1) (eC (.int 8))) (e2 aY (e1 eL (ag 0)) (eC (.int 1))))) (aU (cm 5 (e2 dF (ag 1) (eC (.int 8)))) (aU (iE (tE (e2 (jP) (e2 dF (e2 gk (ag 1) (eC (.int 8))) (eC (.int 6))) (eC (.int 1)))) (cm 3 (eC (.int 1))) bX) (aU (iE (tE (e2 (jP) (ag 5) (eC (.int 0)))) (cq (e2 aY (kw (ag 0) dJ (cH (ag 4))) (kw (ag 0) (cH (e2 aY (ag 4) (eC (.int 1)))) dJ))) bX) (aU (iE (tE (e2 (fF qg) (ag 5) (eC (.int 3)))) (aU (cm 6 (e2 eG (eC (.str (PySem.Str.ofString " 0129-+aE\n\t_"))) (e2 dF (e2 gk (ag 1) (eC (.int 7))) (eC (.int 12))))) (cq (e2 aY (e2 aY (kw (ag 0) dJ (cH (ag 4))) (ag 6)) (kw (ag 0) (cH (e2 mW (e2 aY (ag 4) (ag 5)) (eC (.int 1)))) dJ)))) bX) (aU (iE (tE (e2 (jP) (ag 5) (eC (.int 3)))) (cq (e1 (eJ (PySem.Str.ofString " ")) (e2 aY (kw (ag 2) dJ (cH (ag 3))) (kw (ag 2) (cH (e2 aY (ag 3) (eC (.int 1)))) dJ)))) bX) (aU (iE (tE (e2 (jP) (ag 5) (eC (.int 4)))) (cq (e1 (eJ (PySem.Str.ofString " ")) (e2 aY (e2 aY (kw (ag 2) dJ (cH (ag 3))) (kw (ag 2) (cH (ag 3)) (cH (e2 aY (ag 3) (eC (.int 1)))))) (kw (ag 2) (cH (ag 3)) dJ)))) bX) (aU (iE (tE (e2 (jP) (ag 5) (eC (.int 5)))) (aU (cm 7 (e2 aY (kw (ag 2) (cH (e2 aY (ag 3) (eC (.int 1)))) (cH (e2 aY (ag 3) (eC (.int 2))))) (kw (ag 2) (cH (ag 3)) (cH (e2 aY (ag 3) (eC (.int 1))))))) (cq (e1 (eJ (PySem.Str.ofString " ")) (e2 aY (e2 aY (kw (ag 2) dJ (cH (ag 3))) (ag 7)) (kw (ag 2) (cH (e2 aY (ag 3) (eC (.int 2)))) dJ))))) bX) (aU (cm 8 (eR (eC (.str (PySem.Str.ofString "ground place to end 0 1 2 -1 00 -0 12 13 20 21 24 100 007 x"))) (eC (.str (PySem.Str.ofString " "))))) (cq (e1 (eJ (PySem.Str.ofString " ")) (e2 aY (e2 aY (kw (ag 2) dJ (cH (ag 3))) (lj (ai (e2 eG (ag 8) (e2 dF (e2 gk (ag 1) (eC (.int 7))) (eC (.int 18)))) aB))) (kw (ag 2) (cH (e2 aY (ag 3) (eC (.int 1)))) dJ)))))))))))))))
noncomputable def bu:List PyData->R PyData:=dX 9 (fT)
noncomputable def ii:Fs :=
  (aU (cm 2 (e2 dF (e2 eP (e2 aY (e2 aY (ag 0) (e2 eP (eC (.int 104729)) (ag 1))) (eC (.int 17))) (eC (.int 69621))) (eC (.int 2147483647)))) (cq (e2 dF (e2 aY (e2 aY (e2 eP (ag 2) (ag 2)) (e2 eP (eC (.int 3)) (ag 2))) (ag 1)) (eC (.int 2147483629)))))
noncomputable def aw:List PyData->R PyData:=dX 3 (ii)
noncomputable def le:Fs :=
  (cq (iu (e1 (bT .int) (ag 0)) (qe (e1 (bT .bool) (ag 0)))))
noncomputable def c7:List PyData->R PyData:=dX 1 (le)
noncomputable def gE (c7:List PyData->R PyData):Fs :=
  (cq (iu (aJ c7 (ai (ag 0) aB)) (fB (fF xN) (fF xN) (ag 1) (ag 0) (ag 2))))
noncomputable def aG:List PyData->R PyData:=dX 3 (gE c7)
noncomputable def iT (aG:List PyData->R PyData):Fs :=
  (aU (iE (cG (tE (e1 (bT .tuple) (ag 0)))) (cq (eC (.bool false))) bX) (aU (cm 2 (eC (.int 0))) (aU (nW (nN (gK (ag 0)) (bn 3) (aU (iE (cG (tE (aJ aG (ai (ag 3) (ai (ag 2) (ai (e2 mW (ag 1) (eC (.int 1))) aB)))))) (cq (eC (.bool false))) bX) (cm 2 (e2 aY (ag 3) (eC (.int 1))))))) (cq (eC (.bool true))))))
noncomputable def cM:List PyData->R PyData:=dX 4 (iT aG)
noncomputable def gX (cM:List PyData->R PyData):Fs :=
  (cq (iu (aJ cM (ai (ag 0) (ai (ag 1) aB))) (fB (fF xN) (fF xN) (eC (.int 1)) (e1 eL (ag 0)) (eC (.int 24)))))
noncomputable def cB:List PyData->R PyData:=dX 2 (gX cM)
noncomputable def iQ (cB:List PyData->R PyData) (aG:List PyData->R PyData):Fs :=
  (aU (iE (g9 (cG (tE (e1 (bT .tuple) (ag 0)))) (tE (e2 (pP) (e1 eL (ag 0)) (eC (.int 4))))) (cq (eC (.bool false))) bX) (aU (iE (g9 (cG (tE (aJ aG (ai (e2 eG (ag 0) (eC (.int 0))) (ai (eC (.int 0)) (ai (eC (.int 1)) aB)))))) (cG (tE (aJ aG (ai (e2 eG (ag 0) (eC (.int 1))) (ai (eC (.int 0)) (ai (eC (.int 12)) aB))))))) (cq (eC (.bool false))) bX) (cq (iu (aJ aG (ai (e2 eG (ag 0) (eC (.int 2))) (ai (e1 nK (eC (.int 20))) (ai (eC (.int 20)) aB)))) (aJ cB (ai (e2 eG (ag 0) (eC (.int 3))) (ai (ag 1) aB)))))))
noncomputable def cE:List PyData->R PyData:=dX 2 (iQ cB aG)
noncomputable def ik (cE:List PyData->R PyData):Fs :=
  (aU (iE (g9 (cG (tE (e1 (bT .tuple) (ag 0)))) (cG (tE (fB (fF xN) (fF xN) (eC (.int 1)) (e1 eL (ag 0)) (eC (.int 24)))))) (cq (eC (.bool false))) bX) (cq (e1 wF (cR (gK (ag 0)) 1 [0] (bn 0) (fun _=>.ok true) (aJ cE (ai (ag 0) (ai (e1 eL (ag 1)) aB)))))))
noncomputable def aL:List PyData->R PyData:=dX 1 (ik cE)
noncomputable def dI:Fs :=
  (aU (cm 0 (xw (eC (.int 24)) (eC (.int 12)) (eC (.int 20)))) (cq (e1 ln (cR (gI (ai (e1 nK (eC (.int 20))) (ai (e2 aY (ag 0) (eC (.int 1))) aB))) 1 [] (bn 0) (fun _=>.ok true) (lC (ai (e1 gB (ag 0)) (ai (ag 0) aB)))))))
noncomputable def aR:List PyData->R PyData:=dX 1 (dI)
noncomputable def di:Fs :=
  (aU (iE (tE (e2 (fF qg) (e1 eL (ag 0)) (eC (.int 6)))) (gr (PySem.Str.ofString "NoText") (eC (.str (PySem.Str.ofString "a place has too few words")))) bX) (aU (cm 2 (cR (gK (ag 0)) 1 [1] (bn 0) (fun _=>.ok true) (ou (ag 1) (ag 0)))) (cq (lC (ai (e2 eG (ag 2) (eC (.int 0))) (ai (e2 eG (ag 2) (eC (.int 1))) (ai (e2 eG (ag 2) (eC (.int 2))) (ai (e1 iP (kw (ag 2) (cH (e2 aY (eC (.int 3)) (eC (.int 1)))) (cH (e1 nK (eC (.int 1)))))) aB))))))))
noncomputable def aE:List PyData->R PyData:=dX 3 (di)
noncomputable def eh:Fs :=
  (aU (i6 1 (lj (ai (eC (.str (PySem.Str.ofString "place"))) (ai (e1 gB (e2 eG (ag 0) (eC (.int 0)))) (ai (e1 gB (e2 eG (ag 0) (eC (.int 1)))) (ai (e1 gB (e2 eG (ag 0) (eC (.int 2)))) (ai (eC (.str (PySem.Str.ofString "to"))) aB))))))) (aU (fO 1 (cR (gK (e2 eG (ag 0) (eC (.int 3)))) 1 [] (bn 0) (fun _=>.ok true) (e1 gB (ag 0)))) (aU (kj 1 (eC (.str (PySem.Str.ofString "end")))) (vp 1))))
noncomputable def aM:List PyData->R PyData:=dX 2 (eh)
noncomputable def jO (aL:List PyData->R PyData) (aM:List PyData->R PyData):Fs :=
  (aU (iE (cG (tE (aJ aL (ai (ag 0) aB)))) (gr (PySem.Str.ofString "NoGround") (eC (.str (PySem.Str.ofString "what is no ground is not written")))) bX) (aU (i6 1 (lj (ai (eC (.str (PySem.Str.ofString "ground"))) (ai (e1 gB (e1 eL (ag 0))) aB)))) (aU (nW (nN (gK (ag 0)) (bn 2) (fO 1 (aJ aM (ai (ag 2) aB))))) (cq (e1 (eJ (PySem.Str.ofString " ")) (kD 1))))))
noncomputable def cy:List PyData->R PyData:=dX 3 (jO aL aM)
noncomputable def nC (aL:List PyData->R PyData) (aR:List PyData->R PyData) (aE:List PyData->R PyData) (cy:List PyData->R PyData):Fs :=
  (aU (cm 1 (aJ aR aB)) (aU (cm 2 (kw (eR (ag 0) (eC (.str (PySem.Str.ofString " place ")))) (cH (eC (.int 1))) dJ)) (aU (cm 3 (e1 iP (cR (gK (ag 2)) 1 [1] (bn 0) (fun _=>.ok true) (aJ aE (ai (eR (ag 0) (eC (.str (PySem.Str.ofString " ")))) (ai (ag 1) aB)))))) (aU (iE (g9 (cG (tE (aJ aL (ai (ag 3) aB)))) (tE (e2 (pP) (aJ cy (ai (ag 3) aB)) (ag 0)))) (gr (PySem.Str.ofString "NoText") (eC (.str (PySem.Str.ofString "the text is no ground's writing")))) bX) (cq (ag 3))))))
noncomputable def dm:List PyData->R PyData:=dX 4 (nC aL aR aE cy)
noncomputable def fG (dm:List PyData->R PyData):Fs :=
  (aU (oV 1 dm (ai (ag 0) aB) ((PySem.Str.ofString "NoText",(fun p ρ=>(iu (k8 2 p) (iu (k8 2 p) (qe (lI 2 p)))) (ρ.set 2 (.exc p))>>=fun d=>(e2 eG (lj (ai (lC aB) (ai (eC .none) aB))) (e1 mM (ag 3))) ((ρ.set 2 (.exc p)).set 3 (.val d))))::[])) (cq (e2 eG (lj (ai (ag 1) (ai (lC aB) aB))) (e1 mM (e2 (sO) (ag 1) (eC .none))))))
noncomputable def bE:List PyData->R PyData:=dX 4 (fG dm)
noncomputable def fV:Fs :=
  (aU (iE (tE (e2 (fF qg) (ag 1) (e1 eL (ag 0)))) (cq (e2 eG (ag 0) (ag 1))) bX) (cq (eC (.int 0))))
noncomputable def bN:List PyData->R PyData:=dX 2 (fV)
noncomputable def io (bN:List PyData->R PyData):Fs :=
  (aU (cm 2 (e2 dF (e2 eP (e2 aY (e2 aY (aJ bN (ai (ag 0) (ai (ag 1) aB))) (e2 eP (eC (.int 7919)) (ag 1))) (eC (.int 1))) (eC (.int 48271))) (eC (.int 2147483647)))) (cq (e2 dF (e2 aY (e2 aY (e2 eP (ag 2) (ag 2)) (e2 eP (eC (.int 7)) (ag 2))) (ag 1)) (eC (.int 2147483629)))))
noncomputable def aN:List PyData->R PyData:=dX 3 (io bN)
noncomputable def g7 (aw:List PyData->R PyData):Fs :=
  (aU (i6 2 (eC (.dict []))) (aU (nW (nN (gI (ai (e2 aY (e2 aY (eC (.int 1)) (e2 dF (ag 0) (eC (.int 3)))) (e2 eP (eC (.int 20)) (e1 mM (e2 (jP) (e2 dF (e2 gk (ag 0) (eC (.int 3))) (eC (.int 29))) (eC (.int 7)))))) aB)) (bn 3) (vZ 2 (e2 dF (aJ aw (ai (ag 0) (ai (ag 3) aB))) (ag 1)) (eC (.bool true))))) (cq (e1 iP (e1 jd (kD 2))))))
noncomputable def cz:List PyData->R PyData:=dX 4 (g7 aw)
noncomputable def ij (aw:List PyData->R PyData) (cz:List PyData->R PyData):Fs :=
  (aU (cm 3 (e2 mW (e2 dF (e2 gk (ag 0) (eC (.int 26))) (eC (.int 9))) (eC (.int 4)))) (aU (iE (tE (e2 (jP) (e2 dF (e2 gk (ag 0) (eC (.int 234))) (eC (.int 11))) (eC (.int 3)))) (cm 3 (e2 mW (e2 dF (e2 gk (ag 0) (eC (.int 26))) (eC (.int 41))) (eC (.int 20)))) bX) (cq (lC (ai (e2 dF (ag 0) (eC (.int 2))) (ai (e2 dF (e2 gk (ag 0) (eC (.int 2))) (e2 aY (ag 2) (eC (.int 1)))) (ai (ag 3) (ai (aJ cz (ai (aJ aw (ai (ag 0) (ai (eC (.int 9)) aB))) (ai (ag 1) aB))) aB))))))))
noncomputable def ci:List PyData->R PyData:=dX 4 (ij aw cz)
noncomputable def gA (aN:List PyData->R PyData) (ci:List PyData->R PyData):Fs :=
  (aU (cm 2 (aJ aN (ai (ag 0) (ai (eC (.int 0)) aB)))) (aU (cm 3 (e2 aY (eC (.int 1)) (e2 dF (ag 2) (e2 zh (ag 1) (e2 yc (eC (.int 4)) (e1 eL (ag 0))))))) (aU (cm 4 (e2 eG (lj (ai (eC (.int 1)) (ai (eC (.int 2)) (ai (eC (.int 3)) (ai (eC (.int 5)) (ai (eC (.int 12)) (ai (eC (.int 12)) aB))))))) (e2 dF (e2 gk (ag 2) (eC (.int 24))) (eC (.int 6))))) (cq (e1 iP (cR (gI (ai (ag 3) aB)) 1 [0,3,4] (bn 0) (fun _=>.ok true) (aJ ci (ai (aJ aN (ai (ag 1) (ai (e2 aY (eC (.int 3)) (ag 0)) aB))) (ai (ag 2) (ai (ag 3) aB))))))))))
noncomputable def ce:List PyData->R PyData:=dX 5 (gA aN ci)
noncomputable def gF:Fs :=
  (cq (iu (e1 (bT .int) (ag 0)) (iu (qe (e1 (bT .bool) (ag 0))) (fB (fF xN) (fF xN) (ag 1) (ag 0) (ag 2)))))
noncomputable def bD:List PyData->R PyData:=dX 3 (gF)
noncomputable def gx:Fs :=
  (aU (iE (cG (tE (e1 (bT .tuple) (ag 0)))) (cq (eC (.bool false))) bX) (aU (cm 2 (e1 nK (eC (.int 1)))) (aU (nW (nN (gK (ag 0)) (bn 3) (aU (iE (g9 (cG (tE (e1 (bT .int) (ag 3)))) (g9 (tE (e1 (bT .bool) (ag 3))) (cG (tE (fB (fF qg) (fF qg) (ag 2) (ag 3) (ag 1)))))) (cq (eC (.bool false))) bX) (cm 2 (ag 3))))) (cq (eC (.bool true))))))
noncomputable def cc:List PyData->R PyData:=dX 4 (gx)
noncomputable def ft (bD:List PyData->R PyData) (cc:List PyData->R PyData):Fs :=
  (aU (iE (g9 (cG (tE (e1 (bT .tuple) (ag 0)))) (g9 (tE (e2 (pP) (e1 eL (ag 0)) (eC (.int 4)))) (cG (tE (aJ bD (ai (e2 eG (ag 0) (eC (.int 0))) (ai (eC (.int 0)) (ai (eC (.int 1)) aB)))))))) (cq (eC (.bool false))) bX) (aU (iE (g9 (cG (tE (aJ bD (ai (e2 eG (ag 0) (eC (.int 1))) (ai (eC (.int 0)) (ai (eC (.int 12)) aB)))))) (cG (tE (aJ bD (ai (e2 eG (ag 0) (eC (.int 2))) (ai (e1 nK (eC (.int 20))) (ai (eC (.int 20)) aB))))))) (cq (eC (.bool false))) bX) (cq (iu (aJ cc (ai (e2 eG (ag 0) (eC (.int 3))) (ai (ag 1) aB))) (e2 (pP) (e2 eG (ag 0) (eC (.int 3))) (lC aB))))))
noncomputable def bi:List PyData->R PyData:=dX 2 (ft bD cc)
noncomputable def eQ (bi:List PyData->R PyData):Fs :=
  (aU (iE (g9 (cG (tE (e1 (bT .tuple) (ag 0)))) (cG (tE (fB (fF qg) (fF qg) (eC (.int 0)) (e1 eL (ag 0)) (eC (.int 25)))))) (cq (eC (.bool false))) bX) (cq (e2 (jP) (cR (gK (ag 0)) 1 [0] (bn 0) (cG (tE (aJ bi (ai (ag 0) (ai (e1 eL (ag 1)) aB))))) (ag 0)) (lj aB))))
noncomputable def bc:List PyData->R PyData:=dX 1 (eQ bi)
noncomputable def fQ:Fs :=
  (aU (cm 1 (e2 aY (eC (.str (PySem.Str.ofString "ground "))) (e1 gB (e1 eL (ag 0))))) (aU (nW (nN (gK (ag 0)) (bn 2) (aU (cm 1 (e2 aY (e2 aY (e2 aY (ag 1) (eC (.str (PySem.Str.ofString " place")))) (e1 (eJ (PySem.Str.ofString "")) (cR (gK (kw (ag 2) dJ (cH (eC (.int 3))))) 1 [] (bn 0) (fun _=>.ok true) (e2 aY (eC (.str (PySem.Str.ofString " "))) (e1 gB (ag 0)))))) (eC (.str (PySem.Str.ofString " to"))))) (cm 1 (e2 aY (e2 aY (ag 1) (e1 (eJ (PySem.Str.ofString "")) (cR (gK (e2 eG (ag 2) (eC (.int 3)))) 1 [] (bn 0) (fun _=>.ok true) (e2 aY (eC (.str (PySem.Str.ofString " "))) (e1 gB (ag 0)))))) (eC (.str (PySem.Str.ofString " end")))))))) (cq (ag 1))))
noncomputable def bj:List PyData->R PyData:=dX 3 (fQ)
noncomputable def ue (bu:List PyData->R PyData) (aw:List PyData->R PyData) (bE:List PyData->R PyData) (ce:List PyData->R PyData) (bc:List PyData->R PyData) (aN:List PyData->R PyData) (bj:List PyData->R PyData):Fs :=
  (aU (cm 1 (aJ ce (ai (ag 0) (ai (eC (.int 24)) aB)))) (aU (cm 2 (aJ bj (ai (ag 1) aB))) (aU (cm 3 (aJ aN (ai (ag 0) (ai (eC (.int 1)) aB)))) (aU (nW (nN (gI (ai (e2 eP (e2 dF (ag 3) (eC (.int 3))) (e2 aY (eC (.int 1)) (e2 dF (e2 gk (ag 3) (eC (.int 3))) (eC (.int 2))))) aB)) (bn 4) (cm 2 (aJ bu (ai (ag 2) (ai (aJ aw (ai (ag 3) (ai (ag 4) aB))) aB)))))) (aU (cm 5 (aJ bE (ai (ag 2) aB))) (aU (iE (tE (e2 (jP) (ag 2) (aJ bj (ai (ag 1) aB)))) (cq (iu (e2 (jP) (ag 5) (ag 1)) (aJ bc (ai (ag 5) aB)))) bX) (cq (AW (e2 (sO) (ag 5) (eC .none)) (iu (aJ bc (ai (ag 5) aB)) (e2 (jP) (aJ bj (ai (ag 5) aB)) (ag 2)))))))))))
noncomputable def pF:List PyData->R PyData:=dX 6 (ue bu aw bE ce bc aN bj)
end G
end
namespace G
open D2 PySem PySem.Spec PyProof.Rows PySem.Builtin PySem.Builtin.Str
theorem mL {x y:Str} {n lim:Nat} (hy:0 < y.length):∀ (m a:Nat) (st:Array Nat×Nat) (cs:List Nat),(∀ i,a<=i->i < a+m->((i+y.length<=n/\subAt x y i=true)<->i∈cs))->(∀ c∈cs,a<=c/\c < a+m/\st.2<=c) ->
    cs.Pairwise (fun c d=>c+y.length<=d)->st.1.size<=a->a+m<=lim->(forIn (List.range' a m) st (StrLaws.occBody x y n lim)).run.fst.toList=st.1.toList++cs
  | 0,a,st,cs,h1,h2,h3,h4,h5=>by
    have e:cs=[]:=by
      cases cs with
      | nil=>rfl
      | cons c r=>exact absurd (h2 c List.mem_cons_self) (by omega)
    subst e;simp
  | m+1,a,st,cs,h1,h2,h3,h4,h5=>by
    rw [List.range'_succ,List.forIn_cons];unfold StrLaws.occBody;by_cases ha:a∈cs
    · obtain ⟨q1,q2⟩:=(h1 a (Nat.le_refl _) (by omega)).mpr ha;have hf:=(h2 a ha).2.2;rw [if_pos ⟨⟨⟨by omega,hf⟩,q1⟩,q2⟩];obtain ⟨r,e⟩:∃ r,cs=a::r:=by
        cases cs with
        | nil=>cases ha
        | cons c r =>
          rcases List.mem_cons.mp ha with z | z
          · exact ⟨r,by rw [z]⟩
          · have z1:=List.rel_of_pairwise_cons h3 z;have z2:=(h2 c List.mem_cons_self).1;omega
      subst e;have h3':=List.pairwise_cons.mp h3;have key:=mL (x:=x) (n:=n) (lim:=lim) hy m (a+1) (st.1.push a,a+y.length) r (fun i hi1 hi2=>?_) (fun c hc=>?_) h3'.2 (by simp;omega) (by omega)
      · refine Eq.trans key ?_;simp
      · rw [h1 i (by omega) (by omega)];constructor
        · intro z;rcases List.mem_cons.mp z with z | z
          · omega
          · exact z
        · exact fun z=>List.mem_cons_of_mem _ z
      · have z1:=h3'.1 c hc;have z2:=h2 c (List.mem_cons_of_mem _ hc);exact ⟨by omega,by omega,z1⟩
    · rw [if_neg fun z=>ha ((h1 a (Nat.le_refl _) (by omega)).mp ⟨z.1.2,z.2⟩)];refine mL (x:=x) (n:=n) (lim:=lim) hy m (a+1) st cs (fun i hi1 hi2=>h1 i (by omega) (by omega)) (fun c hc=>?_) h3 (by omega) (by omega);have z:=h2 c hc;have:c≠a:=fun e=>ha (e ▸ hc)
      exact ⟨by omega,by omega,z.2.2⟩
theorem ug {x y:Str} (hy:0 < y.length) (cs:List Nat) (h1:∀ i,(i+y.length<=x.length/\subAt x y i=true)<->i∈cs) (h3:cs.Pairwise (fun c d=>c+y.length<=d)):occurrences x y 0 x.length (x.length+1)=cs:=by
  rw [StrLaws.occ_eq,mL (n:=x.length) (lim:=x.length+1) hy (x.length+1-0) 0 (#[],0) cs (fun i _ _=>h1 i) (fun c hc=>?_) h3 (by simp) (by omega)]
  · simp
  · have:=(h1 c).mpr hc;exact ⟨Nat.zero_le _,by omega,Nat.zero_le _⟩
noncomputable def bP (Y:List Nat):List (List Nat)->List Nat
  | []=>[]
  | [w]=>w
  | w::v::r=>w++(Y++bP Y (v::r))
noncomputable def dZ (n:Nat):Nat->List (List Nat)->List Nat
  | _,[]=>[]
  | _,[_]=>[]
  | k,w::v::r=>(k+w.length)::dZ n (k+w.length+n) (v::r)
section
variable {A B Y:List Nat} {ch:Nat}
theorem xI (eY:Y=A++ch::B) (hA:ch∉A) (hB:ch∉B):∀ (ws:List (List Nat)),(∀ w∈ws,ch∉w)->∀ (k j:Nat),(bP Y ws)[j]?=some ch->∃ c∈dZ Y.length k ws,k+j=c+A.length
  | [],_,k,j,h=>by simp [bP] at h
  | [w],hw,k,j,h=>by
    simp only [bP] at h;exact absurd (List.mem_of_getElem? h) (hw w List.mem_cons_self)
  | w::v::r,hw,k,j,h=>by
    have lY:Y.length=A.length+1+B.length:=by rw [eY];simp;omega
    simp only [bP] at h;simp only [dZ];by_cases h1:j < w.length
    · rw [List.getElem?_append_left h1] at h;exact absurd (List.mem_of_getElem? h) (hw w List.mem_cons_self)
    · rw [List.getElem?_append_right (by omega)] at h;by_cases h2:j-w.length < Y.length
      · rw [List.getElem?_append_left h2,eY] at h;by_cases h3:j-w.length < A.length
        · rw [List.getElem?_append_left h3] at h;exact absurd (List.mem_of_getElem? h) hA
        · rw [List.getElem?_append_right (by omega)] at h;cases e:j-w.length-A.length with
          | zero=>exact ⟨_,List.mem_cons_self,by omega⟩
          | succ q =>
            rw [e,List.getElem?_cons_succ] at h;exact absurd (List.mem_of_getElem? h) hB
      · rw [List.getElem?_append_right (by omega)] at h;obtain ⟨c,hc,e⟩:=xI eY hA hB (v::r) (fun w' hw'=>hw w' (List.mem_cons_of_mem _ hw')) (k+w.length+Y.length) _ h;exact ⟨c,List.mem_cons_of_mem _ hc,by omega⟩
theorem uF:∀ (ws:List (List Nat)) (k c:Nat),c∈dZ Y.length k ws->k<=c/\((bP Y ws).drop (c-k)).take Y.length=Y/\c+Y.length<=k+(bP Y ws).length
  | [],k,c,h=>by simp [dZ] at h
  | [w],k,c,h=>by simp [dZ] at h
  | w::v::r,k,c,h=>by
    simp only [dZ] at h;simp only [bP];rcases List.mem_cons.mp h with e | h
    · subst e;refine ⟨by omega,?_,by simp only [List.length_append];omega⟩;rw [show k+w.length-k=w.length by omega,List.drop_left,List.take_left]
    · obtain ⟨h1,h2,h3⟩:=uF (v::r) _ c h;refine ⟨by omega,?_,by simp only [List.length_append];omega⟩;rw [show c-k=w.length+(Y.length+(c-(k+w.length+Y.length))) by omega,List.drop_append,List.drop_of_length_le (by omega),List.nil_append,show w.length+(Y.length+(c-(k+w.length+Y.length)))-w.length=Y.length+(c-(k+w.length+Y.length)) by omega,
        List.drop_append,List.drop_of_length_le (by omega),List.nil_append,show Y.length+(c-(k+w.length+Y.length))-Y.length=c-(k+w.length+Y.length) by omega]
      exact h2
theorem rm {n:Nat}:∀ (ws:List (List Nat)) (k:Nat),(∀ c∈dZ n k ws,k<=c)/\(dZ n k ws).Pairwise fun c d=>c+n<=d
  | [],k=>by simp [dZ]
  | [w],k=>by simp [dZ]
  | w::v::r,k=>by
    obtain ⟨h1,h2⟩:=rm (n:=n) (v::r) (k+w.length+n);simp only [dZ];refine ⟨fun c hc=>?_,List.pairwise_cons.mpr ⟨fun c hc=>h1 c hc,h2⟩⟩;rcases List.mem_cons.mp hc with e | hc
    · omega
    · have:=h1 c hc;omega
theorem ls:∀ (ws:List (List Nat)) (P:List Nat),ws≠[]->((P.length::(dZ Y.length P.length ws).map (·+Y.length)).zip (dZ Y.length P.length ws++[P.length+(bP Y ws).length])).map (fun p=>((P++bP Y ws).drop p.1).take (p.2-p.1))=ws
  | [],P,h=>absurd rfl h
  | [w],P,_=>by simp [dZ,bP]
  | w::v::r,P,_=>by
    have ih:=ls (v::r) (P++(w++Y)) (by simp);have e:(P++(w++Y)).length=P.length+w.length+Y.length:=by simp only [List.length_append];omega
    rw [e] at ih;simp only [dZ,bP,List.map_cons,List.cons_append,List.zip_cons_cons];refine List.cons_eq_cons.mpr ⟨?_,?_⟩
    · simp
    · have e2:P++(w++(Y++bP Y (v::r)))=P++(w++Y)++bP Y (v::r):=by simp only [List.append_assoc]
      have e3:P.length+(w++(Y++bP Y (v::r))).length=P.length+w.length+Y.length+(bP Y (v::r)).length:=by simp only [List.length_append];omega
      rw [e2,e3];exact ih
end
theorem qd (x:Str) (i j:Nat):(strSub x i j).cps.toList=(x.cps.toList.drop i).take (j-i):=by
  unfold strSub;rw [Array.toList_extract,List.extract_eq_take_drop]
theorem rT (x y:Str) (i:Nat):subAt x y i=true<->(x.cps.toList.drop i).take y.length=y.cps.toList:=by
  unfold subAt;rw [beq_iff_eq,<- Array.toList_inj,Array.toList_extract,List.extract_eq_take_drop,Nat.add_sub_cancel_left]
theorem ku {a b:Str} (h:a.cps.toList=b.cps.toList):a=b:=by
  cases a;cases b;exact congrArg Str.mk (Array.toList_inj.mp h)
theorem jc {x y:Str} {ws:List Str} {A B:List Nat} {ch:Nat} (eY:y.cps.toList=A++ch::B) (hA:ch∉A) (hB:ch∉B) (hk:strKind y=1) (hw:∀ w∈ws,ch∉w.cps.toList) (hne:ws≠[])
    (hx:x.cps.toList=bP y.cps.toList (ws.map fun w=>w.cps.toList)):Txt.split x y=ws:=by
  have ly:y.length=y.cps.toList.length:=by simp [Str.length]
  have lx:x.length=x.cps.toList.length:=by simp [Str.length]
  have hy:0 < y.length:=by rw [ly,eY];simp;omega
  have hw':∀ w∈ws.map (fun w=>w.cps.toList),ch∉w:=fun w h=>by
    obtain ⟨v,hv,rfl⟩:=List.mem_map.mp h;exact hw v hv
  have occ:=ug (x:=x) hy (dZ y.cps.toList.length 0 (ws.map fun w=>w.cps.toList)) (fun i=>by
    rw [rT,lx,ly,hx];constructor
    · rintro ⟨h1,h2⟩;have h3:(bP y.cps.toList (ws.map fun w=>w.cps.toList))[i+A.length]?=some ch:=by
        have h4:=congrArg (fun l=>l[A.length]?) h2;have lA:A.length < y.cps.toList.length:=by rw [eY];simp
        simp only [List.getElem?_take_of_lt lA,List.getElem?_drop] at h4;rw [h4]
        conv=>lhs;rw [eY]
        rw [List.getElem?_append_right (Nat.le_refl _),Nat.sub_self];rfl
      obtain ⟨c,hc,e⟩:=xI eY hA hB _ hw' 0 _ h3;have:i=c:=by omega
      rw [this];exact hc
    · intro h;obtain ⟨h1,h2,h3⟩:=uF (Y:=y.cps.toList) _ 0 i h;exact ⟨by omega,by simpa using h2⟩) (by rw [ly];exact (rm _ 0).2)
  unfold Txt.split;have k1:¬ strKind x < strKind y:=by
    rw [hk];unfold PySem.Builtin.Str.strKind;split
    · omega
    · split <;> omega
  by_cases hl:x.length < y.length
  · rw [if_pos (by simp [hl])];cases ws with
    | nil=>exact absurd rfl hne
    | cons w r =>
      cases r with
      | nil=>rw [show x=w from ku hx]
      | cons v r =>
        rw [lx,ly,hx] at hl;simp only [List.map_cons,bP,List.length_append] at hl;omega
  · rw [if_neg (by simp [hl,k1]),occ];split
    · rename_i he;cases ws with
      | nil=>exact absurd rfl hne
      | cons w r =>
        cases r with
        | nil=>rw [show x=w from ku hx]
        | cons v r=>simp [dZ] at he
    · unfold partsBetween;have key:=ls (Y:=y.cps.toList) (ws.map fun w=>w.cps.toList) [] (by simpa using hne);simp only [List.length_nil,List.nil_append,Nat.zero_add] at key;have inj:∀ {as bs:List Str},as.map (fun w=>w.cps.toList)=bs.map (fun w=>w.cps.toList)->as=bs:=by
        intro as;induction as with
        | nil=>intro bs h;cases bs with
          | nil=>rfl
          | cons b bs=>cases h
        | cons a as ih=>intro bs h;cases bs with
          | nil=>cases h
          | cons b bs =>
            rw [List.map_cons,List.map_cons] at h;injection h with h1 h2
            rw [ku h1,ih h2]
      apply inj;refine Eq.trans ?_ key;rw [List.map_map,lx,hx,ly];refine List.map_congr_left fun p _=>?_
      show (strSub x p.1 p.2).cps.toList=_;rw [qd,hx]
theorem dM (y:Str):∀ (ws:List Str),(glued y ws).cps.toList=bP y.cps.toList (ws.map fun w=>w.cps.toList):=by
  have fold:∀ (r:List Str) (acc:Array Nat),(r.foldl (fun acc p=>acc++y.cps++p.cps) acc).toList=match r with | []=>acc.toList | v::t=>acc.toList++(y.cps.toList++bP y.cps.toList ((v::t).map fun w=>w.cps.toList)):=by
    intro r;induction r with
    | nil=>intro acc;rfl
    | cons v t ih =>
      intro acc;rw [List.foldl_cons,ih];cases t with
      | nil=>simp [bP]
      | cons u t=>simp [bP,List.append_assoc]
  intro ws;unfold glued;cases ws with
  | nil=>rfl
  | cons w r =>
    simp only [List.drop_one,List.tail_cons,List.headD_cons];rw [fold];cases r with
    | nil=>simp [bP]
    | cons v t=>simp [bP]
end G
namespace G
open PySem PySem.Spec PyProof.Rows L2 D2
theorem xk (ns:List Int) {k:Int} (hk:0<=k):∃ v,bN [rA ns,.int k]=.ok (.int v):=by
  unfold bN fV;by_cases h:k < ns.length
  · refine ⟨ns[k.toNat]'(by omega),?_⟩;have hx:=qU (xs:=ns.map PyData.int) (i:=k) hk (by simpa using h);rw [cF];simp [h,hx]
  · refine ⟨0,?_⟩;rw [cF];simp [h]
theorem kQ (ns:List Int) {k:Int} (hk:0<=k):∃ v,aN [rA ns,.int k]=.ok (.int v)/\0<=v/\v < 2147483629:=by
  obtain ⟨c,hc⟩:=xk ns hk;unfold aN io;have m1:eP (.int 7919) (.int k)=.ok (.int (7919*k)):=gv (.inl (by omega));have m2:eP (.int (c+7919*k+1)) (.int 48271)=.ok (.int ((c+7919*k+1)*48271)):=gv (.inr (by omega));generalize hd:(c+7919*k+1)*48271%2147483647=d;have hd0:0<=d:=by omega
  have hd1:d < 2147483647:=by omega
  have m3:eP (.int d) (.int d)=.ok (.int (d*d)):=gv (.inl (by omega));have m4:eP (.int 7) (.int d)=.ok (.int (7*d)):=gv (.inl (by omega));refine ⟨(d*d+7*d+k)%2147483629,?_,by omega,by omega⟩;rw [cF];simp [hc,m1,m2,hd,m3,m4,List.replicate]
theorem lc (n k:Int):∃ v,aw [.int n,.int k]=.ok (.int v)/\0<=v/\v < 2147483629:=by
  unfold aw ii;have m1:eP (.int 104729) (.int k)=.ok (.int (104729*k)):=gv (.inl (by omega));have m2:eP (.int (n+104729*k+17)) (.int 69621)=.ok (.int ((n+104729*k+17)*69621)):=gv (.inr (by omega));generalize hd:(n+104729*k+17)*69621%2147483647=d;have hd0:0<=d:=by omega
  have hd1:d < 2147483647:=by omega
  have m3:eP (.int d) (.int d)=.ok (.int (d*d)):=gv (.inl (by omega));have m4:eP (.int 3) (.int d)=.ok (.int (3*d)):=gv (.inl (by omega));refine ⟨(d*d+3*d+k)%2147483629,?_,by omega,by omega⟩;rw [cF];simp [m1,m2,hd,m3,m4,List.replicate]
theorem ll (n c:Int) (hc:1<=c):∀ (ds:List PyData) (m:Nat) (kvs:List (PyData×PyData)) (x:cg),qu c m kvs->(∀ d∈ds,∃ k,d=.int k)->m+ds.length<=1000 ->
    ∃ kvs' x',qu c (m+ds.length) kvs'/\gf (bn 3) (vZ 2 (e2 dF (aJ aw (ai (ag 0) (ai (ag 3) aB))) (ag 1)) (eC (.bool true))) ds [.val (.int n),.val (.int c),.own (.dict kvs),x]
      = .ok (.nx [.val (.int n),.val (.int c),.own (.dict kvs'),x'])
  | [],m,kvs,x,hk,_,_=>⟨kvs,x,hk,by rw [fZ]⟩
  | d::ds,m,kvs,x,hk,hi,hl=>by
    obtain ⟨k,rfl⟩:=hi d List.mem_cons_self;obtain ⟨v,hv,v0,v1⟩:=lc n k;have hk':=hk.put (k:=v%c) (Int.emod_nonneg _ (by omega)) (Int.emod_lt_of_pos _ (by omega)) (.bool true);obtain ⟨kvs',x',h1,h2⟩:=ll n c hc ds (m+1) _ (.val (.int k)) hk' (fun d hd=>hi d (List.mem_cons_of_mem _ hd)) (by simp at hl;omega);refine ⟨kvs',x',by rw [List.length_cons];simpa [Nat.add_comm,Nat.add_left_comm,Nat.add_assoc] using h1,?_⟩;have hlen:=hk.len;have hsz:kvs.length < sizeLine:=Nat.lt_of_le_of_lt (show kvs.length<=1000 by simp at hl;omega) (by decide);have hc':0 < c:=by omega
    rw [dN,<- h2];simp [vZ,hv,hc',eT,hsz]
theorem sL {n c:Int} (hn:0<=n) (hc:1<=c):∃ ns:List Int,cz [.int n,.int c]=.ok (.tuple (ns.map .int))/\(∀ x∈ns,0<=x/\x < c)/\ns≠[]/\ns.Pairwise (· < ·):=by
  unfold cz g7;have m1:∀ k:Int,eP (.int 20) (.int k)=.ok (.int (20*k)):=fun k=>gv (.inl (by omega))
  generalize hN:(1+n%3+20*(if n / 3%29=7 then 1 else 0):Int)=N;have hN0:1<=N:=by split at hN <;> omega
  have hN1:N<=23:=by split at hN <;> omega
  obtain ⟨kvs,x,hk,hf⟩:=ll n c hc (bG 0 N.toNat) 0 [] .non ⟨[],rfl,by simp,by simp,.inl rfl,by simp⟩ (pB _ _) (by rw [gG];omega);obtain ⟨ns,e,hb,hl,hz,nd⟩:=hk.ex;rw [gG] at hl hz;have hi:eA (kvs.map (·.1))=some ns:=by rw [e,jV]
  have hs:jd (.dict kvs)=.ok (.list ((eU ns).map PyData.int)):=by
    show (match eA (kvs.map (·.1)) with | some ns=>if ns.length < 64 then R.ok (PyData.list ((eU ns).map PyData.int)) else .no | none=>.no)=_;rw [hi];exact if_pos (by omega)
  have hr:-(2 ^ 62)<=N/\N < 2 ^ 62:=by omega
  refine ⟨eU ns,?_,fun x hx=>hb x ((ee ns).mem_iff.mp hx),?_,sd (gC ns) ((ee ns).nodup_iff.mpr nd)⟩
  · rw [cF];have hg:ki [.int N]=.ok (bG 0 N.toNat):=by
      show (if -(2 ^ 62)<=N/\N < 2 ^ 62 then R.ok (bG 0 N.toNat) else .no)=_;rw [if_pos hr]
    simp [iB,iL,m1,List.replicate,hN,hg,hf,hs]
  · intro z;have:=(ee ns).length_eq;rw [z] at this;rcases hz with q | q
    · omega
    · exact q (List.eq_nil_of_length_eq_zero this.symm)
theorem sE {n c h:Int} (hn:0<=n) (hc:1<=c) (h0:0<=h):∃ p:P4,ci [.int n,.int c,.int h]=.ok p.d/\Pl c h p:=by
  obtain ⟨v,hv,v0,v1⟩:=lc n 9;obtain ⟨ns,hg,hb,hne,hso⟩:=sL (n:=v) (c:=c) v0 hc;unfold ci ij;have hh:0 < h+1:=by omega
  have s4:4<=sizeLine:=by decide
  have a1:=Int.emod_nonneg (n / 2) (show h+1≠0 by omega);have a2:=Int.emod_lt_of_pos (n / 2) hh;by_cases hq:n / 234%11=3
  · refine ⟨⟨n%2,n / 2%(h+1),n / 26%41-20,ns⟩,?_,⟨by dsimp only;omega,by dsimp only;omega,a1,by dsimp only;omega,by dsimp only;omega,by dsimp only;omega,hne,hso,hb⟩⟩;rw [cF];simp [hh,iL,hq,hv,hg,s4,P4.d]
  · refine ⟨⟨n%2,n / 2%(h+1),n / 26%9-4,ns⟩,?_,⟨by dsimp only;omega,by dsimp only;omega,a1,by dsimp only;omega,by dsimp only;omega,by dsimp only;omega,hne,hso,hb⟩⟩;rw [cF];simp [hh,iL,hq,hv,hg,s4,P4.d]
theorem pK (f:Fe) (ρ:aI) (i:Nat) (P:P4->Prop):∀ ds:List PyData,(∀ d∈ds,∃ p:P4,f (ρ.set i (.val d))=.ok p.d/\P p)->∃ ps:List P4,cw (bn i) (fun _=>.ok true) f ρ ds=.ok (ps.map P4.d)/\ps.length=ds.length/\∀ p∈ps,P p
  | [],_=>⟨[],iC ..,rfl,by simp⟩
  | d::ds,h=>by
    obtain ⟨x,h1,h2⟩:=h d List.mem_cons_self;obtain ⟨xs,h3,h4,h5⟩:=pK f ρ i P ds fun d hd=>h d (List.mem_cons_of_mem _ hd)
    refine ⟨x::xs,?_,by simp [h4],fun y hy=>?_⟩
    · rw [dE,h1,h3];rfl
    · rcases List.mem_cons.mp hy with rfl | hy
      · exact h2
      · exact h5 y hy
theorem qD (ns:List Int) {most:Int} (hm0:1<=most) (hm1:most<=24):∃ (ps:List P4) (hi:Int),ce [rA ns,.int most]=.ok (gD ps)/\(∀ p∈ps,Pl ps.length hi p)/\1<=ps.length/\(ps.length:Int)<=most/\0<=hi/\hi<=12:=by
  obtain ⟨v,hv,v0,v1⟩:=kQ ns (k:=0) (by omega);unfold ce gA;generalize hm:(if (if (ns.length:Int) > 4 then (ns.length:Int) else 4) < most then (if (ns.length:Int) > 4 then (ns.length:Int) else 4) else most)=m;have m0:0 < m:=by split at hm <;> split at hm <;> omega
  have m1:m<=most:=by split at hm <;> split at hm <;> omega
  generalize hc:1+v%m=c;have c0:1<=c:=by have:=Int.emod_nonneg v (show m≠0 by omega);omega
  have c1:c<=most:=by have:=Int.emod_lt_of_pos v m0;omega
  have hix:∃ h,eG (.list [.int 1,.int 2,.int 3,.int 5,.int 12,.int 12]) (.int (v / 24%6))=.ok (.int h)/\0<=h/\h<=12:=by
    obtain ⟨x,hx,e⟩:=wW (xs:=[.int 1,.int 2,.int 3,.int 5,.int 12,.int 12]) (i:=v / 24%6) (by omega) (by simp;omega);rw [e];simp at hx;rcases hx with rfl | rfl | rfl | rfl | rfl <;> exact ⟨_,rfl,by decide,by decide⟩
  obtain ⟨h,hh,h0,h1⟩:=hix;have s6:6<=sizeLine:=by decide
  have hr:ki [.int c]=.ok (bG 0 c.toNat):=by
    show (if -(2 ^ 62)<=c/\c < 2 ^ 62 then R.ok (bG 0 c.toNat) else .no)=_;rw [if_pos (by omega)]
  obtain ⟨xs,e1,e2,e3⟩:=pK (aJ ci (ai (aJ aN (ai (ag 1) (ai (e2 aY (eC (.int 3)) (ag 0)) aB))) (ai (ag 2) (ai (ag 3) aB)))) (av 1 [0,3,4] [.val (rA ns),.val (.int most),.val (.int v),.val (.int c),.val (.int h)]) 0 (Pl c h) (bG 0 c.toNat) fun d hd=>by
    unfold bG at hd;obtain ⟨k,_,rfl⟩:=List.mem_map.mp hd;obtain ⟨w,hw,w0,w1⟩:=kQ ns (k:=3+(0+(k:Int))) (by omega);obtain ⟨d,hd1,hd2⟩:=sE (n:=w) (c:=c) (h:=h) w0 c0 h0;refine ⟨d,?_,hd2⟩;simp at hw;simp [av,List.replicate,hw,hd1]
  rw [gG] at e2;have ec:(xs.length:Int)=c:=by omega
  refine ⟨xs,h,?_,by rw [ec];exact e3,by omega,by omega,h0,h1⟩;rw [cF];simp [hv,hm,m0,hc,s6,hh,List.replicate,dS,hr,gG,iz (show c.toNat<=1000 by omega),e1]
theorem pO {d:PyData} (h:noD d):c7 [d]=.ok (.bool (AF d)):=by
  cases d <;> first | rfl | cases h
theorem fj {d:PyData} (h:noD d) (lo hi:Int):aG [d,.int lo,.int hi]=.ok (.bool (iW d lo hi)):=by
  unfold aG gE;rw [cF];cases d with
  | int i =>
    by_cases h1:lo<=i <;> by_cases h2:i<=hi <;> simp [pO h,AF,h1,h2,iW]
  | dict k=>cases h
  | _=>simp [pO h,AF,iW]
theorem lZ (t:PyData) (c:Int):∀ (ds:List PyData) (l:Int) (x:cg),(∀ d∈ds,noD d) ->
    ∃ ρ,gf (bn 3) (aU (iE (cG (tE (aJ aG (ai (ag 3) (ai (ag 2) (ai (e2 mW (ag 1) (eC (.int 1))) aB)))))) (cq (eC (.bool false))) bX) (cm 2 (e2 aY (ag 3) (eC (.int 1))))) ds
      [.val t,.val (.int c),.val (.int l),x]=if dA c l ds=true then .ok (.nx ρ) else .ok (.rt (.bool false))
  | [],l,x,_=>⟨_,by rw [fZ];rfl⟩
  | d::ds,l,x,h=>by
    have hd:=h d List.mem_cons_self;cases hb:iW d l (c-1) with
    | false =>
      refine ⟨[],?_⟩;have hr:dA c l (d::ds)=false:=by
        cases d with
        | int i =>
          simp only [iW] at hb;simp only [dA];rcases (Bool.and_eq_false_iff.mp hb) with z | z
          · rw [z];rfl
          · have:decide (i < c)=false:=by simp at z ⊢;omega
            rw [this];simp
        | _=>rfl
      rw [dN,hr];simp [fj hd,hb]
    | true =>
      cases d with
      | int i =>
        simp only [iW,Bool.and_eq_true,decide_eq_true_eq] at hb;obtain ⟨ρ,e⟩:=lZ t c ds (i+1) (.val (.int i)) fun d hd=>h d (List.mem_cons_of_mem _ hd)
        refine ⟨ρ,?_⟩;have hr:dA c l (.int i::ds)=dA c (i+1) ds:=by
          simp only [dA];rw [decide_eq_true hb.1,decide_eq_true (show i < c by omega)];simp
        have hb':iW (.int i) l (c-1)=true:=by simp [iW];omega
        rw [dN,hr,<- e];simp [fj hd,hb']
      | _=>cases hb
theorem pD {d:PyData} (c:Int) (h:∀ ds,d=.tuple ds->∀ x∈ds,noD x) (hd:noD d):cM [d,.int c]=.ok (.bool (xA c d)):=by
  unfold cM iT;rw [cF];cases d with
  | tuple ds =>
    obtain ⟨ρ,e⟩:=lZ (.tuple ds) c ds 0 .non (h ds rfl);simp [bT,gY,iB,List.replicate];rw [e];cases dA c 0 ds <;> simp
  | dict k=>cases hd
  | _=>simp [bT,gY,List.replicate]
theorem uZ {d:PyData} {c:Int} (hc:c<=24) (hg:cN d):cB [d,.int c]=.ok (.bool (hV c d)):=by
  have hs:=pD c (d:=d) (fun ds e x hx=>((bV.mp (e ▸ hg)) x hx).noD) hg.noD;unfold cB gX;rw [cF];cases d with
  | tuple ds =>
    simp [hs,hV];cases hr:dA c 0 ds with
    | false=>simp
    | true =>
      rcases pd c ds 0 hr with rfl | z
      · simp
      · cases ds with
        | nil=>simp
        | cons d ds =>
          simp only [List.length_cons] at z ⊢;have h2:((ds.length:Int)+1)<=24:=by omega
          have h1:(1:Int)<=((ds.length:Int)+1):=by omega
          simp [h1,h2]
  | dict k=>exact hg.noD.elim
  | _=>simp [hs,hV]
theorem uk {d:PyData} {c:Int} (hc:c<=24) (hg:cN d):cE [d,.int c]=.ok (.bool (bU c d)):=by
  unfold cE iQ;rw [cF];cases d with
  | tuple ds =>
    match ds,hg with
    | [w,m,g,s],hg =>
      have h:=bV.mp hg;have hw:=(h w (by simp)).noD;have hm:=(h m (by simp)).noD;have hgn:=(h g (by simp)).noD;have hs:=h s (by simp);have i0:eG (.tuple [w,m,g,s]) (.int 0)=.ok w:=rfl;have i1:eG (.tuple [w,m,g,s]) (.int 1)=.ok m:=rfl;have i2:eG (.tuple [w,m,g,s]) (.int 2)=.ok g:=rfl;have i3:eG (.tuple [w,m,g,s]) (.int 3)=.ok s:=rfl;simp [bT,gY,gO,i0,i1,i2,i3,fj hw,fj hm,fj hgn,uZ hc hs,bU];cases iW w 0 1 <;> cases iW m 0 12 <;> cases iW g (-20) 20 <;> simp
    | [],_=>simp [bT,gY,gO,bU]
    | [a],_=>simp [bT,gY,gO,bU]
    | [a,b],_=>simp [bT,gY,gO,bU]
    | [a,b,c],_=>simp [bT,gY,gO,bU]
    | a::b::c::d::e::r,_ =>
      have:¬ ((r.length:Int)+1+1+1+1+1=4):=by omega
      simp [bT,gY,gO,bU,this]
  | dict k=>exact hg.noD.elim
  | _=>simp [bT,gY,bU]
theorem mI {d:PyData} (hg:cN d):aL [d]=.ok (.bool (cr d)):=by
  unfold aL ik;rw [cF];cases d with
  | tuple ds =>
    have h:=bV.mp hg;by_cases h1:1<=ds.length
    · by_cases h2:ds.length<=24
      · have h1':(1:Int)<=ds.length:=by omega
        have h2':(ds.length:Int)<=24:=by omega
        have hc:cw (bn 0) (fun _=>.ok true) (aJ cE (ai (ag 0) (ai (e1 eL (ag 1)) aB))) (av 1 [0] [.val (.tuple ds)]) ds=.ok (ds.map fun d=>.bool (bU ds.length d)) :=
          mq _ _ _ _ _ fun d hd=>by simp [av,List.replicate,uk h2' (h d hd)]
        simp [bT,gY,h1',h2',dS,iz (show ds.length<=1000 by omega),hc,cr,h1,h2,wF,qR]
      · have h2':¬ (ds.length:Int)<=24:=by omega
        have h1':(1:Int)<=ds.length:=by omega
        simp [bT,gY,h1',h2',cr,h2]
    · have h1':¬ (1:Int)<=ds.length:=by omega
      simp [bT,gY,h1',cr,h1]
  | dict k=>exact hg.noD.elim
  | _=>simp [bT,gY,cr]
theorem md (t:PyData) (c:Int):∀ (ds:List PyData) (l:Int) (x:cg),(∀ d∈ds,noD d) ->
    ∃ ρ,gf (bn 3) (aU (iE (g9 (cG (tE (e1 (bT .int) (ag 3)))) (g9 (tE (e1 (bT .bool) (ag 3))) (cG (tE (fB (fF qg) (fF qg) (ag 2) (ag 3) (ag 1)))))) (cq (eC (.bool false))) bX) (cm 2 (ag 3))) ds
      [.val t,.val (.int c),.val (.int l),x]=if dA c (l+1) ds=true then .ok (.nx ρ) else .ok (.rt (.bool false))
  | [],l,x,_=>⟨_,by rw [fZ];rfl⟩
  | d::ds,l,x,h=>by
    have hd:=h d List.mem_cons_self;cases d with
    | int i =>
      obtain ⟨ρ,e⟩:=md t c ds i (.val (.int i)) fun d hd=>h d (List.mem_cons_of_mem _ hd)
      refine ⟨ρ,?_⟩;rw [dN];by_cases h1:l < i
      · by_cases h2:i < c
        · have hr:dA c (l+1) (.int i::ds)=dA c (i+1) ds:=by
            simp only [dA];rw [decide_eq_true (show l+1<=i by omega),decide_eq_true h2];simp
          rw [hr,<- e];simp [bT,gY,h1,h2]
        · have hr:dA c (l+1) (.int i::ds)=false:=by
            simp only [dA];rw [decide_eq_false h2];simp
          rw [hr];simp [bT,gY,h1,h2]
      · have hr:dA c (l+1) (.int i::ds)=false:=by
          simp only [dA];rw [decide_eq_false (show ¬ l+1<=i by omega)];simp
        rw [hr];simp [bT,gY,h1]
    | dict k=>exact hd.elim
    | _=>exact ⟨[],by rw [dN];simp [bT,gY,dA]⟩
theorem tF {d:PyData} (c:Int) (hg:cN d):cc [d,.int c]=.ok (.bool (xA c d)):=by
  unfold cc gx;rw [cF];cases d with
  | tuple ds =>
    obtain ⟨ρ,e⟩:=md (.tuple ds) c ds (-1) .non fun x hx=>(bV.mp hg x hx).noD
    simp [bT,gY,iB,List.replicate];rw [e];have e0:dA c (-1+1) ds=dA c 0 ds:=rfl;rw [e0];cases dA c 0 ds <;> simp
  | dict k=>exact hg.noD.elim
  | _=>simp [bT,gY,List.replicate]
theorem jF {d:PyData} (h:noD d) (lo hi:Int):bD [d,.int lo,.int hi]=.ok (.bool (iW d lo hi)):=by
  unfold bD gF;rw [cF];cases d with
  | int i =>
    by_cases h1:lo<=i <;> by_cases h2:i<=hi <;> simp [bT,gY,h1,h2,iW]
  | dict k=>cases h
  | _=>simp [bT,gY,iW]
theorem sC {d:PyData} {c:Int} (hg:cN d):bi [d,.int c]=.ok (.bool (bU c d)):=by
  unfold bi ft;rw [cF];cases d with
  | tuple ds =>
    match ds,hg with
    | [w,m,g,s],hg =>
      have h:=bV.mp hg;have hw:=(h w (by simp)).noD;have hm:=(h m (by simp)).noD;have hgn:=(h g (by simp)).noD;have hs:=h s (by simp);have i0:eG (.tuple [w,m,g,s]) (.int 0)=.ok w:=rfl;have i1:eG (.tuple [w,m,g,s]) (.int 1)=.ok m:=rfl;have i2:eG (.tuple [w,m,g,s]) (.int 2)=.ok g:=rfl;have i3:eG (.tuple [w,m,g,s]) (.int 3)=.ok s:=rfl;simp [bT,gY,gO,i0,i1,i2,i3,jF hw,jF hm,jF hgn,tF c hs,vA hs,bU];cases iW w 0 1 <;> cases iW m 0 12 <;> cases iW g (-20) 20 <;> simp;cases s with
      | tuple ds =>
        cases ds with
        | nil=>simp [hV,dA]
        | cons a r =>
          simp [hV];cases dA c 0 (a::r) <;> simp
      | _=>simp [hV]
    | [],_=>simp [bT,gY,gO,bU]
    | [a],_=>simp [bT,gY,gO,bU]
    | [a,b],_=>simp [bT,gY,gO,bU]
    | [a,b,c],_=>simp [bT,gY,gO,bU]
    | a::b::c::d::e::r,_ =>
      have:¬ ((r.length:Int)+1+1+1+1+1=4):=by omega
      simp [bT,gY,gO,bU,this]
  | dict k=>exact hg.noD.elim
  | _=>simp [bT,gY,bU]
theorem lJ {d:PyData} (hg:cN d):bc [d]=.ok (.bool (cr d)):=by
  unfold bc eQ;rw [cF];cases d with
  | tuple ds =>
    have h:=bV.mp hg;by_cases h1:1<=ds.length
    · by_cases h2:ds.length<=24
      · have h1':(0:Int) < ds.length:=by omega
        have h2':(ds.length:Int) < 25:=by omega
        have hc:cw (bn 0) (cG (tE (aJ bi (ai (ag 0) (ai (e1 eL (ag 1)) aB))))) (ag 0) (av 1 [0] [.val (.tuple ds)]) ds=.ok ((ds.filter fun d=>!bU ds.length d).map id) :=
          jm _ _ _ _ (fun d=>!bU ds.length d) id _ (fun d hd=>by simp [av,List.replicate,sC (c:=(ds.length:Int)) (h d hd)]) fun d hd _=>by simp [av,List.replicate]
        rw [List.map_id] at hc;have he:=uP (xs:=ds.filter fun d=>!bU ds.length d) fun x hx=>h x ((List.mem_filter.mp hx).1)
        rw [j9] at he;simp [bT,gY,dS,iz (show ds.length<=1000 by omega),hc,cr,h1,h2,h2',he];intro e;rw [e] at h1;simp at h1
      · have h2':¬ (ds.length:Int) < 25:=by omega
        have h1':(0:Int) < ds.length:=by omega
        simp [bT,gY,h1',h2',cr,h2]
    · have h1':¬ (0:Int) < ds.length:=by omega
      have h0:ds=[]:=List.eq_nil_of_length_eq_zero (by omega);subst h0;simp [bT,gY,cr]
  | dict k=>exact hg.noD.elim
  | _=>simp [bT,gY,cr]
noncomputable def pX (ns:List Int) (i:Int):Bool:=ns.any fun j=>decide (j=i)
theorem j8:∀ ns:List Int,PyData.depthAll (ns.map .int)=0
  | []=>by simp [PyData.depthAll]
  | n::ns=>by simp [PyData.depthAll,PyData.depth,j8 ns]
theorem qC (ns:List Int):PyData.canLayAll0 (ns.map .int)=true:=jv fun x hx=>by
  obtain ⟨i,_,rfl⟩:=List.mem_map.mp hx;exact gi i
theorem mn (ns:List Int) (i:Int):rO (ns.map .int) (.int i)=true:=by
  unfold rO;rw [qC,j8];simp [PyData.canLay0]
theorem oY (ns:List Int) (i:Int):((ns.map PyData.int).any fun y=>PyData.eqv y (.int i))=pX ns i:=by
  rw [List.any_map];congr 1
theorem AJ (ns:List Int) (i:Int) (neg:Bool):Ax neg (.int i) (.tuple (ns.map .int))=.ok (.bool (if neg then !pX ns i else pX ns i)):=by
  show (if rO (ns.map .int) (.int i)=true then R.ok (PyData.bool _) else .no)=_;rw [if_pos (mn ns i),oY]
theorem AY (ns:List Int) (i:Int) (neg:Bool):Ax neg (.int i) (.list (ns.map .int))=.ok (.bool (if neg then !pX ns i else pX ns i)):=by
  show (if rO (ns.map .int) (.int i)=true then R.ok (PyData.bool _) else .no)=_;rw [if_pos (mn ns i),oY]
theorem qM (c:Nat):bG 0 c=((List.range c).map fun (k:Nat)=>(k:Int)).map .int:=by
  unfold bG;rw [List.map_map];apply List.map_congr_left;intro k _;simp
theorem mj:∀ {l m:List Int},l.Nodup->(∀ x∈l,x∈m)->l.length<=m.length
  | [],m,_,_=>Nat.zero_le _
  | x::l,m,nd,h=>by
    obtain ⟨n1,n2⟩:=List.nodup_cons.mp nd;have hx:=h x List.mem_cons_self;have:=mj (m:=m.erase x) n2 fun y hy=>(List.mem_erase_of_ne (by rintro rfl;exact n1 hy)).mpr (h y (List.mem_cons_of_mem _ hy))
    rw [List.length_erase_of_mem hx] at this;have hp:=List.length_pos_of_mem hx;rw [List.length_cons];omega
structure uH (js:List Int) (kvs:List (Int×Int)):Prop where
  nd:(kvs.map (·.1)).Nodup
  sub:∀ x∈kvs.map (·.1),x∈js
theorem uH.len {js:List Int} {kvs:List (Int×Int)} (h:uH js kvs) (nj:js.Nodup):kvs.length<=js.length:=by
  have:=mj h.nd h.sub;simpa using this
noncomputable def look (kvs:List (Int×Int)) (i:Int):Option Int:=(kvs.find? fun q=>decide (q.1=i)).map (·.2)
noncomputable abbrev ids (n:Nat):List Int:=(List.range n).map fun (k:Nat)=>(k:Int)
theorem wS {n:Nat} {i:Int}:i∈ids n<->0<=i/\i < n:=by
  constructor
  · intro h;obtain ⟨k,hk,rfl⟩:=List.mem_map.mp h;have:=List.mem_range.mp hk;omega
  · rintro ⟨h0,h1⟩;exact List.mem_map.mpr ⟨i.toNat,List.mem_range.mpr (by omega),by omega⟩
theorem xh (n:Nat):(ids n).length=n:=by simp
theorem xW (n:Nat):(ids n).Pairwise (· < ·):=by
  rw [List.pairwise_map];exact (List.pairwise_lt_range).imp fun h=>by omega
theorem tQ {l:List Int} (h:l.Pairwise (· < ·)):l.Nodup:=h.imp fun h=>by omega
noncomputable def Bn (f:Int->PyData) (n:Nat):List PyData:=(ids n).map f
noncomputable def oD:Option Int->PyData
  | none=>.none
  | some k=>.int k
noncomputable def Aq (s:PyData) (js:List Int):Prop:=s=.tuple (js.map .int)\/s=.list (js.map .int)
theorem Aq.inn {s:PyData} {js:List Int} (h:Aq s js) (neg:Bool) (k:Int):Ax neg (.int k) s=.ok (.bool (if neg then !pX js k else pX js k)):=by
  rcases h with rfl | rfl
  · exact AJ ..
  · exact AY ..
theorem Aq.len {s:PyData} {js:List Int} (h:Aq s js):eL s=.ok (.int js.length):=by
  rcases h with rfl | rfl <;> simp
structure ny (n:Nat) (js:List Int):Prop where
  lt:js.Pairwise (· < ·)
  inn:∀ x∈js,0<=x/\x < n
theorem ny.nd {n:Nat} {js:List Int} (h:ny n js):js.Nodup:=tQ h.lt
theorem ny.len {n:Nat} {js:List Int} (h:ny n js):js.length<=n:=by
  have:=i4 js 0 n h.lt h.inn;rcases this with z | z
  · rw [z];simp
  · omega
theorem ny.filter {n:Nat} {js:List Int} (h:ny n js) (p:Int->Bool):ny n (js.filter p):=⟨h.lt.filter _,fun x hx=>h.inn x (List.mem_filter.mp hx).1⟩
theorem ny.ids (n:Nat):ny n (ids n):=⟨xW n,fun x hx=>wS.mp hx⟩
noncomputable abbrev oT (f:Int->Option Int) (n:Nat):PyData:=.tuple (Bn (fun i=>oD (f i)) n)
theorem nR {n d e:Nat} (h:e<=n):HT.sIx n d (some (e:Int))=e:=by
  unfold HT.sIx;have h0:¬ ((e:Nat):Int) < 0:=by omega
  simp only [h0,if_false];simp;omega
theorem o7 (n d:Nat):HT.sIx n d none=d:=by
  unfold HT.sIx;rfl
theorem x0 {ds:List PyData} {e:Nat} (h:e<=ds.length):D2.iH ds (some (e:Int)) none=ds.drop e:=by
  unfold D2.iH;rw [nR h,o7];rw [List.take_of_length_le (by rw [List.length_drop];omega)]
theorem u9 {d:PyData} (hg:cN d) (hd:d.depth<=60):jP d d=.ok (.bool true):=by
  unfold jP;rw [if_pos (by unfold kg;rw [hg];simp;exact hd),PySem.SeqAt.eqv_refl d hg]
noncomputable def wl:List PyData->Prop:=fun ds=>∀ x∈ds,cN x/\x.depth=0
theorem wl.dep:∀ {ds:List PyData},wl ds->PyData.depthAll ds=0
  | [],_=>by simp [PyData.depthAll]
  | d::ds,h=>by simp [PyData.depthAll,(h d List.mem_cons_self).2,wl.dep fun x hx=>h x (List.mem_cons_of_mem _ hx)]
theorem vO (o:Option Int):cN (oD o)/\(oD o).depth=0:=by
  cases o
  · exact ⟨l0,by simp [oD,PyData.depth]⟩
  · exact ⟨gi _,by simp [oD,PyData.depth]⟩
theorem sR (ns:List Int):wl (ns.map .int):=fun x hx=>by
  obtain ⟨i,_,rfl⟩:=List.mem_map.mp hx;exact vO (some i)
theorem kc (a b c:Str):a++b++c=a++(b++c):=PySem.Str.append_assoc a b c
theorem A2 (a b:Str):(a++b).length=a.length+b.length:=PySem.Str.length_append a b
noncomputable def bl:Str:=Str.ofString " "
noncomputable def mt:Str:=Str.ofString ""
noncomputable def bq:List Str->Str
  | []=>mt
  | w::r=>bl++w++bq r
theorem yk (a:Str):mt++a=a:=by
  show Str.append mt a=a;unfold Str.append mt;have:(Str.ofString "").cps=#[]:=by decide
  rw [this];simp
theorem jH (a:Str):a++mt=a:=by
  show Str.append a mt=a;unfold Str.append mt;have:(Str.ofString "").cps=#[]:=by decide
  rw [this];simp
theorem eF:∀ a b:List Str,bq (a++b)=bq a++bq b
  | [],b=>(yk _).symm
  | w::r,b=>by
    show bl++w++bq (r++b)=bl++w++bq r++bq b;rw [eF r b,<- kc]
theorem i9 (w:Str):∀ r:List Str,Str.join bl (w::r)=w++bq r
  | []=>(jH w).symm
  | y::r=>by
    show w++bl++Str.join bl (y::r)=w++(bl++y++bq r)
    rw [i9 y r,kc,kc]
theorem rG:∀ r:List Str,Str.join mt (r.map fun w=>bl++w)=bq r
  | []=>by show Str.empty=mt;decide
  | [w]=>by show bl++w=bl++w++mt;rw [jH]
  | w::y::r=>by
    show bl++w++mt++Str.join mt ((y::r).map fun w=>bl++w)=bl++w++bq (y::r);rw [rG (y::r),jH]
theorem mG (sep:Str) (ts:List Str):Txt.join sep ts=Str.join sep ts:=StrLaws.glued_eq_join sep ts
noncomputable def sI (i:Int):Str:=Str.ofString (toString i)
noncomputable def Sm (i:Int):Prop:=-20<=i/\i<=24
theorem uA {i:Int} (h:Sm i):(sI i).length<=3/\PyData.strOk (sI i)=true:=by
  have all:∀ k:Fin 45,(sI ((k:Int)-20)).length<=3/\PyData.strOk (sI ((k:Int)-20))=true:=by decide +kernel
  have q:=all ⟨(i+20).toNat,by have:=h.1;have:=h.2;omega⟩;have e:(((⟨(i+20).toNat,by have:=h.1;have:=h.2;omega⟩:Fin 45):Nat):Int)-20=i:=by have:=h.1;simp;omega
  rw [e] at q;exact q
theorem hU {i:Int} (h:Sm i):gB (.int i)=.ok (.str (sI i)):=by
  show (if i.natAbs.log2 < 1920 then R.ok (PyData.str (sI i)) else .no)=_;rw [if_pos];refine Nat.lt_of_le_of_lt (Nat.log2_le_self _) ?_;have:=h.1;have:=h.2;omega
structure Tx (n:Nat) (x:Str):Prop where
  len:x.length<=n
  ok:PyData.strOk x=true
theorem Tx.app {a b:Nat} {x y:Str} (h:Tx a x) (g:Tx b y):Tx (a+b) (x++y):=by
  refine ⟨by rw [A2];have:=h.len;have:=g.len;omega,?_⟩;have h1:=h.ok;have h2:=g.ok;unfold PyData.strOk at h1 h2 ⊢;show ((x.cps++y.cps).all fun c=>decide (c < 0x110000))=true;rw [Array.all_append,h1,h2];rfl
theorem Tx.mono {a b:Nat} {x:Str} (h:Tx a x) (e:a<=b):Tx b x:=⟨Nat.le_trans h.len e,h.ok⟩
theorem zR:Tx 0 mt:=⟨by decide +kernel,by decide +kernel⟩
theorem lH:Tx 1 bl:=⟨by decide +kernel,by decide +kernel⟩
theorem gM {i:Int} (h:Sm i):Tx 3 (sI i):=⟨(uA h).1,(uA h).2⟩
theorem jr {n:Nat}:∀ {ws:List Str},(∀ w∈ws,Tx n w)->Tx (ws.length*(n+1)) (bq ws)
  | [],_=>zR.mono (Nat.zero_le _)
  | w::r,h=>by
    have h1:=(lH.app (h w List.mem_cons_self)).app (jr fun x hx=>h x (List.mem_cons_of_mem _ hx));refine h1.mono ?_;rw [List.length_cons,Nat.succ_mul];omega
theorem jq {n:Nat} {x:Str} (h:Tx n x):cN (.str x):=by
  have:=h.ok;simp only [cN,PyData.canLay0];exact this
theorem nT {d:PyData} {lo hi:Int} (h:iW d lo hi=true):∃ i,d=.int i/\lo<=i/\i<=hi:=by
  cases d with
  | int i=>simp only [iW,Bool.and_eq_true,decide_eq_true_eq] at h;exact ⟨i,rfl,h⟩
  | _=>cases h
theorem mC (c:Int):∀ (ds:List PyData) (l:Int),dA c l ds=true->∃ ns:List Int,ds=ns.map .int/\ns.Pairwise (· < ·)/\∀ x∈ns,l<=x/\x < c
  | [],l,_=>⟨[],rfl,.nil,by simp⟩
  | d::ds,l,h=>by
    cases d with
    | int i =>
      simp only [dA,Bool.and_eq_true,decide_eq_true_eq] at h;obtain ⟨⟨h1,h2⟩,h3⟩:=h;obtain ⟨ns,rfl,hp,hb⟩:=mC c ds (i+1) h3;refine ⟨i::ns,rfl,List.pairwise_cons.mpr ⟨fun y hy=>by have:=(hb y hy).1;omega,hp⟩,fun x hx=>?_⟩;rcases List.mem_cons.mp hx with rfl | hx
      · exact ⟨h1,h2⟩
      · have:=hb x hx;exact ⟨by omega,this.2⟩
    | _=>cases h
theorem vf {c:Int} {d:PyData} (h:bU c d=true):∃ p:P4,d=p.d/\Pl c 12 p:=by
  unfold bU at h;split at h
  · rename_i w m g s;simp only [Bool.and_eq_true] at h;obtain ⟨h1,h2,h3,h4⟩:=h;obtain ⟨w,rfl,a1,a2⟩:=nT h1;obtain ⟨m,rfl,a3,a4⟩:=nT h2;obtain ⟨g,rfl,a5,a6⟩:=nT h3;unfold hV at h4;split at h4
    · rename_i ds;rw [Bool.and_eq_true] at h4;obtain ⟨ns,rfl,hp,hb⟩:=mC c ds 0 h4.1;refine ⟨⟨w,m,g,ns⟩,rfl,⟨a1,a2,a3,a4,a5,a6,?_,hp,hb⟩⟩;intro z;have z':ns=[]:=z;rw [z'] at h4;simp at h4
    · cases h4
  · cases h
theorem l3 {c:Int}:∀ {ds:List PyData},ds.all (bU c)=true->∃ ps:List P4,ds=ps.map P4.d/\∀ p∈ps,Pl c 12 p
  | [],_=>⟨[],rfl,by simp⟩
  | d::ds,h=>by
    rw [List.all_cons,Bool.and_eq_true] at h;obtain ⟨p,rfl,hp⟩:=vf h.1;obtain ⟨ps,rfl,hps⟩:=l3 h.2;refine ⟨p::ps,rfl,fun q hq=>?_⟩;rcases List.mem_cons.mp hq with rfl | hq
    · exact hp
    · exact hps q hq
theorem tf {d:PyData} (h:cr d=true):∃ ps:List P4,d=gD ps/\1<=ps.length/\ps.length<=24/\∀ p∈ps,Pl ps.length 12 p:=by
  unfold cr at h;split at h
  · rename_i ds;simp only [Bool.and_eq_true,decide_eq_true_eq] at h;obtain ⟨ps,e,hps⟩:=l3 h.2;subst e;rw [List.length_map] at h hps;exact ⟨ps,rfl,h.1.1,h.1.2,hps⟩
  · cases h
end G
namespace G
open PySem PySem.Spec PyProof.Rows L2 D2 PySem.Builtin.Str
theorem ic {x:Str}:PyData.strOk x=true<->∀ c∈x.cps.toList,c < 0x110000:=by
  unfold PyData.strOk;rw [<- Array.all_toList,List.all_eq_true];simp
theorem kL (x:Str):x.length=x.cps.toList.length:=by simp [Str.length]
theorem kC {n:Nat} {x:Str} (h:Tx n x) (l u:Option Int):Tx n (Txt.slice x l u):=by
  refine ⟨Nat.le_trans (Txt.slice_le x l u) h.len,ic.mpr fun c hc=>ic.mp h.ok c ?_⟩;unfold Txt.slice at hc;split at hc
  · exact hc
  · have hc:c∈(strSliceIndices l u 1 x.length).filterMap (x.cps[·]?):=by simpa using hc
    obtain ⟨i,_,e⟩:=List.mem_filterMap.mp hc;have:c∈x.cps:=Array.mem_of_getElem? e;simpa using this
structure Ws (n:Nat) (ws:List Str):Prop where
  ok:∀ w∈ws,PyData.strOk w=true
  len:(ws.map (·.length)).sum+ws.length<=n
theorem kt:∀ {vs ws:List Str},vs.Sublist ws->(vs.map (·.length)).sum+vs.length<=(ws.map (·.length)).sum+ws.length
  | _,_,.slnil=>Nat.le_refl _
  | _,_,.cons _ h=>by
    have:=kt h;simp only [List.map_cons,List.sum_cons,List.length_cons];omega
  | _,_,.cons₂ _ h=>by
    have:=kt h;simp only [List.map_cons,List.sum_cons,List.length_cons];omega
theorem Ws.sub {n:Nat} {vs ws:List Str} (h:Ws n ws) (s:vs.Sublist ws):Ws n vs:=⟨fun w hw=>h.ok w (s.subset hw),Nat.le_trans (kt s) h.len⟩
theorem Ws.app {n m:Nat} {vs ws:List Str} (h:Ws n vs) (g:Ws m ws):Ws (n+m) (vs++ws):=by
  refine ⟨fun w hw=>?_,?_⟩
  · rcases List.mem_append.mp hw with z | z
    · exact h.ok w z
    · exact g.ok w z
  · have:=h.len;have:=g.len;rw [List.map_append,List.sum_append,List.length_append];omega
theorem Ws.one {n:Nat} {w:Str} (h:Tx n w):Ws (n+1) [w]:=⟨fun v hv=>by rw [List.mem_singleton.mp hv];exact h.ok,by have:=h.len;simp;omega⟩
theorem Ws.mem {n:Nat} {ws:List Str} (h:Ws n ws) {w:Str} (hw:w∈ws):Tx n w:=by
  refine ⟨?_,h.ok w hw⟩;have:=kt (List.singleton_sublist.mpr hw);have:=h.len;simp at *;omega
theorem mH {Y:List Nat}:∀ {ws:List (List Nat)} {w:List Nat},w∈ws->∀ c∈w,c∈bP Y ws
  | [v],w,h,c,hc=>by
    rw [List.mem_singleton.mp h] at hc;exact hc
  | v::u::r,w,h,c,hc=>by
    simp only [bP];rcases List.mem_cons.mp h with rfl | z
    · exact List.mem_append_left _ hc
    · exact List.mem_append_right _ (List.mem_append_right _ (mH z c hc))
theorem jA {Y:List Nat}:∀ {ws:List (List Nat)},ws≠[]->(bP Y ws).length+Y.length=(ws.map (·.length)).sum+ws.length*Y.length
  | [v],_=>by simp [bP]
  | v::u::r,_=>by
    have ih:=jA (Y:=Y) (ws:=u::r) (by simp);simp only [bP,List.length_append,List.map_cons,List.sum_cons,List.length_cons] at ih ⊢;rw [Nat.succ_mul];omega
theorem pk {Y:List Nat} {b:Nat} (hY:∀ c∈Y,c < b):∀ {ws:List (List Nat)},(∀ w∈ws,∀ c∈w,c < b)->∀ c∈bP Y ws,c < b
  | [],_,c,hc=>by cases hc
  | [v],h,c,hc=>h v List.mem_cons_self c hc
  | v::u::r,h,c,hc=>by
    simp only [bP] at hc;rcases List.mem_append.mp hc with z | z
    · exact h v List.mem_cons_self c z
    · rcases List.mem_append.mp z with z | z
      · exact hY c z
      · exact pk hY (fun w hw=>h w (List.mem_cons_of_mem _ hw)) c z
theorem jk (x y:Str):Txt.split x y≠[]:=by
  unfold Txt.split;split
  · simp
  · split
    · simp
    · unfold partsBetween;cases occurrences x y 0 x.length (x.length+1) <;> simp
theorem qk (x y:Str):Txt.join y (Txt.split x y)=x:=by
  have one:Txt.join y [x]=x:=ku (by
    have:=dM y [x];show (PySem.Builtin.Str.glued y [x]).cps.toList=_;simpa [bP] using this)
  unfold Txt.split;split
  · exact one
  · split
    · exact one
    · exact StrLaws.glued_between_self x y _
theorem jw {n:Nat} {x y:Str} (h:Tx n x) (hy:0 < y.length):Ws (n+1) (Txt.split x y):=by
  have e:=dM y (Txt.split x y);rw [show PySem.Builtin.Str.glued y (Txt.split x y)=x from qk x y] at e;refine ⟨fun w hw=>ic.mpr fun c hc=>ic.mp h.ok c ?_,?_⟩
  · rw [e];exact mH (List.mem_map.mpr ⟨w,hw,rfl⟩) c hc
  · have l:=jA (Y:=y.cps.toList) (ws:=(Txt.split x y).map fun w=>w.cps.toList) (by simpa using jk x y);rw [<- e,<- kL,<- kL,List.map_map,List.length_map] at l;have s:((Txt.split x y).map ((fun w:List Nat=>w.length)∘fun w:Str=>w.cps.toList)).sum=((Txt.split x y).map (·.length)).sum:=by
      exact congrArg List.sum (List.map_congr_left fun w _=>(kL w).symm)
    rw [s] at l;have hp:=List.length_pos_iff.mpr (jk x y);have hm:=h.len;obtain ⟨k,hk⟩:∃ k,(Txt.split x y).length=k+1:=⟨(Txt.split x y).length-1,by omega⟩
    obtain ⟨j,hj⟩:∃ j,y.length=j+1:=⟨y.length-1,by omega⟩
    rw [hk,hj,Nat.succ_mul] at l;have:k<=k*(j+1):=Nat.le_mul_of_pos_right k (by omega);omega
theorem kl {n:Nat} {ws:List Str} (h:Ws n ws):Tx n (Txt.join bl ws):=by
  have e:=dM bl ws;have hb:bl.cps.toList=[32]:=by decide +kernel
  refine ⟨?_,ic.mpr fun c hc=>?_⟩
  · by_cases hne:ws=[]
    · subst hne;have:(Txt.join bl []).length=0:=by decide +kernel
      omega
    · have l:=jA (Y:=bl.cps.toList) (ws:=ws.map fun w=>w.cps.toList) (by simpa using hne);rw [<- e,<- kL,hb,List.map_map,List.length_map] at l;have s:(ws.map ((fun w:List Nat=>w.length)∘fun w:Str=>w.cps.toList)).sum=(ws.map (·.length)).sum:=by
        exact congrArg List.sum (List.map_congr_left fun w _=>(kL w).symm)
      rw [s] at l;have:=h.len;simp at l;show (PySem.Builtin.Str.glued bl ws).length<=n;omega
  · have hc:c∈(PySem.Builtin.Str.glued bl ws).cps.toList:=hc;rw [e] at hc;refine pk (b:=0x110000) (by rw [hb];simp) (fun w hw=>?_) c hc;obtain ⟨v,hv,rfl⟩:=List.mem_map.mp hw;exact ic.mp (h.ok v hv)
theorem yF (ws:List Str) (lo hi:Option Int):∃ vs:List Str,D2.iH (ws.map .str) lo hi=vs.map .str/\vs.Sublist ws:=by
  unfold D2.iH;rw [<- List.map_drop,<- List.map_take];exact ⟨_,rfl,(List.take_sublist ..).trans (List.drop_sublist ..)⟩
theorem uu:(10000000:Nat)<=sizeLine:=by decide
theorem big {n:Nat} (h:n<=10000000):n<=sizeLine:=Nat.le_trans h uu
theorem jK:0 < bl.length:=by decide +kernel
theorem nv {n:Nat} {x y:Str} (h:Tx n x) (hn:n<=4000000) (hy:0 < y.length):fi (.str x) (.str y)=.ok (.list ((Txt.split x y).map .str)):=by
  show (if (y.length==0)=false/\x.length+2<=sizeLine then R.ok (PyData.list ((Txt.split x y).map PyData.str)) else .no)=_;rw [if_pos ⟨by simp;omega,big (by have:=h.len;omega)⟩]
theorem Ay {n:Nat} {x:Str} (h:Tx n x) (hn:n<=4000000) (lo hi:Option Int):vM (.str x) lo hi=.ok (.str (Txt.slice x lo hi)):=by
  show (if x.length<=sizeLine then R.ok (PyData.str (Txt.slice x lo hi)) else .no)=_;rw [if_pos (big (by have:=h.len;omega))]
theorem zb {n m:Nat} {x y:Str} (h:Tx n x) (g:Tx m y) (hn:n+m<=4000000):aY (.str x) (.str y)=.ok (.str (x++y)):=by
  have a:=h.len;have b:=g.len;show (if x.length+y.length<=sizeLine then R.ok (PyData.str (x++y)) else .no)=_;rw [if_pos (big (by omega))]
theorem rz {n:Nat} {ws:List Str} (h:Ws n ws) (hn:n<=4000000):eJ (Str.ofString " ") (.list (ws.map .str))=.ok (.str (Txt.join bl ws)):=by
  have a:=h.len;show (match iq (ws.map .str) with | some ys=>if ((ys:List Str).map (fun w:Str=>w.length)).sum+ys.length*(Str.ofString " ").length<=16777216 then R.ok (PyData.str (Txt.join (Str.ofString " ") ys)) else .no | none=>.no)=_;rw [fL];dsimp only;rw [show (Str.ofString " ").length=1 by decide +kernel,if_pos (by omega)];rfl
theorem ph {n m:Nat} {vs ws:List Str} (h:Ws n vs) (g:Ws m ws) (hn:n+m<=4000000):aY (.list (vs.map .str)) (.list (ws.map .str))=.ok (.list ((vs++ws).map .str)):=by
  have a:=h.len;have b:=g.len;rw [yw,if_pos (by rw [List.length_map,List.length_map];exact big (by omega)),List.map_append]
theorem Bh {z:Str} {n:Nat} {i:Int} (h:Tx n z) (h0:0<=i) (h1:i < z.length) (hn:n<=4000000):∃ w,eG (.str z) (.int i)=.ok (.str w)/\Tx 1 w:=by
  have hl:i.toNat < z.cps.toList.length:=by rw [<- kL];omega
  have e:atI z.cps.toList i=some (z.cps.toList[i.toNat]):=by
    unfold atI;have:L2.vK z.cps.toList.length i=some i.toNat:=by
      unfold L2.vK;rw [if_pos h0,if_pos (by rw [<- kL];exact h1)]
    rw [this];exact List.getElem?_eq_getElem hl
  refine ⟨⟨#[z.cps.toList[i.toNat]]⟩,?_,?_⟩
  · show (if z.length<=sizeLine then match atI z.cps.toList i with | some c=>R.ok (PyData.str ⟨#[c]⟩) | none=>_ else _)=_;rw [if_pos (big (by have:=h.len;omega)),e]
  · refine ⟨Nat.le_refl 1,ic.mpr fun c hc=>?_⟩;have:c=z.cps.toList[i.toNat]:=by simpa using hc
    rw [this];exact ic.mp h.ok _ (List.getElem_mem hl)
theorem zo {n:Nat} {ws:List Str} (h:Ws n ws) (lo hi:Option Int):∃ vs:List Str,vM (.list (ws.map .str)) lo hi=.ok (.list (vs.map .str))/\Ws n vs:=by
  obtain ⟨vs,e,s⟩:=yF ws lo hi;exact ⟨vs,by rw [rM,e],h.sub s⟩
noncomputable def lf:Str:=Str.ofString "ground place to end 0 1 2 -1 00 -0 12 13 20 21 24 100 007 x"
theorem rF:Tx 61 lf:=⟨by decide +kernel,by decide +kernel⟩
theorem uC:(Txt.split lf bl).length=18:=by decide +kernel
noncomputable def tR:Str:=Str.ofString " 0129-+aE\n\t_"
theorem wa:Tx 12 tR:=⟨by decide +kernel,by decide +kernel⟩
theorem uo:tR.length=12:=by decide +kernel
theorem qx {n:Nat} {x:Str} (h:Tx n x) (hn:n<=500000) {k:Int} (hk:0<=k):∃ y,bu [.str x,.int k]=.ok (.str y)/\Tx (4*n+100) y:=by
  have hW:=jw h jK;have hne:=jk x bl;have hsp:=nv h (by omega) jK;obtain ⟨ws,ews⟩:∃ ws,ws=Txt.split x bl:=⟨_,rfl⟩
  rw [<- ews] at hW hne hsp;have hl0:=List.length_pos_iff.mpr hne;have hwl:=hW.len;obtain ⟨at0,eat0⟩:∃ z:Int,z=k / 8%(ws.length:Int):=⟨_,rfl⟩
  obtain ⟨pl,epl⟩:∃ z:Int,z=k / 8%((x.length:Int)+1):=⟨_,rfl⟩
  obtain ⟨kd,ekd⟩:∃ z:Int,z=k%8:=⟨_,rfl⟩
  obtain ⟨at1,eat1⟩:∃ z:Int,z=if k / 8%6=1 then 1 else at0:=⟨_,rfl⟩
  have hlx:eL (.str x)=.ok (.int x.length):=by
    show (if x.length<=sizeLine then R.ok (PyData.int x.length) else .no)=_;rw [if_pos (big (by have:=h.len;omega))]
  unfold bu fT;have fin:∀ {s:Fs} {y:Str},s [.val (.str x),.val (.int k),.val (.list (ws.map .str)),.val (.int at1),.val (.int pl),.val (.int kd),.non,.non,.non]=.ok (.rt (.str y))->dX 9 (aU (cm 2 (eR (ag 0) (eC (.str (PySem.Str.ofString " "))))) (aU (cm 3 (e2 dF (e2 gk (ag 1) (eC (.int 8))) (e1 eL (ag 2)))) (aU (cm 4 (e2 dF (e2 gk (ag 1) (eC (.int 8))) (e2 aY (e1 eL (ag 0)) (eC (.int 1))))) (aU (cm 5 (e2 dF (ag 1) (eC (.int 8)))) (aU (iE (tE (e2 (jP) (e2 dF (e2 gk (ag 1) (eC (.int 8))) (eC (.int 6))) (eC (.int 1)))) (cm 3 (eC (.int 1))) bX) s))))) [.str x,.int k]=.ok (.str y):=fun {s y} hs=>by
    refine jt ?_;rw [show ([.str x,.int k].map cg.val++List.replicate (9 - [PyData.str x,PyData.int k].length) cg.non)=[.val (.str x),.val (.int k),.non,.non,.non,.non,.non,.non,.non] from rfl];rw [aD (ρ':=[.val (.str x),.val (.int k),.val (.list (ws.map .str)),.non,.non,.non,.non,.non,.non]) (by
      rw [bH];show ((fi (.str x) (.str bl))>>=_)=_;rw [hsp];rfl)]
    rw [aD (ρ':=[.val (.str x),.val (.int k),.val (.list (ws.map .str)),.val (.int at0),.non,.non,.non,.non,.non]) (by
      simp only [bH,bR,eO,aW,aC,bW,R.ok_bind,jL];rw [if_pos (by decide),R.ok_bind,vg,R.ok_bind,gL,List.length_map,if_pos (by omega),<- eat0];rfl)]
    rw [aD (ρ':=[.val (.str x),.val (.int k),.val (.list (ws.map .str)),.val (.int at0),.val (.int pl),.non,.non,.non,.non]) (by
      simp only [bH,bR,eO,aW,aC,bW,R.ok_bind,jL];rw [if_pos (by decide),R.ok_bind,hlx,R.ok_bind,fx,R.ok_bind,gL,if_pos (by omega),<- epl];rfl)]
    rw [aD (ρ':=[.val (.str x),.val (.int k),.val (.list (ws.map .str)),.val (.int at0),.val (.int pl),.val (.int kd),.non,.non,.non]) (by
      simp only [bH,bR,eO,aW,aC,bW,R.ok_bind,gL];rw [if_pos (by decide),<- ekd];rfl)]
    rw [aD (ρ':=[.val (.str x),.val (.int k),.val (.list (ws.map .str)),.val (.int at1),.val (.int pl),.val (.int kd),.non,.non,.non]) (by
      simp only [dH,fy,bR,aW,aC,bW,R.ok_bind,jL];rw [if_pos (by decide),R.ok_bind,gL,if_pos (by decide),R.ok_bind,iL,R.ok_bind,eI,R.ok_bind,eat1];by_cases z:k / 8%6=1
      · rw [decide_eq_true z,if_pos rfl,if_pos z];rfl
      · rw [decide_eq_false z,if_neg (by simp),if_neg z];rfl)]
    exact hs
  have s1:=kC h none (some pl);have t1:=Ay h (by omega) none (some pl);have hkd:0<=kd/\kd < 8:=by omega
  by_cases k0:kd=0
  · have s2:=kC h (some (pl+1)) none;have t2:=Ay h (by omega) (some (pl+1)) none;refine ⟨_,fin (y:=Txt.slice x none (some pl)++Txt.slice x (some (pl+1)) none) (iX ?_),(s1.app s2).mono (by omega)⟩;simp only [dH,fy,bR,aW,aC,bW,R.ok_bind,iL,eI,decide_eq_true k0,if_true,dB,fq,dt,c9,il,t1,fx,t2,zb s1 s2 (by omega)]
  · have skip0:(iE (tE (e2 (jP) (ag 5) (eC (.int 0)))) (cq (e2 aY (kw (ag 0) dJ (cH (ag 4))) (kw (ag 0) (cH (e2 aY (ag 4) (eC (.int 1)))) dJ))) bX) [.val (.str x),.val (.int k),.val (.list (ws.map .str)),.val (.int at1),.val (.int pl),.val (.int kd),.non,.non,.non]=.ok (.nx [.val (.str x),.val (.int k),.val (.list (ws.map .str)),.val (.int at1),.val (.int pl),.val (.int kd),.non,.non,.non]):=by
      simp only [dH,fy,bR,aW,aC,bW,R.ok_bind,iL,eI,decide_eq_false k0];rfl
    by_cases k1:kd < 3
    · obtain ⟨w,hw,tw⟩:=Bh wa (i:=k / 7%12) (by omega) (by rw [uo];omega) (by omega);have s2:=kC h (some (pl+kd-1)) none;have t2:=Ay h (by omega) (some (pl+kd-1)) none;refine ⟨_,fin (y:=Txt.slice x none (some pl)++w++Txt.slice x (some (pl+kd-1)) none) ?_,((s1.app tw).app s2).mono (by omega)⟩;rw [aD skip0];refine iX ?_;rw [dH];simp only [fy,bR,aW,aC,bW,R.ok_bind,qH,eI];rw [show qg kd 3=true from decide_eq_true k1,if_pos rfl];rw [aD (ρ':=[.val (.str x),.val (.int k),.val (.list (ws.map .str)),.val (.int at1),.val (.int pl),.val (.int kd),.val (.str w),.non,.non]) (by
        simp only [bH,bR,aW,aC,bW,R.ok_bind,jL];rw [if_pos (by decide),R.ok_bind,gL,if_pos (by decide),R.ok_bind];show (eG (.str tR) (.int (k / 7%12))>>=_)=_;rw [hw];rfl)]
      simp only [dB,bR,fq,dt,c9,aW,aC,bW,R.ok_bind,il,t1,zb s1 tw (by omega),fx,ze,t2,zb (s1.app tw) s2 (by omega)]
    · have skE:∀ (A:Fs) (c:Int),kd≠c->(iE (tE (e2 (jP) (ag 5) (eC (.int c)))) A bX) [.val (.str x),.val (.int k),.val (.list (ws.map .str)),.val (.int at1),.val (.int pl),.val (.int kd),.non,.non,.non]=.ok (.nx [.val (.str x),.val (.int k),.val (.list (ws.map .str)),.val (.int at1),.val (.int pl),.val (.int kd),.non,.non,.non]):=fun A c hc=>by
        simp only [dH,fy,bR,aW,aC,bW,R.ok_bind,iL,eI,decide_eq_false hc];rfl
      have skL:∀ (A:Fs),(iE (tE (e2 (fF qg) (ag 5) (eC (.int 3)))) A bX) [.val (.str x),.val (.int k),.val (.list (ws.map .str)),.val (.int at1),.val (.int pl),.val (.int kd),.non,.non,.non]=.ok (.nx [.val (.str x),.val (.int k),.val (.list (ws.map .str)),.val (.int at1),.val (.int pl),.val (.int kd),.non,.non,.non]):=fun A=>by
        simp only [dH,fy,bR,aW,aC,bW,R.ok_bind,qH,eI];rw [show qg kd 3=false from decide_eq_false k1];rfl
      obtain ⟨v1,e1',w1⟩:=zo hW none (some at1);obtain ⟨v2,e2',w2⟩:=zo hW (some (at1+1)) none;have sl1:=w1;by_cases k3:kd=3
      · refine ⟨_,fin (y:=Txt.join bl (v1++v2)) ?_,(kl (w1.app w2)).mono (by omega)⟩;rw [aD skip0,aD (skL _)];refine iX ?_;simp only [dH,fy,eO,bR,aW,aC,bW,R.ok_bind,iL,eI,decide_eq_true k3,if_true,dB,fq,dt,c9,il,e1',fx,e2',ph w1 w2 (by omega),rz (w1.app w2) (by omega)]
      · obtain ⟨v3,e3',w3⟩:=zo hW (some at1) (some (at1+1));by_cases k4:kd=4
        · obtain ⟨v4,e4',w4⟩:=zo hW (some at1) none;refine ⟨_,fin (y:=Txt.join bl (v1++v3++v4)) ?_,(kl ((w1.app w3).app w4)).mono (by omega)⟩;rw [aD skip0,aD (skL _),aD (skE _ 3 k3)];refine iX ?_;simp only [dH,fy,eO,bR,aW,aC,bW,R.ok_bind,iL,eI,decide_eq_true k4,if_true,dB,fq,dt,c9,il,e1',fx,e3',e4',ph w1 w3 (by omega),ph (w1.app w3) w4 (by omega),rz ((w1.app w3).app w4) (by omega)]
        · by_cases k5:kd=5
          · obtain ⟨v5,e5',w5⟩:=zo hW (some (at1+1)) (some (at1+2));obtain ⟨v6,e6',w6⟩:=zo hW (some (at1+2)) none;refine ⟨_,fin (y:=Txt.join bl (v1++(v5++v3)++v6)) ?_,(kl ((w1.app (w5.app w3)).app w6)).mono (by omega)⟩;rw [aD skip0,aD (skL _),aD (skE _ 3 k3),aD (skE _ 4 k4)];refine iX ?_;rw [dH];simp only [fy,bR,aW,aC,bW,R.ok_bind,iL,eI,decide_eq_true k5,if_true];rw [aD (ρ':=[.val (.str x),.val (.int k),.val (.list (ws.map .str)),.val (.int at1),.val (.int pl),.val (.int kd),.non,.val (.list ((v5++v3).map .str)),.non]) (by
              simp only [bH,bR,fq,dt,c9,aW,aC,bW,R.ok_bind,il,fx,e5',e3',ph w5 w3 (by omega)];rfl)]
            simp only [dB,eO,bR,fq,dt,c9,aW,aC,bW,R.ok_bind,il,fx,e1',e6',ph w1 (w5.app w3) (by omega),ph (w1.app (w5.app w3)) w6 (by omega),rz ((w1.app (w5.app w3)).app w6) (by omega)]
          · have hS:=jw rF jK;have hi:(k / 7%18).toNat < (Txt.split lf bl).length:=by rw [uC];omega
            obtain ⟨wd,ewd⟩:∃ wd,wd=(Txt.split lf bl)[(k / 7%18).toNat]:=⟨_,rfl⟩
            have tw:Tx 62 wd:=by rw [ewd];exact hS.mem (List.getElem_mem hi)
            have hix:eG (.list ((Txt.split lf bl).map .str)) (.int (k / 7%18))=.ok (.str wd):=by
              rw [qU (by omega) (by rw [List.length_map];omega),ewd];simp
            have ho:Ws 63 [wd]:=Ws.one tw;refine ⟨_,fin (y:=Txt.join bl (v1++[wd]++v2)) ?_,(kl ((w1.app ho).app w2)).mono (by omega)⟩;rw [aD skip0,aD (skL _),aD (skE _ 3 k3),aD (skE _ 4 k4),aD (skE _ 5 k5)];rw [aD (ρ':=[.val (.str x),.val (.int k),.val (.list (ws.map .str)),.val (.int at1),.val (.int pl),.val (.int kd),.non,.non,.val (.list ((Txt.split lf bl).map .str))]) (by
              rw [bH];show (fi (.str lf) (.str bl)>>=_)=_;rw [nv rF (by omega) jK];rfl)]
            simp only [dB,eO,bR,fq,v8,bA,bM,dt,c9,aW,aC,bW,R.ok_bind,il,fx,e1',e2',jL,gL];rw [if_pos (by decide),R.ok_bind,gL,if_pos (by decide),R.ok_bind,hix,R.ok_bind,R.ok_bind,if_pos (by show 1<=_;decide),R.ok_bind];have a1:=ph w1 ho (by omega);have a2:=ph (w1.app ho) w2 (by omega);rw [show ([PyData.str wd]:List PyData)=[wd].map .str from rfl,a1,R.ok_bind,a2,R.ok_bind,rz ((w1.app ho).app w2) (by omega)];rfl
end G
namespace G
open PySem PySem.Spec PyProof.Rows L2 D2
noncomputable def dG:Str:=Str.ofString "place"
noncomputable def pU:Str:=Str.ofString "to"
noncomputable def lF:Str:=Str.ofString "end"
noncomputable def cO:Str:=Str.ofString "ground"
noncomputable def bL (p:P4):List Str:=[dG,sI p.w,sI p.m,sI p.g,pU]++p.ns.map sI++[lF]
noncomputable def bw (ps:List P4):List Str:=ps.flatMap bL
noncomputable def cW (ps:List P4):Str:=cO++bq (sI ps.length::bw ps)
theorem Pl.sm {c:Int} {p:P4} (h:Pl c 12 p) (hc:c<=24):Sm p.w/\Sm p.m/\Sm p.g/\∀ x∈p.ns,Sm x:=by
  have h1:=h.w0;have h2:=h.w1;have h3:=h.m0;have h4:=h.m1;have h5:=h.g0;have h6:=h.g1;refine ⟨⟨by omega,by omega⟩,⟨by omega,by omega⟩,⟨by omega,by omega⟩,fun x hx=>?_⟩;have:=h.inn x hx;exact ⟨by omega,by omega⟩
theorem jI {f:Fe} {ρ:aI} {g:Int->Str}:∀ ns:List Int,(∀ x∈ns,f (ρ.set 0 (.val (.int x)))=.ok (.str (g x)))->cw (bn 0) (fun _=>.ok true) f ρ (ns.map .int)=.ok ((ns.map g).map .str)
  | [],_=>iC ..
  | x::ns,h=>by
    rw [List.map_cons,dE,h x List.mem_cons_self,jI ns fun y hy=>h y (List.mem_cons_of_mem _ hy)];rfl
theorem Bm (p:P4):eG p.d (.int 0)=.ok (.int p.w):=rfl
theorem Bk (p:P4):eG p.d (.int 1)=.ok (.int p.m):=rfl
theorem Bl (p:P4):eG p.d (.int 2)=.ok (.int p.g):=rfl
theorem Ba (p:P4):eG p.d (.int 3)=.ok (.tuple (p.ns.map .int)):=rfl
theorem tL {c:Int} {p:P4} (h:Pl c 12 p) (hc:c<=24):aM [p.d]=.ok (.list ((bL p).map .str)):=by
  obtain ⟨a1,a2,a3,a4⟩:=h.sm hc;have hl:=h.len;have s5:5<=sizeLine:=by decide
  have sn:p.ns.length<=sizeLine:=iz (by omega);have sx:p.ns.length+5<=sizeLine:=iz (by omega);have sy:p.ns.length+5 < sizeLine:=Nat.lt_of_le_of_lt (show p.ns.length+5<=1000 by omega) (by decide);have hcomp:=jI (f:=e1 gB (ag 0)) (ρ:=av 1 [] [.val p.d,.own (.list [.str dG,.str (sI p.w),.str (sI p.m),.str (sI p.g),.str pU])]) (g:=sI) p.ns fun x hx=>by simp [av,List.replicate,hU (a4 x hx)]
  unfold aM eh;refine jt ?_;show _=R.ok (oP.rt (PyData.list ((bL p).map .str)));rw [show ([p.d].map cg.val++List.replicate (2 - [p.d].length) cg.non)=[.val p.d,.non] from rfl];rw [aD (ρ':=[.val p.d,.own (.list [.str dG,.str (sI p.w),.str (sI p.m),.str (sI p.g),.str pU])]) (by simp [Bm,Bk,Bl,hU a1,hU a2,hU a3,s5,dG,pU])];rw [aD (ρ':=[.val p.d,.own (.list ([.str dG,.str (sI p.w),.str (sI p.m),.str (sI p.g),.str pU]++(p.ns.map sI).map .str))]) (by
    have hE:(cR (gK (e2 eG (ag 0) (eC (.int 3)))) 1 [] (bn 0) (fun _=>.ok true) (e1 gB (ag 0))) [.val p.d,.own (.list [.str dG,.str (sI p.w),.str (sI p.m),.str (sI p.g),.str pU])]=.ok (.list ((p.ns.map sI).map .str)):=by
      rw [dS];simp only [fK,bR,aC,bW,R.ok_bind,Ba,kH,fW];rw [if_pos (by simpa using sn),hcomp];rfl
    unfold fO;rw [hE];simp only [fW,R.ok_bind,List.getElem?_cons_succ,List.getElem?_cons_zero];rw [if_pos (by simp;omega)];rfl)]
  rw [aD (ρ':=[.val p.d,.own (.list ((bL p).map .str))]) (by
    unfold kj;simp only [bW,fW,R.ok_bind,List.getElem?_cons_succ,List.getElem?_cons_zero];rw [if_pos (by simp;omega)];simp [bL,lF])]
  rfl
theorem lL (d:PyData) {c:Int} (hc:c<=24):∀ (ps:List P4) (acc:List Str) (x:cg),(∀ p∈ps,Pl c 12 p)->acc.length+ps.length*40<=10000 ->
    ∃ x',gf (bn 2) (fO 1 (aJ aM (ai (ag 2) aB))) (ps.map P4.d) [.val d,.own (.list (acc.map .str)),x]=.ok (.nx [.val d,.own (.list ((acc++bw ps).map .str)),x'])
  | [],acc,x,_,_=>⟨x,by rw [List.map_nil,fZ];simp [bw]⟩
  | p::ps,acc,x,h,hl=>by
    have P:=h p List.mem_cons_self;have lp:=P.len;have hw:(bL p).length<=40:=by simp [bL];omega
    have hz:acc.length+(bL p).length<=sizeLine:=Nat.le_trans (show acc.length+(bL p).length<=10000 by rw [List.length_cons] at hl;omega) (by decide);obtain ⟨x',e⟩:=lL d hc ps (acc++bL p) (.val p.d) (fun q hq=>h q (List.mem_cons_of_mem _ hq)) (by rw [List.length_append];rw [List.length_cons] at hl;omega);refine ⟨x',?_⟩;have e2:acc++bw (p::ps)=acc++bL p++bw ps:=by simp [bw]
    rw [List.map_cons,dN,e2,<- e];have hs:(fO 1 (aJ aM (ai (ag 2) aB))) (([.val d,.own (.list (acc.map .str)),x]:aI).set 2 (.val p.d))=.ok (.nx [.val d,.own (.list ((acc++bL p).map .str)),.val p.d]):=by
      unfold fO;simp [tL P hc];exact hz
    rw [hs];rfl
theorem o8 {c:Int} (hc:c<=24) {ps:List P4} (h:∀ p∈ps,Pl c 12 p):∀ w∈bw ps,Tx 5 w:=fun w hw=>by
  unfold bw at hw;obtain ⟨p,hp,hw⟩:=List.mem_flatMap.mp hw;obtain ⟨a1,a2,a3,a4⟩:=(h p hp).sm hc;unfold bL at hw;simp at hw;rcases hw with rfl | rfl | rfl | rfl | rfl | ⟨x,hx,rfl⟩ | rfl
  · exact ⟨by decide +kernel,by decide +kernel⟩
  · exact (gM a1).mono (by omega)
  · exact (gM a2).mono (by omega)
  · exact (gM a3).mono (by omega)
  · exact ⟨by decide +kernel,by decide +kernel⟩
  · exact (gM (a4 x hx)).mono (by omega)
  · exact ⟨by decide +kernel,by decide +kernel⟩
theorem jN {c:Int} (hc:c<=24):∀ {ps:List P4},(∀ p∈ps,Pl c 12 p)->(bw ps).length<=ps.length*40
  | [],_=>by simp [bw]
  | p::ps,h=>by
    have lp:=(h p List.mem_cons_self).len;have:=jN hc (ps:=ps) fun q hq=>h q (List.mem_cons_of_mem _ hq)
    have e:(bw (p::ps)).length=(bL p).length+(bw ps).length:=by simp [bw]
    rw [e,List.length_cons];have hw:(bL p).length<=40:=by simp [bL];omega
    omega
theorem nU:∀ {ws:List Str} {n:Nat},(∀ w∈ws,Tx n w)->(ws.map (·.length)).sum<=ws.length*n
  | [],n,_=>by simp
  | w::ws,n,h=>by
    have h1:=(h w List.mem_cons_self).len;have h2:=nU fun x hx=>h x (List.mem_cons_of_mem _ hx)
    rw [List.map_cons,List.sum_cons,List.length_cons,Nat.succ_mul];omega
theorem kq {ps:List P4} (hl:ps.length<=24) (h:∀ p∈ps,Pl ps.length 12 p):Tx 7000 (cW ps):=by
  have a:=jN (c:=ps.length) (by omega) h;have hw:∀ w∈sI ps.length::bw ps,Tx 5 w:=fun w hw=>by
    rcases List.mem_cons.mp hw with rfl | hw
    · exact (gM ⟨by omega,by omega⟩).mono (by omega)
    · exact o8 (c:=ps.length) (by omega) h w hw
  have t:=jr hw;have g:Tx 6 cO:=⟨by decide +kernel,by decide +kernel⟩
  refine (g.app t).mono ?_;rw [List.length_cons];omega
theorem qz {ps:List P4} (h0:1<=ps.length) (hl:ps.length<=24) (h:∀ p∈ps,Pl ps.length 12 p) (hg:cN (gD ps)) (hb:cr (gD ps)=true):cy [gD ps]=.ok (.str (cW ps)):=by
  obtain ⟨x',e⟩:=lL (gD ps) (c:=ps.length) (by omega) ps [cO,sI ps.length] .non h (by simp;omega);have s2:2<=sizeLine:=by decide
  have sn:Sm ps.length:=⟨by omega,by omega⟩
  have hw:∀ w∈cO::sI ps.length::bw ps,Tx 6 w:=fun w hw=>by
    rcases List.mem_cons.mp hw with rfl | hw
    · exact ⟨by decide +kernel,by decide +kernel⟩
    · rcases List.mem_cons.mp hw with rfl | hw
      · exact (gM sn).mono (by omega)
      · exact (o8 (c:=ps.length) (by omega) h w hw).mono (by omega)
  have l1:=jN (c:=ps.length) (by omega) h;have l2:=nU hw;have lb:(Str.ofString " ").length=1:=by decide +kernel
  have hj:eJ (Str.ofString " ") (.list ((cO::sI ps.length::bw ps).map .str))=.ok (.str (cW ps)):=by
    unfold eJ;dsimp only;rw [fL];dsimp only;rw [if_pos (by rw [lb];simp only [List.length_cons] at l2 ⊢;omega),mG];show R.ok (PyData.str (Str.join bl _))=_;rw [i9];rfl
  unfold cy jO;refine jt ?_;rw [show ([gD ps].map cg.val++List.replicate (3 - [gD ps].length) cg.non)=[.val (gD ps),.non,.non] from rfl];rw [aD (ρ':=[.val (gD ps),.non,.non]) (by simp [mI hg,hb])];rw [aD (ρ':=[.val (gD ps),.own (.list [.str cO,.str (sI ps.length)]),.non]) (by simp [hU sn,s2,cO])];rw [aD (ρ':=[.val (gD ps),.own (.list ((cO::sI ps.length::bw ps).map .str)),x']) (by
    simp only [nL,iB,fK,aC,R.ok_bind,kH];have e':=e;simp only [List.map_cons,List.map_nil] at e';rw [e'];rfl)]
  simp only [dB,eO,wz,xp,R.ok_bind,hj]
theorem iY {a b:Nat} {x y:Str} (h:Tx a x) (g:Tx b y) (hl:a+b<=100000):aY (.str x) (.str y)=.ok (.str (x++y)):=by
  show (if x.length+y.length<=sizeLine then R.ok (PyData.str (x++y)) else .no)=_;rw [if_pos];have:=h.len;have:=g.len;exact Nat.le_trans (show x.length+y.length<=100000 by omega) (by decide)
theorem uW {it:aI->R (List PyData)} {ρ:aI} {ns:List Int} (h:it ρ=.ok (ns.map .int)) (hs:∀ x∈ns,Sm x) (hl:ns.length<=100) :
    e1 (eJ (Str.ofString "")) (cR it 1 [] (bn 0) (fun _=>.ok true) (e2 aY (eC (.str (Str.ofString " "))) (e1 gB (ag 0)))) ρ=.ok (.str (bq (ns.map sI))):=by
  have hc:=jI (f:=e2 aY (eC (.str (Str.ofString " "))) (e1 gB (ag 0))) (ρ:=av 1 [] ρ) (g:=fun x=>bl++sI x) ns fun x hx=>by
    have e:aY (.str (Str.ofString " ")) (.str (sI x))=.ok (.str (bl++sI x)):=iY lH (gM (hs x hx)) (by omega);simp [av,List.replicate,hU (hs x hx),e]
  have hz:(ns.map PyData.int).length<=sizeLine:=by rw [List.length_map];exact iz (by omega)
  rw [eO,dS,h,fW,R.ok_bind,if_pos hz,hc,rl,R.ok_bind];have hw:∀ w∈ns.map (fun x=>bl++sI x),Tx 4 w:=fun w hw=>by
    obtain ⟨x,hx,rfl⟩:=List.mem_map.mp hw;exact lH.app (gM (hs x hx))
  have l2:=nU hw;rw [List.length_map] at l2;have lm:(Str.ofString "").length=0:=by decide +kernel
  unfold eJ;dsimp only;rw [fL];dsimp only;rw [if_pos (by rw [lm];omega),mG];have:=rG (ns.map sI);rw [List.map_map] at this;show R.ok (PyData.str (Str.join mt (ns.map fun x=>bl++sI x)))=_;rw [<- this];rfl
theorem tX:Str.ofString " place" = bl++dG:=by decide +kernel
theorem zw:Str.ofString " to" = bl++pU:=by decide +kernel
theorem zf:Str.ofString " end" = bl++lF:=by decide +kernel
theorem sw:Str.ofString "ground " = cO++bl:=by decide +kernel
theorem pY (w:Str):bq [w]=bl++w:=jH _
theorem n8 (p:P4):bq (bL p)=bl++dG++(bq [sI p.w,sI p.m,sI p.g]++(bl++pU++(bq (p.ns.map sI)++(bl++lF)))):=by
  unfold bL;rw [show [dG,sI p.w,sI p.m,sI p.g,pU]=[dG]++([sI p.w,sI p.m,sI p.g]++[pU]) from rfl];rw [eF,eF,eF,eF,pY,pY,pY];simp only [kc]
theorem kn (p:P4):vM p.d none (some 3)=.ok (.tuple ([p.w,p.m,p.g].map .int)):=rfl
noncomputable def mV:Fs:=(aU (cm 1 (e2 aY (e2 aY (e2 aY (ag 1) (eC (.str (PySem.Str.ofString " place")))) (e1 (eJ (PySem.Str.ofString "")) (cR (gK (kw (ag 2) dJ (cH (eC (.int 3))))) 1 [] (bn 0) (fun _=>.ok true) (e2 aY (eC (.str (PySem.Str.ofString " "))) (e1 gB (ag 0)))))) (eC (.str (PySem.Str.ofString " to"))))) (cm 1 (e2 aY (e2 aY (ag 1) (e1 (eJ (PySem.Str.ofString "")) (cR (gK (e2 eG (ag 2) (eC (.int 3)))) 1 [] (bn 0) (fun _=>.ok true) (e2 aY (eC (.str (PySem.Str.ofString " "))) (e1 gB (ag 0)))))) (eC (.str (PySem.Str.ofString " end"))))))
theorem wm (d:PyData) {c:Int} (hc:c<=24) {p:P4} (P:Pl c 12 p) {n:Nat} {acc:Str} (ha:Tx n acc) (hn:n<=20000):mV [.val d,.val (.str acc),.val p.d]=.ok (.nx [.val d,.val (.str (acc++bq (bL p))),.val p.d])/\Tx (n+200) (acc++bq (bL p)):=by
  obtain ⟨a1,a2,a3,a4⟩:=P.sm hc;have hl:=P.len;have s3:∀ x∈[p.w,p.m,p.g],Sm x:=fun x hx=>by
    simp at hx;rcases hx with rfl | rfl | rfl
    · exact a1
    · exact a2
    · exact a3
  have tP:Tx 6 (bl++dG):=lH.app (b:=5) ⟨by decide +kernel,by decide +kernel⟩;have tT:Tx 3 (bl++pU):=lH.app (b:=2) ⟨by decide +kernel,by decide +kernel⟩;have tE:Tx 4 (bl++lF):=lH.app (b:=3) ⟨by decide +kernel,by decide +kernel⟩;have t3:Tx 12 (bq ([p.w,p.m,p.g].map sI)):=(jr (ws:=[p.w,p.m,p.g].map sI) (n:=3) fun w hw=>by
    obtain ⟨x,hx,rfl⟩:=List.mem_map.mp hw;exact gM (s3 x hx)).mono (by simp)
  have tN:Tx 96 (bq (p.ns.map sI)):=(jr (n:=3) fun w hw=>by
    obtain ⟨x,hx,rfl⟩:=List.mem_map.mp hw;exact gM (a4 x hx)).mono (by rw [List.length_map];omega)
  have e0:(gK (kw (ag 2) dJ (cH (eC (.int 3))))) [.val d,.val (.str acc),.val p.d]=.ok ([p.w,p.m,p.g].map .int):=by
    simp only [fK,fq,aW,aC,dt,c9,bW,R.ok_bind,il,kn,kH]
  have j1:=uW e0 s3 (by simp);generalize hA:acc++(bl++dG)++bq ([p.w,p.m,p.g].map sI)++(bl++pU)=A;have tA:Tx (n+21) A:=by rw [<- hA];exact (((ha.app tP).app t3).app tT).mono (by omega)
  have e1':(gK (e2 eG (ag 2) (eC (.int 3)))) [.val d,.val (.str A),.val p.d]=.ok (p.ns.map .int):=by
    simp only [fK,bR,aW,aC,bW,R.ok_bind,Ba,kH]
  have j2:=uW e1' a4 (by omega);have fin:A++bq (p.ns.map sI)++(bl++lF)=acc++bq (bL p):=by
    rw [<- hA,n8];simp only [kc];rfl
  refine ⟨?_,?_⟩
  · unfold mV;rw [aD (ρ':=[.val d,.val (.str A),.val p.d]) (by
      rw [bH,bR,bR,bR,j1];simp only [aW,aC,bW,R.ok_bind,tX,zw];rw [iY ha tP (by omega),R.ok_bind,iY (ha.app tP) t3 (by omega),R.ok_bind,iY ((ha.app tP).app t3) tT (by omega),R.ok_bind,hA];rfl)]
    rw [bH,bR,bR,j2];simp only [aW,aC,bW,R.ok_bind,zf];rw [iY tA tN (by omega),R.ok_bind,iY (tA.app tN) tE (by omega),R.ok_bind,fin];rfl
  · rw [<- fin];exact ((tA.app tN).app tE).mono (by omega)
theorem qT (d:PyData) {c:Int} (hc:c<=24):∀ (ps:List P4) (n:Nat) (acc:Str) (x:cg),(∀ p∈ps,Pl c 12 p)->Tx n acc->n+ps.length*200<=20000 ->
    ∃ x',gf (bn 2) mV (ps.map P4.d) [.val d,.val (.str acc),x]=.ok (.nx [.val d,.val (.str (acc++bq (bw ps))),x'])
  | [],n,acc,x,_,_,_=>⟨x,by rw [List.map_nil,fZ];show _=R.ok (oP.nx [.val d,.val (.str (acc++mt)),x]);rw [jH]⟩
  | p::ps,n,acc,x,h,ha,hl=>by
    rw [List.length_cons] at hl;obtain ⟨e1,t1⟩:=wm d hc (h p List.mem_cons_self) ha (by omega);obtain ⟨x',e⟩:=qT d hc ps (n+200) (acc++bq (bL p)) (.val p.d) (fun q hq=>h q (List.mem_cons_of_mem _ hq)) t1 (by omega);refine ⟨x',?_⟩;have e2:acc++bq (bw (p::ps))=acc++bq (bL p)++bq (bw ps):=by
      rw [show bw (p::ps)=bL p++bw ps by simp [bw],eF,<- kc]
    rw [List.map_cons,dN,e2,<- e];rw [show (([.val d,.val (.str acc),x]:aI).set 2 (.val p.d))=[.val d,.val (.str acc),.val p.d] from rfl,e1];rfl
theorem gU {ps:List P4} (hl:ps.length<=24) (h:∀ p∈ps,Pl ps.length 12 p):bj [gD ps]=.ok (.str (cW ps)):=by
  have sn:Sm ps.length:=⟨by omega,by omega⟩
  have tG:Tx 7 (cO++bl):=Tx.app (a:=6) ⟨by decide +kernel,by decide +kernel⟩ lH;obtain ⟨x',e⟩:=qT (gD ps) (c:=ps.length) (by omega) ps 10 (cO++bl++sI ps.length) .non h (tG.app (gM sn)) (by omega);have fin:cO++bl++sI ps.length++bq (bw ps)=cW ps:=by
    unfold cW;rw [show bq (sI ps.length::bw ps)=bl++sI ps.length++bq (bw ps) from rfl];simp only [kc]
  unfold bj fQ;refine jt ?_;rw [show ([gD ps].map cg.val++List.replicate (3 - [gD ps].length) cg.non)=[.val (gD ps),.non,.non] from rfl];rw [aD (ρ':=[.val (gD ps),.val (.str (cO++bl++sI ps.length)),.non]) (by
    simp only [bH,bR,bW,eO,aC,R.ok_bind,sw];rw [show eL (gD ps)=.ok (.int ps.length) by simp,R.ok_bind,hU sn,R.ok_bind,iY tG (gM sn) (by omega)];rfl)]
  rw [fin] at e;rw [aD (ρ':=[.val (gD ps),.val (.str (cW ps)),x']) (by
    rw [nL,iB,fK,aC,R.ok_bind,kH,R.ok_bind];unfold mV at e;rw [e];rfl)]
  simp only [dB,aW,aC,R.ok_bind]
end G
namespace G
open PySem PySem.Spec PyProof.Rows L2 D2 PySem.Builtin.Str
noncomputable def ca:List Int:=(List.range 45).map fun (k:Nat)=>(k:Int)-20
noncomputable def bO (is:List Int):List (PyData×PyData):=is.map fun i=>(.str (sI i),.int i)
theorem vn {i j:Int} (hi:Sm i) (hj:Sm j) (e:sI i=sI j):i=j:=by
  have all:∀ a b:Fin 45,sI ((a:Int)-20)=sI ((b:Int)-20)->a=b:=by decide +kernel
  have q:=all ⟨(i+20).toNat,by have:=hi.1;have:=hi.2;omega⟩ ⟨(j+20).toNat,by have:=hj.1;have:=hj.2;omega⟩;have e1:(((⟨(i+20).toNat,by have:=hi.1;have:=hi.2;omega⟩:Fin 45):Nat):Int)-20=i:=by have:=hi.1;simp;omega
  have e2:(((⟨(j+20).toNat,by have:=hj.1;have:=hj.2;omega⟩:Fin 45):Nat):Int)-20=j:=by have:=hj.1;simp;omega
  rw [e1,e2] at q;have q':=congrArg Fin.val (q e);have:=hi.1;have:=hj.1;simp at q';omega
theorem jh {i:Int}:i∈ca<->Sm i:=by
  unfold ca Sm;rw [List.mem_map];constructor
  · rintro ⟨k,hk,rfl⟩;have:=List.mem_range.mp hk;omega
  · rintro ⟨a,b⟩;exact ⟨(i+20).toNat,List.mem_range.mpr (by omega),by omega⟩
theorem wV:ca.Nodup:=by
  unfold ca;exact List.Pairwise.map _ (fun a b h e=>h (by omega)) List.nodup_range
theorem oM:∀ (is acc:List Int),(acc++is).Nodup->(∀ i∈acc++is,Sm i)->jb (bO acc) (is.map fun i=>(.inr (sI i),.int i))=bO (acc++is)
  | [],acc,_,_=>by rw [List.append_nil];rfl
  | i::is,acc,nd,hs=>by
    have hi:=hs i (by simp);have hput:kK (bO acc) (.str (sI i)) (.int i)=bO (acc++[i]):=by
      unfold kK;rw [if_neg]
      · unfold bO;simp
      · intro h;obtain ⟨kv,hk,he⟩:=List.any_eq_true.mp h;obtain ⟨j,hj,rfl⟩:=List.mem_map.mp hk;have e:=vn (hs j (by simp [hj])) hi (of_decide_eq_true he);subst e;rw [List.nodup_append] at nd;exact nd.2.2 j hj j (by simp) rfl
    show jb (kK (bO acc) (.str (sI i)) (.int i)) (is.map _)=_;rw [hput,oM is (acc++[i]) (by simpa using nd) (by simpa using hs)];simp
theorem uT:aR []=.ok (.dict (bO ca)):=by
  have hr:ki [.int (-20),.int 25]=.ok (bG (-20) 45):=rfl;have hR:bG (-20) 45=ca.map .int:=by
    unfold bG ca;rw [List.map_map];refine List.map_congr_left fun k _=>?_
    show PyData.int _=PyData.int _;congr 1
  have hc:∀ is:List Int,(∀ i∈is,Sm i)->cw (bn 0) (fun _=>.ok true) (lC (ai (e1 gB (ag 0)) (ai (ag 0) aB))) [.non] (is.map .int)=.ok (is.map fun i=>.tuple [.str (sI i),.int i]):=by
    intro is;induction is with
    | nil=>intro _;rfl
    | cons i is ih =>
      intro h;rw [List.map_cons,dE,ih fun j hj=>h j (List.mem_cons_of_mem _ hj)];simp only [List.set_cons_zero,rc,bA,bM,eO,aC,R.ok_bind,hU (h i List.mem_cons_self),List.length_cons,List.length_nil,if_true];rw [if_pos (by show 2<=_;decide)];rfl
  have hp:∀ is:List Int,tY (is.map fun i=>PyData.tuple [.str (sI i),.int i])=some (is.map fun i=>(.inr (sI i),PyData.int i)):=by
    intro is;induction is with
    | nil=>rfl
    | cons i is ih =>
      rw [List.map_cons,List.map_cons];show (tY _).map _=_;rw [ih];rfl
  have hd:ln (.list (ca.map fun i=>PyData.tuple [.str (sI i),.int i]))=.ok (.dict (bO ca)):=by
    unfold ln;dsimp only;rw [hp ca];dsimp only;rw [if_pos (by rw [List.length_map];exact big (by decide)),show ([]:List (PyData×PyData))=bO [] from rfl,oM ca [] (by simpa using wV) (by simpa using fun i hi=>jh.mp hi)];rfl
  unfold aR dI;refine jt ?_;rw [show (([]:List PyData).map cg.val++List.replicate (1-([]:List PyData).length) cg.non)=[.non] from rfl];rw [aD (ρ':=[.val (.int 24)]) (by rfl)];rw [dB,eO,dS,show av 1 [] [.val (.int 24)]=[.non] from rfl];simp only [l8,bA,bM,eO,bR,aC,bW,R.ok_bind,uU,fx];rw [show ki [.int (-20),.int (24+1)]=.ok (bG (-20) 45) from hr,fW,R.ok_bind,hR];rw [if_pos (by rw [List.length_map];exact big (by decide)),hc ca (fun i hi=>jh.mp hi),rl,R.ok_bind,hd];rfl
noncomputable def wN (w:Str):PyData:=(dL (bO ca) (.str w)).getD .none
theorem kS (w:Str):∀ is:List Int,(dL (bO is) (.str w)=none)\/∃ i∈is,dL (bO is) (.str w)=some (.int i)/\sI i=w
  | []=>.inl rfl
  | i::is=>by
    have e:dL (bO (i::is)) (.str w)=if sI i=w then some (.int i) else dL (bO is) (.str w):=by
      unfold dL bO;rw [List.map_cons,List.find?_cons];by_cases h:sI i=w
      · rw [if_pos h,show dY (PyData.str (sI i)) (.str w)=true from decide_eq_true h];rfl
      · rw [if_neg h,show dY (PyData.str (sI i)) (.str w)=false from decide_eq_false h]
    rw [e];by_cases h:sI i=w
    · exact .inr ⟨i,List.mem_cons_self,if_pos h,h⟩
    · rw [if_neg h];rcases kS w is with z | ⟨j,j1,j2,j3⟩
      · exact .inl z
      · exact .inr ⟨j,List.mem_cons_of_mem _ j1,j2,j3⟩
theorem vi (w:Str):wN w=.none\/∃ i,wN w=.int i:=by
  unfold wN;rcases kS w ca with z | ⟨i,_,z,_⟩
  · exact .inl (by rw [z];rfl)
  · exact .inr ⟨i,by rw [z];rfl⟩
theorem wk (w:Str):cN (wN w):=by
  rcases vi w with z | ⟨i,z⟩ <;> rw [z] <;> simp [cN,PyData.canLay0]
theorem oa {i:Int}:∀ {is:List Int},i∈is->∃ d,dL (bO is) (.str (sI i))=some d
  | j::is,h=>by
    by_cases e:sI j=sI i
    · refine ⟨.int j,?_⟩;unfold dL bO;rw [List.map_cons,List.find?_cons,show dY (PyData.str (sI j)) (.str (sI i))=true from decide_eq_true e];rfl
    · rcases List.mem_cons.mp h with rfl | z
      · exact (e rfl).elim
      · obtain ⟨d,hd⟩:=oa z;refine ⟨d,?_⟩;unfold dL bO at hd ⊢;rw [List.map_cons,List.find?_cons,show dY (PyData.str (sI j)) (.str (sI i))=false from decide_eq_false e];exact hd
theorem qY {i:Int} (h:Sm i):wN (sI i)=.int i:=by
  obtain ⟨d,hd⟩:=oa (jh.mpr h);rcases kS (sI i) ca with z | ⟨j,j1,j2,j3⟩
  · rw [z] at hd;cases hd
  · unfold wN;rw [j2,vn (jh.mp j1) h j3];rfl
noncomputable def rq:Str:=Str.ofString "NoText"
noncomputable def si (ws:List Str):PyData:=.tuple [(ws.map wN).getD 0 .none,(ws.map wN).getD 1 .none,(ws.map wN).getD 2 .none,.tuple (D2.iH (ws.map wN) (some 4) (some (-1)))]
theorem vF (ws:List Str):cN (si ws):=by
  have all:∀ d∈ws.map wN,cN d:=fun d hd=>by
    obtain ⟨w,_,rfl⟩:=List.mem_map.mp hd;exact wk w
  have at_:∀ k,cN ((ws.map wN).getD k .none):=fun k=>by
    rw [List.getD_eq_getElem?_getD];cases h:(ws.map wN)[k]? with
    | none=>exact l0
    | some d=>exact all d (List.mem_of_getElem? h)
  refine bV.mpr fun d hd=>?_
  simp only [List.mem_cons,List.not_mem_nil,or_false] at hd;rcases hd with rfl | rfl | rfl | rfl
  · exact at_ 0
  · exact at_ 1
  · exact at_ 2
  · exact bV.mpr fun d hd=>all d (wt d hd)
theorem zc {n:Nat} {ws:List Str} (h:Ws n ws) (hn:n<=4000000):aE [.list (ws.map .str),.dict (bO ca)]=if ws.length < 6 then .ex rq else .ok (si ws):=by
  have hl:=h.len;have hc:cw (bn 0) (fun _=>.ok true) (ou (ag 1) (ag 0)) [.non,.val (.dict (bO ca))] (ws.map .str)=.ok (ws.map wN):=by
    clear h hl;induction ws with
    | nil=>rfl
    | cons w ws ih =>
      rw [List.map_cons,dE,ih];rw [show (([.non,.val (.dict (bO ca))]:aI).set 0 (.val (.str w)))=[.val (.str w),.val (.dict (bO ca))] from rfl,xj (kvs:=bO ca) _ _ _ rfl rfl];rfl
  by_cases z:ws.length < 6
  · rw [if_pos z];unfold aE di;rw [cF];rw [show ([.list (ws.map .str),.dict (bO ca)].map cg.val++List.replicate (3 - [PyData.list (ws.map .str),PyData.dict (bO ca)].length) cg.non)=[.val (.list (ws.map .str)),.val (.dict (bO ca)),.non] from rfl];have hz:((ws.length:Nat):Int) < 6:=by omega
    simp [hz,gr,rq,qg]
  · rw [if_neg z];unfold aE di;refine jt ?_;rw [show ([.list (ws.map .str),.dict (bO ca)].map cg.val++List.replicate (3 - [PyData.list (ws.map .str),PyData.dict (bO ca)].length) cg.non)=[.val (.list (ws.map .str)),.val (.dict (bO ca)),.non] from rfl];rw [aD (ρ':=[.val (.list (ws.map .str)),.val (.dict (bO ca)),.non]) (by
      simp only [dH,fy,bR,eO,aC,bW,R.ok_bind,vg,List.length_map,qH,eI];rw [show qg (ws.length:Int) 6=false from decide_eq_false (by omega)];rfl)]
    rw [aD (ρ':=[.val (.list (ws.map .str)),.val (.dict (bO ca)),.val (.list (ws.map wN))]) (by
      rw [bH,dS,show av 1 [1] [.val (.list (ws.map .str)),.val (.dict (bO ca)),.non]=[.non,.val (.dict (bO ca))] from rfl];simp only [fK,aC,R.ok_bind,pV,fW];rw [if_pos (by rw [List.length_map];exact big (by omega)),hc];rfl)]
    have hix:∀ k:Nat,k < 6->eG (.list (ws.map wN)) (.int k)=.ok ((ws.map wN).getD k .none):=fun k hk=>by
      rw [qU (by omega) (by rw [List.length_map];omega),List.getD_eq_getElem?_getD,List.getElem?_eq_getElem (by rw [List.length_map];omega)];simp
    have h0:=hix 0 (by omega);have h1:=hix 1 (by omega);have h2:=hix 2 (by omega);simp only [dB,rc,bA,bM,eO,bR,fq,c9,aW,aC,bW,R.ok_bind,fx,uU,il,rM,uf,List.length_cons,List.length_nil];rw [show eG (.list (ws.map wN)) (.int 0)=_ from h0,R.ok_bind,show eG (.list (ws.map wN)) (.int 1)=_ from h1,R.ok_bind,show eG (.list (ws.map wN)) (.int 2)=_ from h2];simp only [R.ok_bind];rw [if_pos (by show 4<=_;decide)];rfl
noncomputable def pw:Str:=Str.ofString " place "
theorem rj:0 < pw.length:=by decide +kernel
noncomputable def cK (x:Str):List Str:=(Txt.split x pw).drop 1
theorem my {n:Nat} (hn:n<=3000000):∀ rs:List Str,(∀ r∈rs,Tx n r) ->
    cw (bn 0) (fun _=>.ok true) (aJ aE (ai (eR (ag 0) (eC (.str (PySem.Str.ofString " ")))) (ai (ag 1) aB))) [.non,.val (.dict (bO ca))] (rs.map .str)=if (rs.all fun r=>decide (6<=(Txt.split r bl).length))=true then .ok (rs.map fun r=>si (Txt.split r bl)) else .ex rq
  | [],_=>rfl
  | r::rs,h=>by
    have hr:=h r List.mem_cons_self;have hw:=jw hr jK;have ih:=my hn rs fun q hq=>h q (List.mem_cons_of_mem _ hq)
    have he:aJ aE (ai (eR (ag 0) (eC (.str (PySem.Str.ofString " ")))) (ai (ag 1) aB)) [.val (.str r),.val (.dict (bO ca))]=if (Txt.split r bl).length < 6 then .ex rq else .ok (si (Txt.split r bl)):=by
      have e:eR (ag 0) (eC (.str (PySem.Str.ofString " "))) [.val (.str r),.val (.dict (bO ca))]=.ok (.list ((Txt.split r bl).map .str)):=by
        show fi (.str r) (.str bl)=_;exact nv hr (by omega) jK
      simp only [cA,bA,bM,e,aW,aC,R.ok_bind];exact zc hw (by omega)
    rw [List.map_cons,dE,List.all_cons];rw [show (([.non,.val (.dict (bO ca))]:aI).set 0 (.val (.str r)))=[.val (.str r),.val (.dict (bO ca))] from rfl,he,ih];by_cases z:(Txt.split r bl).length < 6
    · rw [if_pos z];show R.ex rq=_;rw [decide_eq_false (by omega),Bool.false_and,if_neg (by simp)]
    · rw [if_neg z,decide_eq_true (by omega),Bool.true_and];by_cases a:(rs.all fun r=>decide (6<=(Txt.split r bl).length))=true
      · rw [if_pos a,if_pos a];rfl
      · rw [if_neg a,if_neg a];rfl
noncomputable def tH:Fs:=(aU (iE (g9 (cG (tE (aJ aL (ai (ag 3) aB)))) (tE (e2 (pP) (aJ cy (ai (ag 3) aB)) (ag 0)))) (gr (PySem.Str.ofString "NoText") (eC (.str (PySem.Str.ofString "the text is no ground's writing")))) bX) (cq (ag 3)))
section
variable {n:Nat} {x:Str} (h:Tx n x) (hn:n<=2000000)
include h hn
theorem pj:∃ r1:R PyData,dm [.str x]=r1/\((¬ ((cK x).all fun r=>decide (6<=(Txt.split r bl).length))=true->r1=.ex rq)/\(((cK x).all fun r=>decide (6<=(Txt.split r bl).length))=true->r1=(tH [.val (.str x),.val (.dict (bO ca)),.val (.list ((cK x).map .str)),.val (.tuple ((cK x).map fun r=>si (Txt.split r bl)))]>>=uQ))):=by
  have hsp:=jw h rj;have hs:=nv h (by omega) rj;have hl:=hsp.len;have hcut:D2.iH ((Txt.split x pw).map .str) (some 1) none=(cK x).map .str:=by
    have:=x0 (ds:=(Txt.split x pw).map PyData.str) (e:=1) (by rw [List.length_map];exact List.length_pos_iff.mpr (jk x pw));rw [show ((1:Nat):Int)=1 from rfl] at this;rw [this,<- List.map_drop];rfl
  have hrt:∀ r∈cK x,Tx (n+1) r:=fun r hr=>hsp.mem (List.mem_of_mem_drop hr)
  have hcomp:=my (n:=n+1) (by omega) (cK x) hrt;have hlen:(cK x).length<=n+1:=by
    have:(cK x).length<=(Txt.split x pw).length:=by unfold cK;rw [List.length_drop];omega
    omega
  refine ⟨_,rfl,fun z=>?_,fun z=>?_⟩
  · rw [if_neg z] at hcomp;unfold dm nC;rw [cF,show ([.str x].map cg.val++List.replicate (4 - [PyData.str x].length) cg.non)=[.val (.str x),.non,.non,.non] from rfl];rw [aD (ρ':=[.val (.str x),.val (.dict (bO ca)),.non,.non]) (by
      simp only [bH,cA,bM,R.ok_bind,uT];rfl)]
    rw [aD (ρ':=[.val (.str x),.val (.dict (bO ca)),.val (.list ((cK x).map .str)),.non]) (by
      rw [bH,fq];have e:eR (ag 0) (eC (.str (PySem.Str.ofString " place "))) [.val (.str x),.val (.dict (bO ca)),.non,.non]=.ok (.list ((Txt.split x pw).map .str)):=hs;simp only [e,c9,dt,bW,R.ok_bind,il,rM,hcut];rfl)]
    have e3:(cm 3 (e1 iP (cR (gK (ag 2)) 1 [1] (bn 0) (fun _=>.ok true) (aJ aE (ai (eR (ag 0) (eC (.str (PySem.Str.ofString " ")))) (ai (ag 1) aB)))))) [.val (.str x),.val (.dict (bO ca)),.val (.list ((cK x).map .str)),.non]=.ex rq:=by
      rw [bH,eO,dS,show av 1 [1] [.val (.str x),.val (.dict (bO ca)),.val (.list ((cK x).map .str)),.non]=[.non,.val (.dict (bO ca))] from rfl];simp only [fK,aC,aW,R.ok_bind,pV,fW];rw [if_pos (by rw [List.length_map];exact big (by omega)),hcomp];rfl
    rw [jp,e3];rfl
  · rw [if_pos z] at hcomp;unfold dm nC;rw [cF,show ([.str x].map cg.val++List.replicate (4 - [PyData.str x].length) cg.non)=[.val (.str x),.non,.non,.non] from rfl];rw [aD (ρ':=[.val (.str x),.val (.dict (bO ca)),.non,.non]) (by
      simp only [bH,cA,bM,R.ok_bind,uT];rfl)]
    rw [aD (ρ':=[.val (.str x),.val (.dict (bO ca)),.val (.list ((cK x).map .str)),.non]) (by
      rw [bH,fq];have e:eR (ag 0) (eC (.str (PySem.Str.ofString " place "))) [.val (.str x),.val (.dict (bO ca)),.non,.non]=.ok (.list ((Txt.split x pw).map .str)):=hs;simp only [e,c9,dt,bW,R.ok_bind,il,rM,hcut];rfl)]
    rw [aD (ρ':=[.val (.str x),.val (.dict (bO ca)),.val (.list ((cK x).map .str)),.val (.tuple ((cK x).map fun r=>si (Txt.split r bl)))]) (by
      rw [bH,eO,dS,show av 1 [1] [.val (.str x),.val (.dict (bO ca)),.val (.list ((cK x).map .str)),.non]=[.non,.val (.dict (bO ca))] from rfl];simp only [fK,aC,aW,R.ok_bind,pV,fW];rw [if_pos (by rw [List.length_map];exact big (by omega)),hcomp];rfl)]
    rfl
end
theorem zj {n m:Nat} {x y:Str} (h:Tx n x) (g:Tx m y):pP (.str x) (.str y)=.ok (.bool (!decide (x=y))):=by
  have a:(PyData.str x).canLay0=true:=jq h;have b:(PyData.str y).canLay0=true:=jq g;unfold pP;rw [if_pos (by unfold kg;rw [a,b];simp [PyData.depth])];simp [PyData.eqv];by_cases q:x=y <;> simp [q]
theorem rL {n m:Nat} {x y:Str} (h:Tx n x) (g:Tx m y):jP (.str x) (.str y)=.ok (.bool (decide (x=y))):=by
  have a:(PyData.str x).canLay0=true:=jq h;have b:(PyData.str y).canLay0=true:=jq g;unfold jP;rw [if_pos (by unfold kg;rw [a,b];simp [PyData.depth])];simp [PyData.eqv];by_cases q:x=y <;> simp [q]
section
variable {n:Nat} {x:Str} (h:Tx n x) (hn:n<=2000000)
include h hn
theorem rJ (c1 c2:cg) {D:PyData} (hg:cN D):(cr D=false->(tH [.val (.str x),c1,c2,.val D]>>=uQ)=.ex rq)/\∀ ps:List P4,D=gD ps->1<=ps.length->ps.length<=24->(∀ p∈ps,Pl ps.length 12 p)->cr D=true->(tH [.val (.str x),c1,c2,.val D]>>=uQ)=if cW ps=x then .ok (gD ps) else .ex rq:=by
  have hge:=mI hg;refine ⟨fun hb=>?_,fun ps e h1 h24 hP hb=>?_⟩
  · have hi:(iE (g9 (cG (tE (aJ aL (ai (ag 3) aB)))) (tE (e2 (pP) (aJ cy (ai (ag 3) aB)) (ag 0)))) (gr (PySem.Str.ofString "NoText") (eC (.str (PySem.Str.ofString "the text is no ground's writing")))) bX) [.val (.str x),c1,c2,.val D]=.ex rq:=by
      simp only [dH,mY,lB,fy,cA,bA,bM,aW,aC,R.ok_bind,hge,hb,eI];rfl
    unfold tH;rw [jp,hi];rfl
  · subst e;have hw:=qz h1 h24 hP hg hb;have htx:=kq h24 hP;have hne:=zj htx h;unfold tH;by_cases z:cW ps=x
    · rw [if_pos z,aD (ρ':=[.val (.str x),c1,c2,.val (gD ps)]) (by
        simp only [dH,mY,lB,fy,bR,cA,bA,bM,aW,aC,R.ok_bind,hge,hb,eI,hw,hne,decide_eq_true z];rfl)]
      rfl
    · have hi:(iE (g9 (cG (tE (aJ aL (ai (ag 3) aB)))) (tE (e2 (pP) (aJ cy (ai (ag 3) aB)) (ag 0)))) (gr (PySem.Str.ofString "NoText") (eC (.str (PySem.Str.ofString "the text is no ground's writing")))) bX) [.val (.str x),c1,c2,.val (gD ps)]=.ex rq:=by
        simp only [dH,mY,lB,fy,bR,cA,bA,bM,aW,aC,R.ok_bind,hge,hb,eI,hw,hne,decide_eq_false z];rfl
      rw [if_neg z,jp,hi];rfl
theorem jQ:cN (.tuple ((cK x).map fun r=>si (Txt.split r bl))):=bV.mpr fun d hd=>by
  obtain ⟨r,_,rfl⟩:=List.mem_map.mp hd;exact vF _
theorem uy:dm [.str x]=.ex rq\/∃ ps,dm [.str x]=.ok (gD ps)/\1<=ps.length/\ps.length<=24/\(∀ p∈ps,Pl ps.length 12 p)/\cW ps=x:=by
  obtain ⟨r1,e,a,b⟩:=pj h hn;rw [e];by_cases z:((cK x).all fun r=>decide (6<=(Txt.split r bl).length))=true
  · rw [b z];have hg:=jQ h hn;obtain ⟨t1,t2⟩:=rJ h hn (.val (.dict (bO ca))) (.val (.list ((cK x).map .str))) hg;cases hb:cr (.tuple ((cK x).map fun r=>si (Txt.split r bl))) with
    | false=>exact .inl (t1 hb)
    | true =>
      obtain ⟨ps,e2',h1,h24,hP⟩:=tf hb;rw [t2 ps e2' h1 h24 hP hb];by_cases q:cW ps=x
      · rw [if_pos q];exact .inr ⟨ps,rfl,h1,h24,hP,q⟩
      · rw [if_neg q];exact .inl rfl
  · exact .inl (a z)
theorem wQ {ps:List P4} (h1:1<=ps.length) (h24:ps.length<=24) (hP:∀ p∈ps,Pl ps.length 12 p) (hb:cr (gD ps)=true) (hr:∀ r∈cK x,6<=(Txt.split r bl).length) (hd:((cK x).map fun r=>si (Txt.split r bl))=ps.map P4.d) (ht:cW ps=x):dm [.str x]=.ok (gD ps):=by
  obtain ⟨r1,e,a,b⟩:=pj h hn;rw [e,b (List.all_eq_true.mpr fun r q=>decide_eq_true (hr r q))];have hg:=jQ h hn;obtain ⟨t1,t2⟩:=rJ h hn (.val (.dict (bO ca))) (.val (.list ((cK x).map .str))) hg;have eD:PyData.tuple ((cK x).map fun r=>si (Txt.split r bl))=gD ps:=by rw [hd]
  rw [t2 ps eD h1 h24 hP (by rw [eD];exact hb),if_pos ht]
end
theorem xL (a b:Str):(a++b).cps.toList=a.cps.toList++b.cps.toList:=by
  show (a.cps++b.cps).toList=_;rw [Array.toList_append]
noncomputable def cb (p:P4):List Str:=[sI p.w,sI p.m,sI p.g,pU]++p.ns.map sI++[lF]
theorem vz (p:P4):bL p=dG::cb p:=rfl
theorem ti (p:P4):cb p≠[]:=by unfold cb;simp
theorem pq {i:Int} (h:Sm i):32∉(sI i).cps.toList/\112∉(sI i).cps.toList:=by
  have all:∀ k:Fin 45,32∉(sI ((k:Int)-20)).cps.toList/\112∉(sI ((k:Int)-20)).cps.toList:=by decide +kernel
  have q:=all ⟨(i+20).toNat,by have:=h.1;have:=h.2;omega⟩;have e:(((⟨(i+20).toNat,by have:=h.1;have:=h.2;omega⟩:Fin 45):Nat):Int)-20=i:=by have:=h.1;simp;omega
  rw [e] at q;exact q
theorem px {c:Int} (hc:c<=24) {p:P4} (P:Pl c 12 p):∀ w∈cb p,32∉w.cps.toList/\112∉w.cps.toList:=fun w hw=>by
  obtain ⟨s1,s2,s3,s4⟩:=P.sm hc;unfold cb at hw;simp only [List.mem_append,List.mem_cons,List.not_mem_nil,or_false,List.mem_map] at hw;rcases hw with ((rfl | rfl | rfl | rfl) | ⟨i,hi,rfl⟩) | rfl
  · exact pq s1
  · exact pq s2
  · exact pq s3
  · decide +kernel
  · exact pq (s4 i hi)
  · decide +kernel
theorem mr {c:Int} (hc:c<=24) {p:P4} (P:Pl c 12 p):Txt.split (Txt.join bl (cb p)) bl=cb p:=by
  refine jc (A:=[]) (B:=[]) (ch:=32) (by decide +kernel) (by simp) (by simp) (by decide +kernel) (fun w hw=>(px hc P w hw).1) (ti p) ?_;exact dM bl (cb p)
theorem qf {w:Str} {r:List Str}:bq (w::r)=bl++Txt.join bl (w::r):=by
  rw [mG,i9];show bl++w++bq r=_;rw [kc]
noncomputable def ro (n:Nat):Str:=cO++(bl++sI n)
theorem yp:pw=bl++(dG++bl):=by decide +kernel
theorem l5:∀ (ps:List P4) (a:Str),a++bq (bw ps)=Txt.join pw (a::ps.map fun p=>Txt.join bl (cb p))
  | [],a=>by
    rw [mG];show a++mt=Str.join pw [a];rw [jH];rfl
  | p::ps,a=>by
    have ih:=l5 ps (Txt.join bl (cb p));obtain ⟨w,r,e⟩:∃ w r,cb p=w::r:=⟨sI p.w,_,rfl⟩
    have hp:bq (bL p)=pw++Txt.join bl (cb p):=by
      rw [vz,yp];show bl++dG++bq (cb p)=_;rw [e,qf,<- e];simp only [kc]
    show a++bq (bL p++bw ps)=_;rw [eF,hp,kc,ih,mG pw,mG pw,<- kc];rfl
theorem sr {ps:List P4} (h24:ps.length<=24) (hP:∀ p∈ps,Pl ps.length 12 p):cK (cW ps)=ps.map fun p=>Txt.join bl (cb p):=by
  have hc:(ps.length:Int)<=24:=by omega
  have e:cW ps=Txt.join pw (ro ps.length::ps.map fun p=>Txt.join bl (cb p)):=by
    rw [<- l5];unfold cW ro;show cO++(bl++sI ps.length++bq (bw ps))=_;simp only [kc]
  have hs:Txt.split (cW ps) pw=ro ps.length::ps.map fun p=>Txt.join bl (cb p):=by
    refine jc (A:=[32]) (B:=[108,97,99,101,32]) (ch:=112) (by decide +kernel) (by decide) (by decide) (by decide +kernel) (fun w hw=>?_) (by simp) (by rw [e];exact dM pw _);rcases List.mem_cons.mp hw with rfl | z
    · unfold ro;rw [xL,xL];intro m;rcases List.mem_append.mp m with m | m
      · exact absurd m (by decide +kernel)
      · rcases List.mem_append.mp m with m | m
        · exact absurd m (by decide +kernel)
        · exact (pq (i:=ps.length) ⟨by omega,by omega⟩).2 m
    · obtain ⟨p,hp,rfl⟩:=List.mem_map.mp z;intro m;have m:112∈(PySem.Builtin.Str.glued bl (cb p)).cps.toList:=m;rw [dM] at m;have key:∀ ws:List (List Nat),(∀ w∈ws,112∉w)->112∉bP bl.cps.toList ws:=by
        intro ws;induction ws with
        | nil=>intro _ z;cases z
        | cons w r ih =>
          intro hw z;cases r with
          | nil=>exact hw w List.mem_cons_self z
          | cons v r =>
            simp only [bP] at z;rcases List.mem_append.mp z with z | z
            · exact hw w List.mem_cons_self z
            · rcases List.mem_append.mp z with z | z
              · exact absurd z (by decide +kernel)
              · exact ih (fun w h=>hw w (List.mem_cons_of_mem _ h)) z
      refine key _ (fun w hw=>?_) m;obtain ⟨v,hv,rfl⟩:=List.mem_map.mp hw;exact (px hc (hP p hp) v hv).2
  unfold cK;rw [hs];rfl
theorem vJ {c:Int} (hc:c<=24) {p:P4} (P:Pl c 12 p):6<=(cb p).length/\si (cb p)=p.d:=by
  obtain ⟨s1,s2,s3,s4⟩:=P.sm hc;have hl:(cb p).length=p.ns.length+5:=by unfold cb;simp
  have hpos:=List.length_pos_iff.mpr P.ne;refine ⟨by omega,?_⟩;have em:(cb p).map wN=[.int p.w,.int p.m,.int p.g,wN pU]++p.ns.map .int++[wN lF]:=by
    unfold cb;rw [List.map_append,List.map_append,List.map_map];simp only [List.map_cons,List.map_nil,qY s1,qY s2,qY s3];rw [show p.ns.map (wN∘sI)=p.ns.map PyData.int from List.map_congr_left fun i hi=>qY (s4 i hi)]
  unfold si P4.d;rw [em];have ec:D2.iH ([.int p.w,.int p.m,.int p.g,wN pU]++p.ns.map PyData.int++[wN lF]) (some 4) (some (-1))=p.ns.map .int:=by
    have hN:([.int p.w,.int p.m,.int p.g,wN pU]++p.ns.map PyData.int++[wN lF]).length=p.ns.length+5:=by simp
    have q1:HT.sIx (p.ns.length+5) 0 (some 4)=4:=nR (e:=4) (by omega);have q2:HT.sIx (p.ns.length+5) (p.ns.length+5) (some (-1))=p.ns.length+4:=by
      unfold HT.sIx;have h0:(-1:Int) < 0:=by decide
      simp only [h0,if_true];omega
    unfold D2.iH;rw [hN,q1,q2,show p.ns.length+4-4=p.ns.length by omega];show (p.ns.map PyData.int++[wN lF]).take p.ns.length=_;exact List.take_left' (List.length_map ..)
  rw [ec];rfl
theorem u6 {c:Int}:∀ {ns:List Int} {l:Int},ns.Pairwise (· < ·)->(∀ x∈ns,l<=x/\x < c)->dA c l (ns.map .int)=true
  | [],l,_,_=>rfl
  | i::r,l,hp,hb=>by
    obtain ⟨h1,h2⟩:=List.pairwise_cons.mp hp;obtain ⟨b1,b2⟩:=hb i List.mem_cons_self;have ih:=u6 (l:=i+1) h2 fun x hx=>⟨by have:=h1 x hx;omega,(hb x (List.mem_cons_of_mem _ hx)).2⟩
    show ((decide (l<=i)&&decide (i < c))&&dA c (i+1) (r.map .int))=true;rw [decide_eq_true b1,decide_eq_true b2,ih];rfl
theorem Pl.twelve {c hi:Int} {p:P4} (h:Pl c hi p) (hh:hi<=12):Pl c 12 p:=⟨h.w0,h.w1,h.m0,by have:=h.m1;omega,h.g0,h.g1,h.ne,h.so,h.inn⟩
theorem g6 {ps:List P4} (h1:1<=ps.length) (h24:ps.length<=24) (hP:∀ p∈ps,Pl ps.length 12 p):cr (gD ps)=true/\cN (gD ps):=by
  constructor
  · show ((decide (1<=(ps.map P4.d).length)&&decide ((ps.map P4.d).length<=24))&&(ps.map P4.d).all (bU (ps.map P4.d).length))=true;rw [List.length_map,decide_eq_true h1,decide_eq_true h24];simp only [Bool.true_and];rw [List.all_eq_true];intro d hd;obtain ⟨p,hp,rfl⟩:=List.mem_map.mp hd;have P:=hP p hp;show (iW (.int p.w) 0 1&&(iW (.int p.m) 0 12&&(iW (.int p.g) (-20) 20&&(dA ps.length 0 (p.ns.map .int)&&!(p.ns.map PyData.int).isEmpty))))=true;have e1:iW (.int p.w) 0 1=true:=by unfold iW;simp [P.w0,P.w1]
    have e2:iW (.int p.m) 0 12=true:=by unfold iW;simp [P.m0,P.m1]
    have e3:iW (.int p.g) (-20) 20=true:=by unfold iW;simp [P.g0,P.g1]
    have e5:(p.ns.map PyData.int).isEmpty=false:=by
      cases h:p.ns with
      | nil=>exact (P.ne h).elim
      | cons a b=>rfl
    rw [e1,e2,e3,u6 P.so P.inn,e5];rfl
  · refine bV.mpr fun d hd=>?_
    obtain ⟨p,_,rfl⟩:=List.mem_map.mp hd;refine bV.mpr fun d hd=>?_
    simp only [List.mem_cons,List.not_mem_nil,or_false] at hd;rcases hd with rfl | rfl | rfl | rfl
    · exact gi _
    · exact gi _
    · exact gi _
    · refine bV.mpr fun d hd=>?_
      obtain ⟨i,_,rfl⟩:=List.mem_map.mp hd;exact gi _
theorem oS:∀ ps:List P4,PyData.depthAll (ps.map P4.d)<=2
  | []=>by simp [PyData.depthAll]
  | p::ps=>by
    have ih:=oS ps;have h:p.d.depth<=2:=by
      simp [P4.d,PyData.depth,PyData.depthAll,(sR p.ns).dep]
    rw [List.map_cons,PyData.depthAll];omega
theorem r0 {ps:List P4} (h1:1<=ps.length) (h24:ps.length<=24) (hP:∀ p∈ps,Pl ps.length 12 p):dm [.str (cW ps)]=.ok (gD ps):=by
  have hc:(ps.length:Int)<=24:=by omega
  have hrows:=sr h24 hP;refine wQ (kq h24 hP) (by omega) h1 h24 hP (g6 h1 h24 hP).1 (fun r hr=>?_) ?_ rfl
  · rw [hrows] at hr;obtain ⟨p,hp,rfl⟩:=List.mem_map.mp hr;rw [mr hc (hP p hp)];exact (vJ hc (hP p hp)).1
  · rw [hrows,List.map_map];refine List.map_congr_left fun p hp=>?_
    show si (Txt.split (Txt.join bl (cb p)) bl)=p.d;rw [mr hc (hP p hp),(vJ hc (hP p hp)).2]
theorem oB {x:Str} {ps:List P4} (h:dm [.str x]=.ok (gD ps)):bE [.str x]=.ok (gD ps):=by
  unfold bE fG;refine jt ?_;rw [show ([.str x].map cg.val++List.replicate (4 - [PyData.str x].length) cg.non)=[.val (.str x),.non,.non,.non] from rfl];rw [aD (ρ':=[.val (.str x),.val (gD ps),.non,.non]) (by
    unfold oV;simp only [bA,bM,aC,R.ok_bind,fW,h,vq];rfl)]
  rfl
theorem u4 {x:Str} (h:dm [.str x]=.ex rq):bE [.str x]=.ok .none:=by
  unfold bE fG;refine jt ?_;rw [show ([.str x].map cg.val++List.replicate (4 - [PyData.str x].length) cg.non)=[.val (.str x),.non,.non,.non] from rfl];refine iX ?_;unfold oV;simp only [bA,bM,aC,R.ok_bind,fW,h,vq,List.lookup_cons,show (rq==Str.ofString "NoText")=true from by decide +kernel];rw [show (fun p=>((iu (k8 2 p) (iu (k8 2 p) (qe (lI 2 p)))) (([.val (.str x),.non,.non,.non]:aI).set 2 (.exc p))>>=fun d=>(e2 eG (lj (ai (lC aB) (ai (eC .none) aB))) (e1 mM (ag 3))) ((([.val (.str x),.non,.non,.non]:aI).set 2 (.exc p)).set 3 (.val d))))=fun _=>R.ok .none from funext fun p=>by
    have a:k8 2 p (([.val (.str x),.non,.non,.non]:aI).set 2 (.exc p))=.ok (.bool true):=by
      show (if p=p then R.ok (PyData.bool true) else .no)=_;rw [if_pos rfl]
    have b:lI 2 p (([.val (.str x),.non,.non,.non]:aI).set 2 (.exc p))=.ok (.bool false):=by
      show (if p=p then R.ok (PyData.bool false) else .no)=_;rw [if_pos rfl]
    simp only [nz,wC,a,b,R.ok_bind,eI,if_true];rfl,pW]
  rfl
noncomputable def bd:Nat->Nat
  | 0=>7000
  | k+1=>4*bd k+100
noncomputable def Ar:Fs:=(cm 2 (aJ bu (ai (ag 2) (ai (aJ aw (ai (ag 3) (ai (ag 4) aB))) aB))))
theorem rC {a g:PyData} {v:Int}:∀ (ks:List Int) (j:Nat) (x:Str) (c4:cg),Tx (bd j) x->j+ks.length<=4 ->
    ∃ y c4',gf (bn 4) Ar (ks.map .int) [.val a,.val g,.val (.str x),.val (.int v),c4,.non]=.ok (.nx [.val a,.val g,.val (.str y),.val (.int v),c4',.non])/\Tx 2000000 y
  | [],j,x,c4,h,hj=>⟨x,c4,by rw [List.map_nil,fZ],h.mono (by
      have:j=0\/j=1\/j=2\/j=3\/j=4:=by simp at hj;omega
      rcases this with rfl | rfl | rfl | rfl | rfl <;> decide)⟩
  | k::ks,j,x,c4,h,hj=>by
    obtain ⟨w,hw,w0,_⟩:=lc v k;have hb:bd j<=500000:=by
      have:j=0\/j=1\/j=2\/j=3:=by simp at hj;omega
      rcases this with rfl | rfl | rfl | rfl <;> decide
    obtain ⟨y,hy,ty⟩:=qx h hb w0;obtain ⟨z,c4',e,tz⟩:=rC (a:=a) (g:=g) (v:=v) ks (j+1) y (.val (.int k)) ty (by simp at hj;omega);refine ⟨z,c4',?_,tz⟩;rw [List.map_cons,dN];rw [show (([.val a,.val g,.val (.str x),.val (.int v),c4,.non]:aI).set 4 (.val (.int k)))=[.val a,.val g,.val (.str x),.val (.int v),.val (.int k),.non] from rfl];have hbody:Ar [.val a,.val g,.val (.str x),.val (.int v),.val (.int k),.non]=.ok (.nx [.val a,.val g,.val (.str y),.val (.int v),.val (.int k),.non]):=by
      unfold Ar;simp only [bH,cA,bA,bM,aW,aC,R.ok_bind,hw,hy];rfl
    rw [hbody,R.ok_bind,ud,e]
theorem uR:xQ pF:=by
  intro ns hns;obtain ⟨ps,hi,hgr,hpl0,hp1,hp24,hi0,hi12⟩:=qD ns (most:=24) (by omega) (by omega);have h24:ps.length<=24:=by omega
  have hP:∀ p∈ps,Pl ps.length 12 p:=fun p hp=>(hpl0 p hp).twelve hi12
  obtain ⟨hgb,hgg⟩:=g6 hp1 h24 hP;have hlw:=gU h24 hP;have htx:=kq h24 hP;obtain ⟨v,hv,v0,_⟩:=kQ ns (k:=1) (by omega);obtain ⟨c,ec⟩:∃ c:Nat,v%3*(1+v / 3%2)=c:=by
    have a0:0<=v%3:=by omega
    have b0:0<=1+v / 3%2:=by omega
    have:=Int.mul_nonneg a0 b0;exact ⟨(v%3*(1+v / 3%2)).toNat,by omega⟩
  have c4':c<=4:=by
    have a:v%3=0\/v%3=1\/v%3=2:=by omega
    have b:v / 3%2=0\/v / 3%2=1:=by omega
    rcases a with a | a | a <;> rcases b with b | b <;> rw [a,b] at ec <;> omega
  have hrm:bG 0 c=(ids c).map .int:=qM _;have hr1:ki [.int (c:Int)]=.ok (bG 0 c):=by
    have e:ki [.int (c:Int)]=if -(2 ^ 62)<=(c:Int)/\(c:Int) < 2 ^ 62 then .ok (bG 0 (c:Int).toNat) else .no:=rfl
    rw [e,if_pos (by omega),Int.toNat_natCast]
  obtain ⟨y,c4,e,ty⟩:=rC (a:=rA ns) (g:=gD ps) (v:=v) (ids c) 0 (cW ps) .non htx (by rw [xh];omega);have heq:=rL ty htx
  -- what is found
  have hf:∃ d,bE [.str y]=.ok d/\(y=cW ps->d=gD ps)/\(d=.none\/∃ qs,d=gD qs/\1<=qs.length/\qs.length<=24/\(∀ p∈qs,Pl qs.length 12 p)/\cW qs=y):=by
    by_cases z:y=cW ps
    · have hr:=r0 hp1 h24 hP;rw [<- z] at hr;exact ⟨gD ps,oB hr,fun _=>rfl,.inr ⟨ps,rfl,hp1,h24,hP,z.symm⟩⟩
    · rcases uy ty (by omega) with q | ⟨qs,q,q1,q2,q3,q4⟩
      · exact ⟨.none,u4 q,fun k=>(z k).elim,.inl rfl⟩
      · exact ⟨gD qs,oB q,fun k=>(z k).elim,.inr ⟨qs,rfl,q1,q2,q3,q4⟩⟩
  obtain ⟨d,hfd,hd1,hd2⟩:=hf;unfold pF ue;refine jt ?_;rw [show ([rA ns].map cg.val++List.replicate (6 - [rA ns].length) cg.non)=[.val (rA ns),.non,.non,.non,.non,.non] from rfl];rw [aD (ρ':=[.val (rA ns),.val (gD ps),.non,.non,.non,.non]) (by
    simp only [bH,cA,bA,bM,aC,bW,R.ok_bind,hgr];rfl)]
  rw [aD (ρ':=[.val (rA ns),.val (gD ps),.val (.str (cW ps)),.non,.non,.non]) (by
    simp only [bH,cA,bA,bM,aC,aW,R.ok_bind,hlw];rfl)]
  rw [aD (ρ':=[.val (rA ns),.val (gD ps),.val (.str (cW ps)),.val (.int v),.non,.non]) (by
    simp only [bH,cA,bA,bM,aC,bW,R.ok_bind,hv];rfl)]
  rw [aD (ρ':=[.val (rA ns),.val (gD ps),.val (.str y),.val (.int v),c4,.non]) (by
    rw [nL,iB,l8];simp only [bA,bM,bR,aW,aC,bW,R.ok_bind,gL,jL];rw [if_pos (by decide),R.ok_bind,if_pos (by decide),R.ok_bind,gL,if_pos (by decide),R.ok_bind,fx,R.ok_bind,vh,if_pos (by omega),R.ok_bind,R.ok_bind,ec,hr1,R.ok_bind,hrm];unfold Ar at e;rw [e];rfl)]
  rw [aD (ρ':=[.val (rA ns),.val (gD ps),.val (.str y),.val (.int v),c4,.val d]) (by
    simp only [bH,cA,bA,bM,aC,aW,R.ok_bind,hfd];rfl)]
  by_cases z:y=cW ps
  · have ed:=hd1 z;subst ed;have hsame:jP (gD ps) (gD ps)=.ok (.bool true):=u9 hgg (by
      have:=oS ps;rw [PyData.depth];omega)
    have hlg:=lJ hgg;rw [hgb] at hlg;refine iX ?_;simp only [dH,fy,bR,cA,bA,bM,aC,aW,R.ok_bind,hlw,heq,decide_eq_true z,eI,if_true,dB,nz,hsame,hlg]
  · rw [aD (ρ':=[.val (rA ns),.val (gD ps),.val (.str y),.val (.int v),c4,.val d]) (by
      simp only [dH,fy,bR,cA,bA,bM,aC,aW,R.ok_bind,hlw,heq,decide_eq_false z,eI];rfl)]
    rcases hd2 with rfl | ⟨qs,rfl,q1,q2,q3,q4⟩
    · rfl
    · obtain ⟨gb,gg⟩:=g6 q1 q2 q3;have hlg:=lJ gg;rw [gb] at hlg;have hlw2:=gU q2 q3;have heq2:=rL (kq q2 q3) ty;have hN:sO (gD qs) .none=.ok (.bool false):=rfl;simp only [dB,yO,nz,bR,cA,bA,bM,aC,aW,bW,R.ok_bind,hN,eI,hlg,if_true,hlw2,heq2,decide_eq_true q4];rfl
end G
namespace G
open PySem PySem.Spec PyProof.Rows L2 D2
noncomputable def zz:List Stmt:=PySem.Challenge.pw_duelground_k04_whole_read.main.body
noncomputable abbrev top (i:Nat):Stmt:=zz.getD i (.Pass ⟨0,0,0,0⟩)
noncomputable abbrev fR:Stmt:=top 41
noncomputable abbrev ir:Stmt:=top 31
noncomputable abbrev i8:Stmt:=top 13
noncomputable abbrev gu:Stmt:=top 14
noncomputable abbrev iV:Stmt:=top 15
noncomputable abbrev hZ:Stmt:=top 16
noncomputable abbrev iU:Stmt:=top 17
noncomputable abbrev fN:Stmt:=top 18
noncomputable abbrev cP:Stmt:=top 25
noncomputable abbrev de:Stmt:=top 26
noncomputable abbrev dh:Stmt:=top 20
noncomputable abbrev jB:Stmt:=top 21
noncomputable abbrev nA:Stmt:=top 27
noncomputable abbrev ia:Stmt:=top 42
noncomputable abbrev fU:Stmt:=top 29
noncomputable abbrev iw:Stmt:=top 30
noncomputable abbrev ie:Stmt:=top 32
noncomputable abbrev gZ:Stmt:=top 33
noncomputable abbrev e9:Stmt:=top 34
noncomputable abbrev gp:Stmt:=top 37
noncomputable abbrev gy:Stmt:=top 36
noncomputable abbrev fD:Stmt:=top 38
noncomputable abbrev dD:Stmt:=top 39
noncomputable abbrev dw:Stmt:=top 40
noncomputable abbrev jf:Stmt:=top 43
section
variable {P:Program} {w:World} {K:PySem.W.Frag} {mg:Str->Option Value} {base:Heap} {f:Addr} {fd:FuncData} {k:Nat}
theorem lR:aQ ["_law_text","_law_number_here","_law_words","_law_at","_law_place_here","_law_kind","_law_sign","_law_turned","_law_some_here"] ["_law_text","_law_number_here"] (ak fR):=⟨rfl,rfl,rfl,by decide +kernel,rfl,by decide +kernel,by decide +kernel⟩
theorem lO (W:gP K "_law_changed" "_law_changed" fR f fd) (b_len:mg "len" = none) :
    ba P w K mg base (cY P w mg) (k+1) f fd ["_law_text","_law_number_here"] (dR (dX 9 (fT)) 2):=by
  refine aA W lR (G:=["len"]) (by decide +kernel) fun cdv A outer s H E hr T=>?_
  exact (aj (aF T 2 rfl (jj (fJ (aa (ad T 0 rfl)) bB)))
      (aj (aF T 3 rfl (bg (aa (cS (aa (ad T 1 rfl)) (aa af))) (aa (cC T 0 rfl b_len (aa (ad T 2 rfl))))))
      (aj (aF T 4 rfl (bg (aa (cS (aa (ad T 1 rfl)) (aa af))) (aa (ao (aa (cC T 0 rfl b_len (aa (ad T 0 rfl)))) (aa af)))))
      (aj (aF T 5 rfl (bg (aa (ad T 1 rfl)) (aa af)))
      (aj (bI (fw T.hu (aa (bg (aa (cS (aa (ad T 1 rfl)) (aa af))) (aa af))) (aa af)) (am (aF T 3 rfl af)) bh)
      (aj (bI (fw T.hu (aa (ad T 5 rfl)) (aa af)) (am (ar (ao (aa (aT (aa (ad T 0 rfl)) bQ (aP (ad T 4 rfl)))) (aa (aT (aa (ad T 0 rfl)) (aP (ao (aa (ad T 4 rfl)) (aa af))) bQ))))) bh)
      (aj (bI (lv (aa (ad T 5 rfl)) (aa af)) (aj (aF T 6 rfl (bC T.hu (aa bB) (aa (bg (aa (cS (aa (ad T 1 rfl)) (aa af))) (aa af))) (fun _ _=>rfl)))
      (am (ar (ao (aa (ao (aa (aT (aa (ad T 0 rfl)) bQ (aP (ad T 4 rfl)))) (aa (ad T 6 rfl)))) (aa (aT (aa (ad T 0 rfl)) (aP (jo (aa (ao (aa (ad T 4 rfl)) (aa (ad T 5 rfl)))) (aa af))) bQ)))))) bh)
      (aj (bI (fw T.hu (aa (ad T 5 rfl)) (aa af)) (am (ar (eo (aa (ao (aa (aT (aa (ad T 2 rfl)) bQ (aP (ad T 3 rfl)))) (aa (aT (aa (ad T 2 rfl)) (aP (ao (aa (ad T 3 rfl)) (aa af))) bQ))))))) bh)
      (aj (bI (fw T.hu (aa (ad T 5 rfl)) (aa af)) (am (ar (eo (aa (ao (aa (ao (aa (aT (aa (ad T 2 rfl)) bQ (aP (ad T 3 rfl)))) (aa (aT (aa (ad T 2 rfl)) (aP (ad T 3 rfl)) (aP (ao (aa (ad T 3 rfl)) (aa af))))))) (aa (aT (aa (ad T 2 rfl)) (aP (ad T 3 rfl)) bQ))))))) bh)
      (aj (bI (fw T.hu (aa (ad T 5 rfl)) (aa af)) (aj (aF T 7 rfl (ao (aa (aT (aa (ad T 2 rfl)) (aP (ao (aa (ad T 3 rfl)) (aa af))) (aP (ao (aa (ad T 3 rfl)) (aa af))))) (aa (aT (aa (ad T 2 rfl)) (aP (ad T 3 rfl)) (aP (ao (aa (ad T 3 rfl)) (aa af)))))))
      (am (ar (eo (aa (ao (aa (ao (aa (aT (aa (ad T 2 rfl)) bQ (aP (ad T 3 rfl)))) (aa (ad T 7 rfl)))) (aa (aT (aa (ad T 2 rfl)) (aP (ao (aa (ad T 3 rfl)) (aa af))) bQ)))))))) bh)
      (aj (aF T 8 rfl (jj (fJ (aa bB) bB)))
      (am (ar (eo (aa (ao (aa (ao (aa (aT (aa (ad T 2 rfl)) bQ (aP (ad T 3 rfl)))) (cX (eB (ae (bC T.hu (aa (ad T 8 rfl)) (aa (bg (aa (cS (aa (ad T 1 rfl)) (aa af))) (aa af))) (fun _ _=>rfl)) al))))) (aa (aT (aa (ad T 2 rfl)) (aP (ao (aa (ad T 3 rfl)) (aa af))) bQ))))))))))))))))))
theorem pr:aQ ["_law_number_here","_law_k","_law_drawn_here"] ["_law_number_here","_law_k"] (ak ir):=⟨rfl,rfl,rfl,by decide +kernel,rfl,by decide +kernel,by decide +kernel⟩
theorem pb (W:gP K "_law_drawn" "_law_drawn" ir f fd) :
    ba P w K mg base (cY P w mg) (k+1) f fd ["_law_number_here","_law_k"] (dR (dX 3 (ii)) 2):=by
  refine aA W pr (G:=[]) (by decide +kernel) fun cdv A outer s H E hr T=>?_
  exact (aj (aF T 2 rfl (bg (aa (du (aa (ao (aa (ao (aa (ad T 0 rfl)) (aa (du (aa af) (aa (ad T 1 rfl)))))) (aa af))) (aa af))) (aa af)))
      (am (ar (bg (aa (ao (aa (ao (aa (du (aa (ad T 2 rfl)) (aa (ad T 2 rfl)))) (aa (du (aa af) (aa (ad T 2 rfl)))))) (aa (ad T 1 rfl)))) (aa af)))))
theorem ql:aQ ["thing"] ["thing"] (ak i8):=⟨rfl,rfl,rfl,by decide +kernel,rfl,by decide +kernel,by decide +kernel⟩
theorem qb (W:gP K "is_whole" "is_whole" i8 f fd) (b_bool:mg "bool" = none) (b_int:mg "int" = none) (b_isinstance:mg "isinstance" = none) :
    ba P w K mg base (cY P w mg) (k+1) f fd ["thing"] (dR (dX 1 (le)) 1):=by
  refine aA W ql (G:=["isinstance","int","bool"]) (by decide +kernel) fun cdv A outer s H E hr T=>?_
  exact (am (ar (da (gq T 0 rfl b_isinstance T 1 rfl b_int (aa (ad T 0 rfl))) (dq (lr (fX T 0 rfl b_isinstance T 2 rfl b_bool (aa (ad T 0 rfl))))))))
theorem mZ:aQ ["thing","low","high"] ["thing","low","high"] (ak gu):=⟨rfl,rfl,rfl,by decide +kernel,rfl,by decide +kernel,by decide +kernel⟩
theorem nM (W:gP K "is_between" "is_between" gu f fd) {f0:Addr} {d0:FuncData} {c7:iJ} (C0:i5 P w K mg base k "is_whole" ["thing"] c7 f0 d0) :
    ba P w K mg base (cY P w mg) (k+1) f fd ["thing","low","high"] (dR (dX 3 (gE c7)) 3):=by
  refine aA W mZ (G:=["is_whole"]) (by decide +kernel) fun cdv A outer s H E hr T=>?_
  exact (am (ar (da (ax C0 hr T 0 rfl (ae (ad T 0 rfl) al) rfl (ah au)) (dq (iR j5 ez j5 ez (aa (ad T 1 rfl)) (aa (ad T 0 rfl)) (aa (ad T 2 rfl)))))))
theorem qG:aQ ["thing","count","least","number"] ["thing","count"] (ak iV):=⟨rfl,rfl,rfl,by decide +kernel,rfl,by decide +kernel,by decide +kernel⟩
theorem qo (W:gP K "are_some" "are_some" iV f fd) {f1:Addr} {d1:FuncData} {aG:iJ} (C1:i5 P w K mg base k "is_between" ["thing","low","high"] aG f1 d1) (b_isinstance:mg "isinstance" = none) (b_tuple:mg "tuple" = none) :
    ba P w K mg base (cY P w mg) (k+1) f fd ["thing","count"] (dR (dX 4 (iT aG)) 2):=by
  refine aA W qG (G:=["isinstance","tuple","is_between"]) (by decide +kernel) fun cdv A outer s H E hr T=>?_
  exact (aj (bI (bf (bo (cJ T 0 rfl b_isinstance T 1 rfl b_tuple (aa (ad T 0 rfl))))) (am (ar cn)) bh)
      (aj (aF T 2 rfl af)
      (aj (fg (have T:=T.nox;gc PassesOwn.never T.calm (c6 (ad T 0 rfl)) (bK T 3 rfl) (aj (bI (bf (bo (ax C1 hr T 2 rfl (ae (ad T 3 rfl) (ae (ad T 2 rfl) (ae (jo (aa (ad T 1 rfl)) (aa af)) al))) rfl (ah (ah (ah au)))))) (am (ar cn)) bh)
      (am (aF T 2 rfl (ao (aa (ad T 3 rfl)) (aa af)))))))
      (am (ar cn)))))
theorem oA:aQ ["thing","count"] ["thing","count"] (ak hZ):=⟨rfl,rfl,rfl,by decide +kernel,rfl,by decide +kernel,by decide +kernel⟩
theorem pA (W:gP K "are_goals" "are_goals" hZ f fd) {f2:Addr} {d2:FuncData} {cM:iJ} (C2:i5 P w K mg base k "are_some" ["thing","count"] cM f2 d2) {t_MOST_PLACES:Tok} (g_MOST_PLACES:mg "MOST_PLACES" = some (.int 24 t_MOST_PLACES)) (b_len:mg "len" = none) :
    ba P w K mg base (cY P w mg) (k+1) f fd ["thing","count"] (dR (dX 2 (gX cM)) 2):=by
  refine aA W oA (G:=["are_some","len","MOST_PLACES"]) (by decide +kernel) fun cdv A outer s H E hr T=>?_
  exact (am (ar (da (ax C2 hr T 0 rfl (ae (ad T 0 rfl) (ae (ad T 1 rfl) al)) rfl (ah (ah au))) (dq (iR j5 ez j5 ez (aa af) (aa (cC T 1 rfl b_len (aa (ad T 0 rfl)))) (aa (aX T 2 rfl g_MOST_PLACES)))))))
theorem qK:aQ ["thing","count"] ["thing","count"] (ak iU):=⟨rfl,rfl,rfl,by decide +kernel,rfl,by decide +kernel,by decide +kernel⟩
theorem qA (W:gP K "is_place" "is_place" iU f fd) {f3:Addr} {d3:FuncData} {cB:iJ} (C3:i5 P w K mg base k "are_goals" ["thing","count"] cB f3 d3) {f1:Addr} {d1:FuncData} {aG:iJ} (C1:i5 P w K mg base k "is_between" ["thing","low","high"] aG f1 d1) {t_GAIN:Tok} (g_GAIN:mg "GAIN" = some (.int 2 t_GAIN)) {t_GOALS:Tok} (g_GOALS:mg "GOALS" = some (.int 3 t_GOALS)) {t_MARK:Tok} (g_MARK:mg "MARK" = some (.int 1 t_MARK)) {t_MOST_GAIN:Tok} (g_MOST_GAIN:mg "MOST_GAIN" = some (.int 20 t_MOST_GAIN)) {t_MOST_MARK:Tok} (g_MOST_MARK:mg "MOST_MARK" = some (.int 12 t_MOST_MARK)) {t_PARTS:Tok} (g_PARTS:mg "PARTS" = some (.int 4 t_PARTS)) {t_WHO:Tok} (g_WHO:mg "WHO" = some (.int 0 t_WHO)) (b_isinstance:mg "isinstance" = none) (b_len:mg "len" = none) (b_tuple:mg "tuple" = none) :
    ba P w K mg base (cY P w mg) (k+1) f fd ["thing","count"] (dR (dX 2 (iQ cB aG)) 2):=by
  refine aA W qK (G:=["isinstance","tuple","len","PARTS","is_between","WHO","MARK","MOST_MARK","GAIN","MOST_GAIN","are_goals","GOALS"]) (by decide +kernel) fun cdv A outer s H E hr T=>?_
  exact (aj (bI (fP (dz (bf (bo (cJ T 0 rfl b_isinstance T 1 rfl b_tuple (aa (ad T 0 rfl))))) (dO (kP T.hu (aa (cC T 2 rfl b_len (aa (ad T 0 rfl)))) (aa (aX T 3 rfl g_PARTS)))))) (am (ar cn)) bh)
      (aj (bI (fP (dz (bf (bo (ax C1 hr T 4 rfl (ae (bC T.hu (aa (ad T 0 rfl)) (aa (aX T 5 rfl g_WHO)) (fun _ _=>rfl)) (ae af (ae af al))) rfl (ah (ah (ah au)))))) (dO (bf (bo (ax C1 hr T 4 rfl (ae (bC T.hu (aa (ad T 0 rfl)) (aa (aX T 6 rfl g_MARK)) (fun _ _=>rfl)) (ae af (ae (aX T 7 rfl g_MOST_MARK) al))) rfl (ah (ah (ah au))))))))) (am (ar cn)) bh)
      (am (ar (da (ax C1 hr T 4 rfl (ae (bC T.hu (aa (ad T 0 rfl)) (aa (aX T 8 rfl g_GAIN)) (fun _ _=>rfl)) (ae (im (aa (aX T 9 rfl g_MOST_GAIN))) (ae (aX T 9 rfl g_MOST_GAIN) al))) rfl (ah (ah (ah au)))) (dq (ax C3 hr T 10 rfl (ae (bC T.hu (aa (ad T 0 rfl)) (aa (aX T 11 rfl g_GOALS)) (fun _ _=>rfl)) (ae (ad T 1 rfl) al)) rfl (ah (ah au)))))))))
theorem oq:aQ ["thing"] ["thing"] (ak fN):=⟨rfl,rfl,rfl,by decide +kernel,rfl,by decide +kernel,by decide +kernel⟩
theorem pE (W:gP K "is_ground" "is_ground" fN f fd) {f4:Addr} {d4:FuncData} {cE:iJ} (C4:i5 P w K mg base k "is_place" ["thing","count"] cE f4 d4) {t_MOST_PLACES:Tok} (g_MOST_PLACES:mg "MOST_PLACES" = some (.int 24 t_MOST_PLACES)) (b_all:mg "all" = none) (b_isinstance:mg "isinstance" = none) (b_len:mg "len" = none) (b_tuple:mg "tuple" = none) :
    ba P w K mg base (cY P w mg) (k+1) f fd ["thing"] (dR (dX 1 (ik cE)) 1):=by
  refine aA W oq (G:=["isinstance","tuple","len","MOST_PLACES","all"]) (by decide +kernel) fun cdv A outer s H E hr T=>?_
  exact (aj (bI (fP (dz (bf (bo (cJ T 0 rfl b_isinstance T 1 rfl b_tuple (aa (ad T 0 rfl))))) (dO (bf (ib j5 ez j5 ez (aa af) (aa (cC T 2 rfl b_len (aa (ad T 0 rfl)))) (aa (aX T 3 rfl g_MOST_PLACES))))))) (am (ar cn)) bh)
      (am (ar (u5 T 4 rfl b_all (cX (cL (N:=["place","thing"]) (own:=1) (G:=["is_place","len"]) (fr:=[0]) T rfl rfl (oN:=["thing"]) (on:=(ak fN).names) (by decide +kernel) (c6 (ad T 0 rfl)) (df (by decide)) (fun cl C s' H' fp E' T=>⟨(bK T 0 rfl),eK,(ax C4 hr T 0 rfl (ae (ad T 0 rfl) (ae (cC T 1 rfl b_len (aa (ad T 1 rfl))) al)) rfl (ah (ah au)))⟩)))))))
theorem iZ:aQ ["most"] [] (ak cP):=⟨rfl,rfl,rfl,by decide +kernel,rfl,by decide +kernel,by decide +kernel⟩
theorem iM (W:gP K "numbers_by_words" "numbers_by_words" cP f fd) {t_MOST_GAIN:Tok} (g_MOST_GAIN:mg "MOST_GAIN" = some (.int 20 t_MOST_GAIN)) {t_MOST_MARK:Tok} (g_MOST_MARK:mg "MOST_MARK" = some (.int 12 t_MOST_MARK)) {t_MOST_PLACES:Tok} (g_MOST_PLACES:mg "MOST_PLACES" = some (.int 24 t_MOST_PLACES)) (b_dict:mg "dict" = none) (b_max:mg "max" = none) (b_range:mg "range" = none) (b_str:mg "str" = none) :
    ba P w K mg base (cY P w mg) (k+1) f fd [] (dR (dX 1 (dI)) 0):=by
  refine aA W iZ (G:=["max","MOST_PLACES","MOST_MARK","MOST_GAIN","dict","range"]) (by decide +kernel) fun cdv A outer s H E hr T=>?_
  exact (aj (aF T 0 rfl (sY T 0 rfl b_max (aa (aX T 1 rfl g_MOST_PLACES)) (aa (aX T 2 rfl g_MOST_MARK)) (aa (aX T 3 rfl g_MOST_GAIN))))
      (am (ar (jj (o9 T 4 rfl b_dict (cX (cL (N:=["number"]) (own:=1) (G:=["str"]) (fr:=[]) T rfl rfl (oN:=["most"]) (on:=(ak cP).names) (by decide +kernel) (pL T 5 rfl b_range (ae (im (aa (aX T 3 rfl g_MOST_GAIN))) (ae (ao (aa (ad T 0 rfl)) (aa af)) al)) (ah (ah au))) (df (by decide)) (fun cl C s' H' fp E' T=>⟨(bK T 0 rfl),eK,(gh (ae (dj T 0 rfl b_str (aa (ad T 0 rfl))) (ae (ad T 0 rfl) al)))⟩))))))))
theorem jT:aQ ["words","numbers","row"] ["words","numbers"] (ak de):=⟨rfl,rfl,rfl,by decide +kernel,rfl,by decide +kernel,by decide +kernel⟩
theorem jG (W:gP K "place_of_words" "place_of_words" de f fd) {t_LEAST_WORDS:Tok} (g_LEAST_WORDS:mg "LEAST_WORDS" = some (.int 6 t_LEAST_WORDS)) {t_TO:Tok} (g_TO:mg "TO" = some (.int 3 t_TO)) (b_len:mg "len" = none) (b_tuple:mg "tuple" = none) {c_NoText:Addr} (m_NoText:mg "NoText" = some (.ref c_NoText)) (q_NoText:PySem.W.excIn K c_NoText pR oh=true) :
    ba P w K mg base (cY P w mg) (k+1) f fd ["words","numbers"] (dR (dX 3 (di)) 2):=by
  refine aA W jT (G:=["len","LEAST_WORDS","NoText","tuple","TO"]) (by decide +kernel) fun cdv A outer s H E hr T=>?_
  exact (aj (bI (lv (aa (cC T 0 rfl b_len (aa (ad T 0 rfl)))) (aa (aX T 1 rfl g_LEAST_WORDS))) (am (iS T 2 rfl m_NoText q_NoText (have T:=T.nox;bB))) bh)
      (aj (ur (sq 2 rfl (N:=["word","numbers"]) (own:=1) (G:=[]) (fr:=[1]) T rfl rfl (oN:=["words","numbers","row"]) (on:=(ak de).names) (by decide +kernel) (c6 (ad T 0 rfl)) (df (by decide)) (fun cl C s' H' fp E' T=>⟨(bK T 0 rfl),eK,(rR T.hu (aa (ad T 1 rfl)) (ad T 0 rfl))⟩)) (show 2 < 3 by decide))
      (am (ar (gh (ae (bC T.hu (aa (ad T 2 rfl)) (aa af) (fun _ _=>rfl)) (ae (bC T.hu (aa (ad T 2 rfl)) (aa af) (fun _ _=>rfl)) (ae (bC T.hu (aa (ad T 2 rfl)) (aa af) (fun _ _=>rfl)) (ae (gJ T 3 rfl b_tuple (aa (aT (aa (ad T 2 rfl)) (aP (ao (aa (aX T 4 rfl g_TO)) (aa af))) (aP (im (aa af)))))) al)))))))))
theorem jU:aQ ["place","words"] ["place"] (ak dh):=⟨rfl,rfl,rfl,by decide +kernel,rfl,by decide +kernel,by decide +kernel⟩
theorem jM (W:gP K "words_of_place" "words_of_place" dh f fd) {t_GAIN:Tok} (g_GAIN:mg "GAIN" = some (.int 2 t_GAIN)) {t_GOALS:Tok} (g_GOALS:mg "GOALS" = some (.int 3 t_GOALS)) {t_MARK:Tok} (g_MARK:mg "MARK" = some (.int 1 t_MARK)) {t_WHO:Tok} (g_WHO:mg "WHO" = some (.int 0 t_WHO)) (b_str:mg "str" = none) :
    ba P w K mg base (cY P w mg) (k+1) f fd ["place"] (dR (dX 2 (eh)) 1):=by
  refine aA W jU (G:=["str","WHO","MARK","GAIN","GOALS"]) (by decide +kernel) fun cdv A outer s H E hr T=>?_
  exact (aj (lK T 1 rfl (eB (ae bB (ae (dj T 0 rfl b_str (aa (bC T.hu (aa (ad T 0 rfl)) (aa (aX T 1 rfl g_WHO)) (fun _ _=>rfl)))) (ae (dj T 0 rfl b_str (aa (bC T.hu (aa (ad T 0 rfl)) (aa (aX T 2 rfl g_MARK)) (fun _ _=>rfl)))) (ae (dj T 0 rfl b_str (aa (bC T.hu (aa (ad T 0 rfl)) (aa (aX T 3 rfl g_GAIN)) (fun _ _=>rfl)))) (ae bB al)))))))
      (aj (j4 T 1 rfl (jj (cL (N:=["goal"]) (own:=1) (G:=["str"]) (fr:=[]) T rfl rfl (oN:=["place","words"]) (on:=(ak dh).names) (by decide +kernel) (c6 (bC T.hu (aa (ad T 0 rfl)) (aa (aX T 4 rfl g_GOALS)) (fun _ _=>rfl))) (df (by decide)) (fun cl C s' H' fp E' T=>⟨(bK T 0 rfl),eK,(dj T 0 rfl b_str (aa (ad T 0 rfl)))⟩))))
      (aj (oZ T 1 rfl bB)
      (am (sX T 1 rfl)))))
theorem tj:aQ ["ground","words","place"] ["ground"] (ak jB):=⟨rfl,rfl,rfl,by decide +kernel,rfl,by decide +kernel,by decide +kernel⟩
theorem r8 (W:gP K "written" "written" jB f fd) {f5:Addr} {d5:FuncData} {aL:iJ} (C5:i5 P w K mg base k "is_ground" ["thing"] aL f5 d5) {f6:Addr} {d6:FuncData} {aM:iJ} (C6:i5 P w K mg base k "words_of_place" ["place"] aM f6 d6) (b_len:mg "len" = none) (b_str:mg "str" = none) {c_NoGround:Addr} (m_NoGround:mg "NoGround" = some (.ref c_NoGround)) (q_NoGround:PySem.W.excIn K c_NoGround pR oh=true) :
    ba P w K mg base (cY P w mg) (k+1) f fd ["ground"] (dR (dX 3 (jO aL aM)) 1):=by
  refine aA W tj (G:=["is_ground","NoGround","str","len","words_of_place"]) (by decide +kernel) fun cdv A outer s H E hr T=>?_
  exact (aj (bI (bf (bo (ax C5 hr T 0 rfl (ae (ad T 0 rfl) al) rfl (ah au)))) (am (iS T 1 rfl m_NoGround q_NoGround (have T:=T.nox;bB))) bh)
      (aj (lK T 1 rfl (eB (ae bB (ae (dj T 2 rfl b_str (aa (cC T 3 rfl b_len (aa (ad T 0 rfl))))) al))))
      (aj (fg (have T:=T.nox;gc PassesOwn.never T.calm (c6 (ad T 0 rfl)) (bK T 2 rfl) (am (j4 T 1 rfl (ax C6 hr T 4 rfl (ae (ad T 2 rfl) al) rfl (ah au))))))
      (am (ar (eo (kZ T 1 rfl)))))))
theorem yH:aQ ["text","numbers","rows","ground"] ["text"] (ak nA):=⟨rfl,rfl,rfl,by decide +kernel,rfl,by decide +kernel,by decide +kernel⟩
theorem yR (W:gP K "read" "read" nA f fd) {f5:Addr} {d5:FuncData} {aL:iJ} (C5:i5 P w K mg base k "is_ground" ["thing"] aL f5 d5) {f8:Addr} {d8:FuncData} {aR:iJ} (C8:i5 P w K mg base k "numbers_by_words" [] aR f8 d8) {f9:Addr} {d9:FuncData} {aE:iJ} (C9:i5 P w K mg base k "place_of_words" ["words","numbers"] aE f9 d9) {f7:Addr} {d7:FuncData} {cy:iJ} (C7:i5 P w K mg base k "written" ["ground"] cy f7 d7) (b_tuple:mg "tuple" = none) {c_NoText:Addr} (m_NoText:mg "NoText" = some (.ref c_NoText)) (q_NoText:PySem.W.excIn K c_NoText pR oh=true) :
    ba P w K mg base (cY P w mg) (k+1) f fd ["text"] (dR (dX 4 (nC aL aR aE cy)) 1):=by
  refine aA W yH (G:=["numbers_by_words","tuple","is_ground","written","NoText"]) (by decide +kernel) fun cdv A outer s H E hr T=>?_
  exact (aj (aF T 1 rfl (sK C8 hr T 0 rfl))
      (aj (aF T 2 rfl (aT (cX (fJ (aa (ad T 0 rfl)) bB)) (aP af) bQ))
      (aj (aF T 3 rfl (gJ T 1 rfl b_tuple (cX (cL (N:=["row","numbers"]) (own:=1) (G:=["place_of_words"]) (fr:=[1]) T rfl rfl (oN:=["text","numbers","rows","ground"]) (on:=(ak nA).names) (by decide +kernel) (c6 (ad T 2 rfl)) (df (by decide)) (fun cl C s' H' fp E' T=>⟨(bK T 0 rfl),eK,(ax C9 hr T 0 rfl (ae (jj (fJ (aa (ad T 0 rfl)) bB)) (ae (ad T 1 rfl) al)) rfl (ah (ah au)))⟩)))))
      (aj (bI (fP (dz (bf (bo (ax C5 hr T 2 rfl (ae (ad T 3 rfl) al) rfl (ah au)))) (dO (kP T.hu (aa (ax C7 hr T 3 rfl (ae (ad T 3 rfl) al) rfl (ah au))) (aa (ad T 0 rfl)))))) (am (iS T 4 rfl m_NoText q_NoText (have T:=T.nox;bB))) bh)
      (am (ar (ad T 3 rfl)))))))
theorem oF:aQ ["_law_text","_law_found_here","e","_law_good"] ["_law_text"] (ak ia):=⟨rfl,rfl,rfl,by decide +kernel,rfl,by decide +kernel,by decide +kernel⟩
theorem oR (W:gP K "_law_found" "_law_found" ia f fd) {f10:Addr} {d10:FuncData} {dm:iJ} (C10:i5 P w K mg base k "read" ["text"] dm f10 d10) (b_ValueError:mg "ValueError" = none) (b_int:mg "int" = none) (b_isinstance:mg "isinstance" = none) {c_GroundError:Addr} (m_GroundError:mg "GroundError" = some (.ref c_GroundError)) (q_GroundError:PySem.W.excIn K c_GroundError pR oh=true) {c_NoGround:Addr} (m_NoGround:mg "NoGround" = some (.ref c_NoGround)) (q_NoGround:PySem.W.excIn K c_NoGround pR oh=true) {c_NoText:Addr} (m_NoText:mg "NoText" = some (.ref c_NoText)) (q_NoText:PySem.W.excIn K c_NoText pR oh=true) (b_NoText_NoText:(Value.ref c_NoText::hJ K c_NoText).contains (.ref c_NoText)=true) (k_NoText_GroundError:PySem.W.kitOne K (.ref c_NoText) (.ref c_GroundError)=some true) (k_NoText_NoGround:PySem.W.kitOne K (.ref c_NoText) (.ref c_NoGround)=some false) (k_NoText_ValueError:PySem.W.kitOne K (.ref c_NoText) (.type "ValueError")=some true) (x_NoText:lP K c_NoText) :
    ba P w K mg base (cY P w mg) (k+1) f fd ["_law_text"] (dR (dX 4 (fG dm)) 1):=by
  refine aA W oF (G:=["read","NoText","isinstance","GroundError","ValueError","NoGround","int"]) (by decide +kernel) fun cdv A outer s H E hr T=>?_
  exact (aj (sh C10.ok hr T ⟨rfl,rfl⟩ 1 rfl 0 rfl C10.m C10.kp C10.b (have T:=T.nox;(ae (ad T 0 rfl) al)) (ah au) (lN.cons m_NoText (pH T 1 rfl m_NoText q_NoText q_NoText b_NoText_NoText 2 rfl rfl 3 rfl (f1:=fun p=>(iu (k8 2 p) (iu (k8 2 p) (qe (lI 2 p))))) (f:=fun p=>(e2 eG (lj (ai (lC aB) (ai (eC .none) aB))) (e1 mM (ag 3)))) (fun p ob hc T=>((da (uO T List.mem_cons_self hc 2 rfl 2 rfl b_isinstance 3 rfl m_GroundError k_NoText_GroundError) (da (rZ T List.mem_cons_self hc 2 rfl 2 rfl b_isinstance 4 rfl b_ValueError PyProof.Rows.Boot.«ValueError» k_NoText_ValueError) (dq (lr (tu T List.mem_cons_self hc 2 rfl 2 rfl b_isinstance 5 rfl m_NoGround x_NoText k_NoText_NoGround)))))).un) (fun p ob hc T=>((bC T.hu (cX (eB (ae (gh al) (ae jR al)))) (aa (p0 T 6 rfl b_int (aa (qr T 3 rfl)))) (fun _ _=>rfl))).un)) lN.nil))
      (am (ar (bC T.hu (cX (eB (ae (ad T 1 rfl) (ae (gh al) al)))) (aa (mz T 6 rfl b_int (aa (oK (aa (ad T 1 rfl)) (aa jR))))) (fun _ _=>rfl)))))
theorem lQ:aQ ["_law_script","_law_k"] ["_law_script","_law_k"] (ak fU):=⟨rfl,rfl,rfl,by decide +kernel,rfl,by decide +kernel,by decide +kernel⟩
theorem lX (W:gP K "_law_cell_at" "_law_cell_at" fU f fd) (b_len:mg "len" = none) :
    ba P w K mg base (cY P w mg) (k+1) f fd ["_law_script","_law_k"] (dR (dX 2 (fV)) 2):=by
  refine aA W lQ (G:=["len"]) (by decide +kernel) fun cdv A outer s H E hr T=>?_
  exact (aj (bI (lv (aa (ad T 1 rfl)) (aa (cC T 0 rfl b_len (aa (ad T 0 rfl))))) (am (ar (bC T.hu (aa (ad T 0 rfl)) (aa (ad T 1 rfl)) (fun _ _=>rfl)))) bh)
      (am (ar af)))
theorem nY:aQ ["_law_script","_law_k","_law_drawn_here"] ["_law_script","_law_k"] (ak iw):=⟨rfl,rfl,rfl,by decide +kernel,rfl,by decide +kernel,by decide +kernel⟩
theorem pM (W:gP K "_law_mixed" "_law_mixed" iw f fd) {f11:Addr} {d11:FuncData} {bN:iJ} (C11:i5 P w K mg base k "_law_cell_at" ["_law_script","_law_k"] bN f11 d11) :
    ba P w K mg base (cY P w mg) (k+1) f fd ["_law_script","_law_k"] (dR (dX 3 (io bN)) 2):=by
  refine aA W nY (G:=["_law_cell_at"]) (by decide +kernel) fun cdv A outer s H E hr T=>?_
  exact (aj (aF T 2 rfl (bg (aa (du (aa (ao (aa (ao (aa (ax C11 hr T 0 rfl (ae (ad T 0 rfl) (ae (ad T 1 rfl) al)) rfl (ah (ah au)))) (aa (du (aa af) (aa (ad T 1 rfl)))))) (aa af))) (aa af))) (aa af)))
      (am (ar (bg (aa (ao (aa (ao (aa (du (aa (ad T 2 rfl)) (aa (ad T 2 rfl)))) (aa (du (aa af) (aa (ad T 2 rfl)))))) (aa (ad T 1 rfl)))) (aa af)))))
theorem oI:aQ ["_law_number_here","_law_count","_law_found_here","_law_k"] ["_law_number_here","_law_count"] (ak ie):=⟨rfl,rfl,rfl,by decide +kernel,rfl,by decide +kernel,by decide +kernel⟩
theorem pN (W:gP K "_law_goals" "_law_goals" ie f fd) {f13:Addr} {d13:FuncData} {aw:iJ} (C13:i5 P w K mg base k "_law_drawn" ["_law_number_here","_law_k"] aw f13 d13) (b_int:mg "int" = none) (b_range:mg "range" = none) (b_sorted:mg "sorted" = none) (b_tuple:mg "tuple" = none) :
    ba P w K mg base (cY P w mg) (k+1) f fd ["_law_number_here","_law_count"] (dR (dX 4 (g7 aw)) 2):=by
  refine aA W oI (G:=["range","int","_law_drawn","tuple","sorted"]) (by decide +kernel) fun cdv A outer s H E hr T=>?_
  exact (aj (lK T 2 rfl ot)
      (aj (fg (have T:=T.nox;gc PassesOwn.never T.calm (g8 T 0 rfl b_range (ae (ao (aa (ao (aa af) (aa (bg (aa (ad T 0 rfl)) (aa af))))) (aa (du (aa af) (aa (mz T 1 rfl b_int (aa (km T.hu (aa (bg (aa (cS (aa (ad T 0 rfl)) (aa af))) (aa af))) (aa af)))))))) al) (ah au)) (bK T 3 rfl) (am (uX T 2 rfl (bg (aa (ax C13 hr T 2 rfl (ae (ad T 0 rfl) (ae (ad T 3 rfl) al)) rfl (ah (ah au)))) (aa (ad T 1 rfl))) cn))))
      (am (ar (gJ T 3 rfl b_tuple (cX (nF T 4 rfl b_sorted (kZ T 2 rfl))))))))
theorem pJ:aQ ["_law_number_here","_law_count","_law_high","_law_gain"] ["_law_number_here","_law_count","_law_high"] (ak gZ):=⟨rfl,rfl,rfl,by decide +kernel,rfl,by decide +kernel,by decide +kernel⟩
theorem o0 (W:gP K "_law_place" "_law_place" gZ f fd) {f13:Addr} {d13:FuncData} {aw:iJ} (C13:i5 P w K mg base k "_law_drawn" ["_law_number_here","_law_k"] aw f13 d13) {f14:Addr} {d14:FuncData} {cz:iJ} (C14:i5 P w K mg base k "_law_goals" ["_law_number_here","_law_count"] cz f14 d14) :
    ba P w K mg base (cY P w mg) (k+1) f fd ["_law_number_here","_law_count","_law_high"] (dR (dX 4 (ij aw cz)) 3):=by
  refine aA W pJ (G:=["_law_goals","_law_drawn"]) (by decide +kernel) fun cdv A outer s H E hr T=>?_
  exact (aj (aF T 3 rfl (jo (aa (bg (aa (cS (aa (ad T 0 rfl)) (aa af))) (aa af))) (aa af)))
      (aj (bI (fw T.hu (aa (bg (aa (cS (aa (ad T 0 rfl)) (aa af))) (aa af))) (aa af)) (am (aF T 3 rfl (jo (aa (bg (aa (cS (aa (ad T 0 rfl)) (aa af))) (aa af))) (aa af)))) bh)
      (am (ar (gh (ae (bg (aa (ad T 0 rfl)) (aa af)) (ae (bg (aa (cS (aa (ad T 0 rfl)) (aa af))) (aa (ao (aa (ad T 2 rfl)) (aa af)))) (ae (ad T 3 rfl) (ae (ax C14 hr T 0 rfl (ae (ax C13 hr T 1 rfl (ae (ad T 0 rfl) (ae af al)) rfl (ah (ah au))) (ae (ad T 1 rfl) al)) rfl (ah (ah au))) al)))))))))
theorem mQ:aQ ["_law_script","_law_most","_law_number_here","_law_count","_law_high"] ["_law_script","_law_most"] (ak e9):=⟨rfl,rfl,rfl,by decide +kernel,rfl,by decide +kernel,by decide +kernel⟩
theorem nr (W:gP K "_law_ground" "_law_ground" e9 f fd) {f12:Addr} {d12:FuncData} {aN:iJ} (C12:i5 P w K mg base k "_law_mixed" ["_law_script","_law_k"] aN f12 d12) {f15:Addr} {d15:FuncData} {ci:iJ} (C15:i5 P w K mg base k "_law_place" ["_law_number_here","_law_count","_law_high"] ci f15 d15) (b_len:mg "len" = none) (b_max:mg "max" = none) (b_min:mg "min" = none) (b_range:mg "range" = none) (b_tuple:mg "tuple" = none) :
    ba P w K mg base (cY P w mg) (k+1) f fd ["_law_script","_law_most"] (dR (dX 5 (gA aN ci)) 2):=by
  refine aA W mQ (G:=["_law_mixed","min","max","len","tuple","range"]) (by decide +kernel) fun cdv A outer s H E hr T=>?_
  exact (aj (aF T 2 rfl (ax C12 hr T 0 rfl (ae (ad T 0 rfl) (ae af al)) rfl (ah (ah au))))
      (aj (aF T 3 rfl (ao (aa af) (aa (bg (aa (ad T 2 rfl)) (aa (vx T 1 rfl b_min (aa (ad T 1 rfl)) (aa (tZ T 2 rfl b_max (aa af) (aa (cC T 3 rfl b_len (aa (ad T 0 rfl))))))))))))
      (aj (aF T 4 rfl (bC T.hu (cX (eB (ae af (ae af (ae af (ae af (ae af (ae af al)))))))) (aa (bg (aa (cS (aa (ad T 2 rfl)) (aa af))) (aa af))) (fun _ _=>rfl)))
      (am (ar (gJ T 4 rfl b_tuple (cX (cL (N:=["_law_k","_law_script","_law_count","_law_high"]) (own:=1) (G:=["_law_place","_law_mixed"]) (fr:=[0,3,4]) T rfl rfl (oN:=["_law_script","_law_most","_law_number_here","_law_count","_law_high"]) (on:=(ak e9).names) (by decide +kernel) (g8 T 5 rfl b_range (ae (ad T 3 rfl) al) (ah au)) (df (by decide)) (fun cl C s' H' fp E' T=>⟨(bK T 0 rfl),eK,(ax C15 hr T 0 rfl (ae (ax C12 hr T 1 rfl (ae (ad T 1 rfl) (ae (ao (aa af) (aa (ad T 0 rfl))) al)) rfl (ah (ah au))) (ae (ad T 2 rfl) (ae (ad T 3 rfl) al))) rfl (ah (ah (ah au))))⟩)))))))))
theorem nc:aQ ["_law_thing","_law_low","_law_high"] ["_law_thing","_law_low","_law_high"] (ak gp):=⟨rfl,rfl,rfl,by decide +kernel,rfl,by decide +kernel,by decide +kernel⟩
theorem ni (W:gP K "_law_number" "_law_number" gp f fd) (b_bool:mg "bool" = none) (b_int:mg "int" = none) (b_isinstance:mg "isinstance" = none) :
    ba P w K mg base (cY P w mg) (k+1) f fd ["_law_thing","_law_low","_law_high"] (dR (dX 3 (gF)) 3):=by
  refine aA W nc (G:=["isinstance","int","bool"]) (by decide +kernel) fun cdv A outer s H E hr T=>?_
  exact (am (ar (da (gq T 0 rfl b_isinstance T 1 rfl b_int (aa (ad T 0 rfl))) (da (lr (fX T 0 rfl b_isinstance T 2 rfl b_bool (aa (ad T 0 rfl)))) (dq (iR j5 ez j5 ez (aa (ad T 1 rfl)) (aa (ad T 0 rfl)) (aa (ad T 2 rfl))))))))
theorem nI:aQ ["_law_found_here","_law_count","_law_last","_law_part"] ["_law_found_here","_law_count"] (ak gy):=⟨rfl,rfl,rfl,by decide +kernel,rfl,by decide +kernel,by decide +kernel⟩
theorem nH (W:gP K "_law_rising" "_law_rising" gy f fd) (b_bool:mg "bool" = none) (b_int:mg "int" = none) (b_isinstance:mg "isinstance" = none) (b_tuple:mg "tuple" = none) :
    ba P w K mg base (cY P w mg) (k+1) f fd ["_law_found_here","_law_count"] (dR (dX 4 (gx)) 2):=by
  refine aA W nI (G:=["isinstance","tuple","int","bool"]) (by decide +kernel) fun cdv A outer s H E hr T=>?_
  exact (aj (bI (bf (bo (cJ T 0 rfl b_isinstance T 1 rfl b_tuple (aa (ad T 0 rfl))))) (am (ar cn)) bh)
      (aj (aF T 2 rfl (im (aa af)))
      (aj (fg (have T:=T.nox;gc PassesOwn.never T.calm (c6 (ad T 0 rfl)) (bK T 3 rfl) (aj (bI (fP (dz (bf (bo (gq T 0 rfl b_isinstance T 2 rfl b_int (aa (ad T 3 rfl))))) (dz (bo (fX T 0 rfl b_isinstance T 3 rfl b_bool (aa (ad T 3 rfl)))) (dO (bf (ib o1 ez o1 ez (aa (ad T 2 rfl)) (aa (ad T 3 rfl)) (aa (ad T 1 rfl)))))))) (am (ar cn)) bh)
      (am (aF T 2 rfl (ad T 3 rfl))))))
      (am (ar cn)))))
theorem kE:aQ ["_law_thing","_law_count"] ["_law_thing","_law_count"] (ak fD):=⟨rfl,rfl,rfl,by decide +kernel,rfl,by decide +kernel,by decide +kernel⟩
theorem kF (W:gP K "_law_is_place" "_law_is_place" fD f fd) {f19:Addr} {d19:FuncData} {bD:iJ} (C19:i5 P w K mg base k "_law_number" ["_law_thing","_law_low","_law_high"] bD f19 d19) {f18:Addr} {d18:FuncData} {cc:iJ} (C18:i5 P w K mg base k "_law_rising" ["_law_found_here","_law_count"] cc f18 d18) (b_isinstance:mg "isinstance" = none) (b_len:mg "len" = none) (b_tuple:mg "tuple" = none) :
    ba P w K mg base (cY P w mg) (k+1) f fd ["_law_thing","_law_count"] (dR (dX 2 (ft bD cc)) 2):=by
  refine aA W kE (G:=["isinstance","tuple","len","_law_number","_law_rising"]) (by decide +kernel) fun cdv A outer s H E hr T=>?_
  exact (aj (bI (fP (dz (bf (bo (cJ T 0 rfl b_isinstance T 1 rfl b_tuple (aa (ad T 0 rfl))))) (dz (kP T.hu (aa (cC T 2 rfl b_len (aa (ad T 0 rfl)))) (aa af)) (dO (bf (bo (ax C19 hr T 3 rfl (ae (bC T.hu (aa (ad T 0 rfl)) (aa af) (fun _ _=>rfl)) (ae af (ae af al))) rfl (ah (ah (ah au)))))))))) (am (ar cn)) bh)
      (aj (bI (fP (dz (bf (bo (ax C19 hr T 3 rfl (ae (bC T.hu (aa (ad T 0 rfl)) (aa af) (fun _ _=>rfl)) (ae af (ae af al))) rfl (ah (ah (ah au)))))) (dO (bf (bo (ax C19 hr T 3 rfl (ae (bC T.hu (aa (ad T 0 rfl)) (aa af) (fun _ _=>rfl)) (ae (im (aa af)) (ae af al))) rfl (ah (ah (ah au))))))))) (am (ar cn)) bh)
      (am (ar (da (ax C18 hr T 4 rfl (ae (bC T.hu (aa (ad T 0 rfl)) (aa af) (fun _ _=>rfl)) (ae (ad T 1 rfl) al)) rfl (ah (ah au))) (dq (v7 T.hu (aa (bC T.hu (aa (ad T 0 rfl)) (aa af) (fun _ _=>rfl))) (aa (gh al)))))))))
theorem ke:aQ ["_law_thing"] ["_law_thing"] (ak dD):=⟨rfl,rfl,rfl,by decide +kernel,rfl,by decide +kernel,by decide +kernel⟩
theorem kb (W:gP K "_law_is_ground" "_law_is_ground" dD f fd) {f20:Addr} {d20:FuncData} {bi:iJ} (C20:i5 P w K mg base k "_law_is_place" ["_law_thing","_law_count"] bi f20 d20) (b_isinstance:mg "isinstance" = none) (b_len:mg "len" = none) (b_tuple:mg "tuple" = none) :
    ba P w K mg base (cY P w mg) (k+1) f fd ["_law_thing"] (dR (dX 1 (eQ bi)) 1):=by
  refine aA W ke (G:=["isinstance","tuple","len"]) (by decide +kernel) fun cdv A outer s H E hr T=>?_
  exact (aj (bI (fP (dz (bf (bo (cJ T 0 rfl b_isinstance T 1 rfl b_tuple (aa (ad T 0 rfl))))) (dO (bf (ib o1 ez o1 ez (aa af) (aa (cC T 2 rfl b_len (aa (ad T 0 rfl)))) (aa af)))))) (am (ar cn)) bh)
      (am (ar (km T.hu (cX (cL (N:=["_law_part","_law_thing"]) (own:=1) (G:=["_law_is_place","len"]) (fr:=[0]) T rfl rfl (oN:=["_law_thing"]) (on:=(ak dD).names) (by decide +kernel) (c6 (ad T 0 rfl)) (df (by decide)) (fun cl C s' H' fp E' T=>⟨(bK T 0 rfl),(uE (bf (bo (ax C20 hr T 0 rfl (ae (ad T 0 rfl) (ae (cC T 1 rfl b_len (aa (ad T 1 rfl))) al)) rfl (ah (ah au)))))),(ad T 0 rfl)⟩))) (cX (eB al))))))
theorem lM:aQ ["_law_ground_here","_law_found_here","_law_place_here"] ["_law_ground_here"] (ak dw):=⟨rfl,rfl,rfl,by decide +kernel,rfl,by decide +kernel,by decide +kernel⟩
theorem lT (W:gP K "_law_written" "_law_written" dw f fd) (b_len:mg "len" = none) (b_str:mg "str" = none) :
    ba P w K mg base (cY P w mg) (k+1) f fd ["_law_ground_here"] (dR (dX 3 (fQ)) 1):=by
  refine aA W lM (G:=["str","len"]) (by decide +kernel) fun cdv A outer s H E hr T=>?_
  exact (aj (aF T 1 rfl (ao (aa bB) (aa (dj T 0 rfl b_str (aa (cC T 1 rfl b_len (aa (ad T 0 rfl))))))))
      (aj (fg (have T:=T.nox;gc PassesOwn.never T.calm (c6 (ad T 0 rfl)) (bK T 2 rfl) (aj (aF T 1 rfl (ao (aa (ao (aa (ao (aa (ad T 1 rfl)) (aa bB))) (aa (eo (cX (cL (N:=["_law_part"]) (own:=1) (G:=["str"]) (fr:=[]) T rfl rfl (oN:=["_law_ground_here","_law_found_here","_law_place_here"]) (on:=(ak dw).names) (by decide +kernel) (c6 (aT (aa (ad T 2 rfl)) bQ (aP af))) (df (by decide)) (fun cl C s' H' fp E' T=>⟨(bK T 0 rfl),eK,(ao (aa bB) (aa (dj T 0 rfl b_str (aa (ad T 0 rfl)))))⟩))))))) (aa bB)))
      (am (aF T 1 rfl (ao (aa (ao (aa (ad T 1 rfl)) (aa (eo (cX (cL (N:=["_law_goal"]) (own:=1) (G:=["str"]) (fr:=[]) T rfl rfl (oN:=["_law_ground_here","_law_found_here","_law_place_here"]) (on:=(ak dw).names) (by decide +kernel) (c6 (bC T.hu (aa (ad T 2 rfl)) (aa af) (fun _ _=>rfl))) (df (by decide)) (fun cl C s' H' fp E' T=>⟨(bK T 0 rfl),eK,(ao (aa bB) (aa (dj T 0 rfl b_str (aa (ad T 0 rfl)))))⟩))))))) (aa bB)))))))
      (am (ar (ad T 1 rfl)))))
theorem zX:aQ ["_law_script","_law_ground_here","_law_text","_law_number_here","_law_k","_law_found_here"] ["_law_script"] (ak jf):=⟨rfl,rfl,rfl,by decide +kernel,rfl,by decide +kernel,by decide +kernel⟩
theorem Ag (W:gP K "law" "law" jf f fd) {f23:Addr} {d23:FuncData} {bu:iJ} (C23:i5 P w K mg base k "_law_changed" ["_law_text","_law_number_here"] bu f23 d23) {f13:Addr} {d13:FuncData} {aw:iJ} (C13:i5 P w K mg base k "_law_drawn" ["_law_number_here","_law_k"] aw f13 d13) {f24:Addr} {d24:FuncData} {bE:iJ} (C24:i5 P w K mg base k "_law_found" ["_law_text"] bE f24 d24) {f16:Addr} {d16:FuncData} {ce:iJ} (C16:i5 P w K mg base k "_law_ground" ["_law_script","_law_most"] ce f16 d16) {f21:Addr} {d21:FuncData} {bc:iJ} (C21:i5 P w K mg base k "_law_is_ground" ["_law_thing"] bc f21 d21) {f12:Addr} {d12:FuncData} {aN:iJ} (C12:i5 P w K mg base k "_law_mixed" ["_law_script","_law_k"] aN f12 d12) {f22:Addr} {d22:FuncData} {bj:iJ} (C22:i5 P w K mg base k "_law_written" ["_law_ground_here"] bj f22 d22) (b_range:mg "range" = none) :
    ba P w K mg base (cY P w mg) (k+1) f fd ["_law_script"] (dR (dX 6 (ue bu aw bE ce bc aN bj)) 1):=by
  refine aA W zX (G:=["_law_ground","_law_written","_law_mixed","range","_law_changed","_law_drawn","_law_found","_law_is_ground"]) (by decide +kernel) fun cdv A outer s H E hr T=>?_
  exact (aj (aF T 1 rfl (ax C16 hr T 0 rfl (ae (ad T 0 rfl) (ae af al)) rfl (ah (ah au))))
      (aj (aF T 2 rfl (ax C22 hr T 1 rfl (ae (ad T 1 rfl) al) rfl (ah au)))
      (aj (aF T 3 rfl (ax C12 hr T 2 rfl (ae (ad T 0 rfl) (ae af al)) rfl (ah (ah au))))
      (aj (fg (have T:=T.nox;gc PassesOwn.never T.calm (g8 T 3 rfl b_range (ae (du (aa (bg (aa (ad T 3 rfl)) (aa af))) (aa (ao (aa af) (aa (bg (aa (cS (aa (ad T 3 rfl)) (aa af))) (aa af)))))) al) (ah au)) (bK T 4 rfl) (am (aF T 2 rfl (ax C23 hr T 4 rfl (ae (ad T 2 rfl) (ae (ax C13 hr T 5 rfl (ae (ad T 3 rfl) (ae (ad T 4 rfl) al)) rfl (ah (ah au))) al)) rfl (ah (ah au)))))))
      (aj (aF T 5 rfl (ax C24 hr T 6 rfl (ae (ad T 2 rfl) al) rfl (ah au)))
      (aj (bI (fw T.hu (aa (ad T 2 rfl)) (aa (ax C22 hr T 1 rfl (ae (ad T 1 rfl) al) rfl (ah au)))) (am (ar (da (km T.hu (aa (ad T 5 rfl)) (aa (ad T 1 rfl))) (dq (ax C21 hr T 7 rfl (ae (ad T 5 rfl) al) rfl (ah au)))))) bh)
      (am (ar (xq (oK (aa (ad T 5 rfl)) (aa jR)) (dq (da (ax C21 hr T 7 rfl (ae (ad T 5 rfl) al) rfl (ah au)) (dq (km T.hu (aa (ax C22 hr T 1 rfl (ae (ad T 5 rfl) al) rfl (ah au))) (aa (ad T 2 rfl)))))))))))))))
end
theorem yV {l:PySem.W.OpenLaw} {w:World} {K:PySem.W.Frag} {h:Heap} {mg:Str->Option Value} {fa:Addr} (X:K.In h) (G:h.Ns mainGlobals mg) (hfa:mg "law" = some (.ref fa))
    {f24:Addr} {od24 an24:Option Addr} {sl24:Array (Option Value)} {oc24 kV24 dc24 pm24 cd24 ct24:Value}
    {f0:Addr} {d0:FuncData} (q0:cU K "_law_changed" fR f0 d0)
    {f1:Addr} {d1:FuncData} (q1:cU K "_law_drawn" ir f1 d1)
    {f2:Addr} {d2:FuncData} (q2:cU K "is_whole" i8 f2 d2)
    {f3:Addr} {d3:FuncData} (q3:cU K "is_between" gu f3 d3)
    {f4:Addr} {d4:FuncData} (q4:cU K "are_some" iV f4 d4)
    {f5:Addr} {d5:FuncData} (q5:cU K "are_goals" hZ f5 d5)
    {f6:Addr} {d6:FuncData} (q6:cU K "is_place" iU f6 d6)
    {f7:Addr} {d7:FuncData} (q7:cU K "is_ground" fN f7 d7)
    {f8:Addr} {d8:FuncData} (q8:cU K "numbers_by_words" cP f8 d8)
    {f9:Addr} {d9:FuncData} (q9:cU K "place_of_words" de f9 d9)
    {f10:Addr} {d10:FuncData} (q10:cU K "words_of_place" dh f10 d10)
    {f11:Addr} {d11:FuncData} (q11:cU K "written" jB f11 d11)
    {f12:Addr} {d12:FuncData} (q12:cU K "read" nA f12 d12)
    {f13:Addr} {d13:FuncData} (q13:cU K "_law_found" ia f13 d13)
    {f14:Addr} {d14:FuncData} (q14:cU K "_law_cell_at" fU f14 d14)
    {f15:Addr} {d15:FuncData} (q15:cU K "_law_mixed" iw f15 d15)
    {f16:Addr} {d16:FuncData} (q16:cU K "_law_goals" ie f16 d16)
    {f17:Addr} {d17:FuncData} (q17:cU K "_law_place" gZ f17 d17)
    {f18:Addr} {d18:FuncData} (q18:cU K "_law_ground" e9 f18 d18)
    {f19:Addr} {d19:FuncData} (q19:cU K "_law_number" gp f19 d19)
    {f20:Addr} {d20:FuncData} (q20:cU K "_law_rising" gy f20 d20)
    {f21:Addr} {d21:FuncData} (q21:cU K "_law_is_place" fD f21 d21)
    {f22:Addr} {d22:FuncData} (q22:cU K "_law_is_ground" dD f22 d22)
    {f23:Addr} {d23:FuncData} (q23:cU K "_law_written" dw f23 d23)
    (a24:PySem.W.nsIn K mainGlobals "law" = some (some (.ref f24))) (l24:K.lookup f24=some ⟨oc24,od24,.func (PySem.W.fnOf "law" "law" (dC jf) (cI jf) (ak jf) .none kV24 dc24 pm24 an24 cd24 ct24),sl24⟩) (c24:PySem.W.codeIn K cd24 "law" = true) (k24:PySem.W.keepIn K (.ref f24)=true)
    {t0:Tok} (qg0:PySem.W.nsIn K mainGlobals "GAIN" = some (some (.int 2 t0)))
    {t1:Tok} (qg1:PySem.W.nsIn K mainGlobals "GOALS" = some (some (.int 3 t1)))
    {t2:Tok} (qg2:PySem.W.nsIn K mainGlobals "LEAST_WORDS" = some (some (.int 6 t2)))
    {t3:Tok} (qg3:PySem.W.nsIn K mainGlobals "MARK" = some (some (.int 1 t3)))
    {t4:Tok} (qg4:PySem.W.nsIn K mainGlobals "MOST_GAIN" = some (some (.int 20 t4)))
    {t5:Tok} (qg5:PySem.W.nsIn K mainGlobals "MOST_MARK" = some (some (.int 12 t5)))
    {t6:Tok} (qg6:PySem.W.nsIn K mainGlobals "MOST_PLACES" = some (some (.int 24 t6)))
    {t7:Tok} (qg7:PySem.W.nsIn K mainGlobals "PARTS" = some (some (.int 4 t7)))
    {t8:Tok} (qg8:PySem.W.nsIn K mainGlobals "TO" = some (some (.int 3 t8)))
    {t9:Tok} (qg9:PySem.W.nsIn K mainGlobals "WHO" = some (some (.int 0 t9)))
    (qz0:PySem.W.nsIn K mainGlobals "ValueError" = some none)
    (qz1:PySem.W.nsIn K mainGlobals "all" = some none)
    (qz2:PySem.W.nsIn K mainGlobals "bool" = some none)
    (qz3:PySem.W.nsIn K mainGlobals "dict" = some none)
    (qz4:PySem.W.nsIn K mainGlobals "int" = some none)
    (qz5:PySem.W.nsIn K mainGlobals "isinstance" = some none)
    (qz6:PySem.W.nsIn K mainGlobals "len" = some none)
    (qz7:PySem.W.nsIn K mainGlobals "max" = some none)
    (qz8:PySem.W.nsIn K mainGlobals "min" = some none)
    (qz9:PySem.W.nsIn K mainGlobals "range" = some none)
    (qz10:PySem.W.nsIn K mainGlobals "sorted" = some none)
    (qz11:PySem.W.nsIn K mainGlobals "str" = some none)
    (qz12:PySem.W.nsIn K mainGlobals "tuple" = some none)
    {cc0:Addr} (qm0:PySem.W.nsIn K mainGlobals "GroundError" = some (some (.ref cc0))) (qq0:PySem.W.excIn K cc0 pR oh=true)
    {cc1:Addr} (qm1:PySem.W.nsIn K mainGlobals "NoGround" = some (some (.ref cc1))) (qq1:PySem.W.excIn K cc1 pR oh=true)
    {cc2:Addr} (qm2:PySem.W.nsIn K mainGlobals "NoText" = some (some (.ref cc2))) (qq2:PySem.W.excIn K cc2 pR oh=true)
    (qs0:(Value.ref cc2::hJ K cc2).contains (.ref cc2)=true)
    (qk0:PySem.W.kitOne K (.ref cc2) (.ref cc0)=some true)
    (qk1:PySem.W.kitOne K (.ref cc2) (.ref cc1)=some false)
    (qk2:PySem.W.kitOne K (.ref cc2) (.type "ValueError")=some true)
    (qx0:lP K cc2)
    (nl:kx K=true) :
    kx K=true/\∃ fd:FuncData,(∀ (s:Shared) (v:Value),BindsTo s fd ⟨[v],[]⟩ [("_law_script",v)])/\∀ base:Heap,K.In base->base.Ns mainGlobals mg->ba l.prog w K mg base (cY l.prog w mg) 10 fa fd ["_law_script"] (dR pF 1):=by
  have e:=hfa.symm.trans (PySem.W.mg_of X G a24);cases e;have b0:bF K d0 ["_law_text","_law_number_here"] []:=tI q0.fn fun _ _ _ _ _ _ _ _=>rfl
  have m0:=PySem.W.mg_of X G q0.ns;have b1:bF K d1 ["_law_number_here","_law_k"] []:=tI q1.fn fun _ _ _ _ _ _ _ _=>rfl
  have m1:=PySem.W.mg_of X G q1.ns;have b2:bF K d2 ["thing"] []:=xF q2.fn fun _ _ _ _ _ _ _=>rfl
  have m2:=PySem.W.mg_of X G q2.ns;have b3:bF K d3 ["thing","low","high"] []:=AM q3.fn fun _ _ _ _ _ _ _ _ _=>rfl
  have m3:=PySem.W.mg_of X G q3.ns;have b4:bF K d4 ["thing","count"] []:=tI q4.fn fun _ _ _ _ _ _ _ _=>rfl
  have m4:=PySem.W.mg_of X G q4.ns;have b5:bF K d5 ["thing","count"] []:=tI q5.fn fun _ _ _ _ _ _ _ _=>rfl
  have m5:=PySem.W.mg_of X G q5.ns;have b6:bF K d6 ["thing","count"] []:=tI q6.fn fun _ _ _ _ _ _ _ _=>rfl
  have m6:=PySem.W.mg_of X G q6.ns;have b7:bF K d7 ["thing"] []:=xF q7.fn fun _ _ _ _ _ _ _=>rfl
  have m7:=PySem.W.mg_of X G q7.ns;have b8:bF K d8 [] []:=Bq q8.fn fun _ _ _ _ _ _=>rfl
  have m8:=PySem.W.mg_of X G q8.ns;have b9:bF K d9 ["words","numbers"] []:=tI q9.fn fun _ _ _ _ _ _ _ _=>rfl
  have m9:=PySem.W.mg_of X G q9.ns;have b10:bF K d10 ["place"] []:=xF q10.fn fun _ _ _ _ _ _ _=>rfl
  have m10:=PySem.W.mg_of X G q10.ns;have b11:bF K d11 ["ground"] []:=xF q11.fn fun _ _ _ _ _ _ _=>rfl
  have m11:=PySem.W.mg_of X G q11.ns;have b12:bF K d12 ["text"] []:=xF q12.fn fun _ _ _ _ _ _ _=>rfl
  have m12:=PySem.W.mg_of X G q12.ns;have b13:bF K d13 ["_law_text"] []:=xF q13.fn fun _ _ _ _ _ _ _=>rfl
  have m13:=PySem.W.mg_of X G q13.ns;have b14:bF K d14 ["_law_script","_law_k"] []:=tI q14.fn fun _ _ _ _ _ _ _ _=>rfl
  have m14:=PySem.W.mg_of X G q14.ns;have b15:bF K d15 ["_law_script","_law_k"] []:=tI q15.fn fun _ _ _ _ _ _ _ _=>rfl
  have m15:=PySem.W.mg_of X G q15.ns;have b16:bF K d16 ["_law_number_here","_law_count"] []:=tI q16.fn fun _ _ _ _ _ _ _ _=>rfl
  have m16:=PySem.W.mg_of X G q16.ns;have b17:bF K d17 ["_law_number_here","_law_count","_law_high"] []:=AM q17.fn fun _ _ _ _ _ _ _ _ _=>rfl
  have m17:=PySem.W.mg_of X G q17.ns;have b18:bF K d18 ["_law_script","_law_most"] []:=tI q18.fn fun _ _ _ _ _ _ _ _=>rfl
  have m18:=PySem.W.mg_of X G q18.ns;have b19:bF K d19 ["_law_thing","_law_low","_law_high"] []:=AM q19.fn fun _ _ _ _ _ _ _ _ _=>rfl
  have m19:=PySem.W.mg_of X G q19.ns;have b20:bF K d20 ["_law_found_here","_law_count"] []:=tI q20.fn fun _ _ _ _ _ _ _ _=>rfl
  have m20:=PySem.W.mg_of X G q20.ns;have b21:bF K d21 ["_law_thing","_law_count"] []:=tI q21.fn fun _ _ _ _ _ _ _ _=>rfl
  have m21:=PySem.W.mg_of X G q21.ns;have b22:bF K d22 ["_law_thing"] []:=xF q22.fn fun _ _ _ _ _ _ _=>rfl
  have m22:=PySem.W.mg_of X G q22.ns;have b23:bF K d23 ["_law_ground_here"] []:=xF q23.fn fun _ _ _ _ _ _ _=>rfl
  have m23:=PySem.W.mg_of X G q23.ns;have F24:=uc (st:=jf) l24 c24 k24;have h0:=PySem.W.mg_of X G qg0;have h1:=PySem.W.mg_of X G qg1;have h2:=PySem.W.mg_of X G qg2;have h3:=PySem.W.mg_of X G qg3;have h4:=PySem.W.mg_of X G qg4;have h5:=PySem.W.mg_of X G qg5;have h6:=PySem.W.mg_of X G qg6;have h7:=PySem.W.mg_of X G qg7;have h8:=PySem.W.mg_of X G qg8;have h9:=PySem.W.mg_of X G qg9;have n0:=PySem.W.mg_of X G qm0;have n1:=PySem.W.mg_of X G qm1;have n2:=PySem.W.mg_of X G qm2;have y0:=PySem.W.mg_none_of X G qz0;have y1:=PySem.W.mg_none_of X G qz1;have y2:=PySem.W.mg_none_of X G qz2;have y3:=PySem.W.mg_none_of X G qz3;have y4:=PySem.W.mg_none_of X G qz4;have y5:=PySem.W.mg_none_of X G qz5;have y6:=PySem.W.mg_none_of X G qz6;have y7:=PySem.W.mg_none_of X G qz7;have y8:=PySem.W.mg_none_of X G qz8;have y9:=PySem.W.mg_none_of X G qz9;have y10:=PySem.W.mg_none_of X G qz10;have y11:=PySem.W.mg_none_of X G qz11;have y12:=PySem.W.mg_none_of X G qz12;refine ⟨nl,PySem.W.fnOf "law" "law" (dC jf) (cI jf) (ak jf) .none kV24 dc24 pm24 an24 cd24 ct24,fun s v=>.of_eq rfl,fun base _ _=>?_⟩;have Q0:ba l.prog w K mg base (cY l.prog w mg) 1 f0 _ ["_law_text","_law_number_here"] (dR bu 2):=lO (k:=0) (W:=q0.fn) (b_len:=y6);have Q1:ba l.prog w K mg base (cY l.prog w mg) 1 f1 _ ["_law_number_here","_law_k"] (dR aw 2):=pb (k:=0) (W:=q1.fn);have Q2:ba l.prog w K mg base (cY l.prog w mg) 1 f2 _ ["thing"] (dR c7 1):=qb (k:=0) (W:=q2.fn) (b_bool:=y2) (b_int:=y4) (b_isinstance:=y5);have Q3:ba l.prog w K mg base (cY l.prog w mg) 2 f3 _ ["thing","low","high"] (dR aG 3):=nM (k:=1) (W:=q3.fn) (C0:=⟨Q2.mono (by decide),m2,q2.fn.kp,b2⟩);have Q4:ba l.prog w K mg base (cY l.prog w mg) 3 f4 _ ["thing","count"] (dR cM 2):=qo (k:=2) (W:=q4.fn) (C1:=⟨Q3.mono (by decide),m3,q3.fn.kp,b3⟩) (b_isinstance:=y5) (b_tuple:=y12);have Q5:ba l.prog w K mg base (cY l.prog w mg) 4 f5 _ ["thing","count"] (dR cB 2):=pA (k:=3) (W:=q5.fn) (C2:=⟨Q4.mono (by decide),m4,q4.fn.kp,b4⟩) (g_MOST_PLACES:=h6) (b_len:=y6);have Q6:ba l.prog w K mg base (cY l.prog w mg) 5 f6 _ ["thing","count"] (dR cE 2):=qA (k:=4) (W:=q6.fn) (C3:=⟨Q5.mono (by decide),m5,q5.fn.kp,b5⟩) (C1:=⟨Q3.mono (by decide),m3,q3.fn.kp,b3⟩) (g_GAIN:=h0) (g_GOALS:=h1) (g_MARK:=h3) (g_MOST_GAIN:=h4) (g_MOST_MARK:=h5) (g_PARTS:=h7) (g_WHO:=h9) (b_isinstance:=y5) (b_len:=y6) (b_tuple:=y12);have Q7:ba l.prog w K mg base (cY l.prog w mg) 6 f7 _ ["thing"] (dR aL 1):=pE (k:=5) (W:=q7.fn) (C4:=⟨Q6.mono (by decide),m6,q6.fn.kp,b6⟩) (g_MOST_PLACES:=h6) (b_all:=y1) (b_isinstance:=y5) (b_len:=y6) (b_tuple:=y12);have Q8:ba l.prog w K mg base (cY l.prog w mg) 1 f8 _ [] (dR aR 0):=iM (k:=0) (W:=q8.fn) (g_MOST_GAIN:=h4) (g_MOST_MARK:=h5) (g_MOST_PLACES:=h6) (b_dict:=y3) (b_max:=y7) (b_range:=y9) (b_str:=y11);have Q9:ba l.prog w K mg base (cY l.prog w mg) 1 f9 _ ["words","numbers"] (dR aE 2):=jG (k:=0) (W:=q9.fn) (g_LEAST_WORDS:=h2) (g_TO:=h8) (b_len:=y6) (b_tuple:=y12) (m_NoText:=n2) (q_NoText:=qq2);have Q10:ba l.prog w K mg base (cY l.prog w mg) 1 f10 _ ["place"] (dR aM 1):=jM (k:=0) (W:=q10.fn) (g_GAIN:=h0) (g_GOALS:=h1) (g_MARK:=h3) (g_WHO:=h9) (b_str:=y11);have Q11:ba l.prog w K mg base (cY l.prog w mg) 7 f11 _ ["ground"] (dR cy 1):=r8 (k:=6) (W:=q11.fn) (C5:=⟨Q7.mono (by decide),m7,q7.fn.kp,b7⟩) (C6:=⟨Q10.mono (by decide),m10,q10.fn.kp,b10⟩) (b_len:=y6) (b_str:=y11) (m_NoGround:=n1) (q_NoGround:=qq1);have Q12:ba l.prog w K mg base (cY l.prog w mg) 8 f12 _ ["text"] (dR dm 1):=yR (k:=7) (W:=q12.fn) (C5:=⟨Q7.mono (by decide),m7,q7.fn.kp,b7⟩) (C8:=⟨Q8.mono (by decide),m8,q8.fn.kp,b8⟩) (C9:=⟨Q9.mono (by decide),m9,q9.fn.kp,b9⟩) (C7:=⟨Q11.mono (by decide),m11,q11.fn.kp,b11⟩) (b_tuple:=y12) (m_NoText:=n2) (q_NoText:=qq2);have Q13:ba l.prog w K mg base (cY l.prog w mg) 9 f13 _ ["_law_text"] (dR bE 1):=oR (k:=8) (W:=q13.fn) (C10:=⟨Q12.mono (by decide),m12,q12.fn.kp,b12⟩) (b_ValueError:=y0) (b_int:=y4) (b_isinstance:=y5) (m_GroundError:=n0) (q_GroundError:=qq0) (m_NoGround:=n1) (q_NoGround:=qq1) (m_NoText:=n2) (q_NoText:=qq2) (b_NoText_NoText:=qs0) (k_NoText_GroundError:=qk0) (k_NoText_NoGround:=qk1) (k_NoText_ValueError:=qk2) (x_NoText:=qx0);have Q14:ba l.prog w K mg base (cY l.prog w mg) 1 f14 _ ["_law_script","_law_k"] (dR bN 2):=lX (k:=0) (W:=q14.fn) (b_len:=y6);have Q15:ba l.prog w K mg base (cY l.prog w mg) 2 f15 _ ["_law_script","_law_k"] (dR aN 2):=pM (k:=1) (W:=q15.fn) (C11:=⟨Q14.mono (by decide),m14,q14.fn.kp,b14⟩);have Q16:ba l.prog w K mg base (cY l.prog w mg) 2 f16 _ ["_law_number_here","_law_count"] (dR cz 2):=pN (k:=1) (W:=q16.fn) (C13:=⟨Q1.mono (by decide),m1,q1.fn.kp,b1⟩) (b_int:=y4) (b_range:=y9) (b_sorted:=y10) (b_tuple:=y12);have Q17:ba l.prog w K mg base (cY l.prog w mg) 3 f17 _ ["_law_number_here","_law_count","_law_high"] (dR ci 3):=o0 (k:=2) (W:=q17.fn) (C13:=⟨Q1.mono (by decide),m1,q1.fn.kp,b1⟩) (C14:=⟨Q16.mono (by decide),m16,q16.fn.kp,b16⟩);have Q18:ba l.prog w K mg base (cY l.prog w mg) 4 f18 _ ["_law_script","_law_most"] (dR ce 2):=nr (k:=3) (W:=q18.fn) (C12:=⟨Q15.mono (by decide),m15,q15.fn.kp,b15⟩) (C15:=⟨Q17.mono (by decide),m17,q17.fn.kp,b17⟩) (b_len:=y6) (b_max:=y7) (b_min:=y8) (b_range:=y9) (b_tuple:=y12);have Q19:ba l.prog w K mg base (cY l.prog w mg) 1 f19 _ ["_law_thing","_law_low","_law_high"] (dR bD 3):=ni (k:=0) (W:=q19.fn) (b_bool:=y2) (b_int:=y4) (b_isinstance:=y5);have Q20:ba l.prog w K mg base (cY l.prog w mg) 1 f20 _ ["_law_found_here","_law_count"] (dR cc 2):=nH (k:=0) (W:=q20.fn) (b_bool:=y2) (b_int:=y4) (b_isinstance:=y5) (b_tuple:=y12);have Q21:ba l.prog w K mg base (cY l.prog w mg) 2 f21 _ ["_law_thing","_law_count"] (dR bi 2):=kF (k:=1) (W:=q21.fn) (C19:=⟨Q19.mono (by decide),m19,q19.fn.kp,b19⟩) (C18:=⟨Q20.mono (by decide),m20,q20.fn.kp,b20⟩) (b_isinstance:=y5) (b_len:=y6) (b_tuple:=y12);have Q22:ba l.prog w K mg base (cY l.prog w mg) 3 f22 _ ["_law_thing"] (dR bc 1):=kb (k:=2) (W:=q22.fn) (C20:=⟨Q21.mono (by decide),m21,q21.fn.kp,b21⟩) (b_isinstance:=y5) (b_len:=y6) (b_tuple:=y12);have Q23:ba l.prog w K mg base (cY l.prog w mg) 1 f23 _ ["_law_ground_here"] (dR bj 1):=lT (k:=0) (W:=q23.fn) (b_len:=y6) (b_str:=y11);have Q24:ba l.prog w K mg base (cY l.prog w mg) 10 fa _ ["_law_script"] (dR pF 1):=Ag (k:=9) (W:=F24) (C23:=⟨Q0.mono (by decide),m0,q0.fn.kp,b0⟩) (C13:=⟨Q1.mono (by decide),m1,q1.fn.kp,b1⟩) (C24:=⟨Q13.mono (by decide),m13,q13.fn.kp,b13⟩) (C16:=⟨Q18.mono (by decide),m18,q18.fn.kp,b18⟩) (C21:=⟨Q22.mono (by decide),m22,q22.fn.kp,b22⟩) (C12:=⟨Q15.mono (by decide),m15,q15.fn.kp,b15⟩) (C22:=⟨Q23.mono (by decide),m23,q23.fn.kp,b23⟩) (b_range:=y9);exact Q24
end G
open PySem PySem.W PyProof.Rows
set_option maxRecDepth 100000 in
set_option maxHeartbeats 0 in
theorem PySem.Challenge.cw_duelground_k04_whole_read_holds : PySem.Challenge.rw_duelground_k04_whole_read.Holds := by
  w_on;o_law;k_head;(case hw=>w_witness2)
  k_fill
  refine D2.Au (l:=PySem.Challenge.rw_duelground_k04_whole_read) (k:=10) (x := "_law_script") (F:=G.pF) rfl rfl ⟨rfl,by decide,by decide⟩ (fun w h Y=>PySem.W.kIn_of Y) G.uR ?F
  case F =>
    intro w mg fa h KX GG hmg;refine' G.yV KX GG hmg ?q0 ?q1 ?q2 ?q3 ?q4 ?q5 ?q6 ?q7 ?q8 ?q9 ?q10 ?q11 ?q12 ?q13 ?q14 ?q15 ?q16 ?q17 ?q18 ?q19 ?q20 ?q21 ?q22 ?q23 ?a24 ?l24 ?c24 ?k24 ?qg0 ?qg1 ?qg2 ?qg3 ?qg4 ?qg5 ?qg6 ?qg7 ?qg8 ?qg9 ?qz0 ?qz1 ?qz2 ?qz3 ?qz4 ?qz5 ?qz6 ?qz7 ?qz8 ?qz9 ?qz10 ?qz11 ?qz12 ?qm0 ?qq0 ?qm1 ?qq1 ?qm2 ?qq2 ?qs0 ?qk0 ?qk1 ?qk2 ?qx0 ?nl
    (case q0=>refine' D2.aV ?a ?l ?c ?k;(case a=>k_is);(case l=>k_is);(case c=>k_is);(case k=>k_is))
    (case q1=>refine' D2.aV ?a ?l ?c ?k;(case a=>k_is);(case l=>k_is);(case c=>k_is);(case k=>k_is))
    (case q2=>refine' D2.aV ?a ?l ?c ?k;(case a=>k_is);(case l=>k_is);(case c=>k_is);(case k=>k_is))
    (case q3=>refine' D2.aV ?a ?l ?c ?k;(case a=>k_is);(case l=>k_is);(case c=>k_is);(case k=>k_is))
    (case q4=>refine' D2.aV ?a ?l ?c ?k;(case a=>k_is);(case l=>k_is);(case c=>k_is);(case k=>k_is))
    (case q5=>refine' D2.aV ?a ?l ?c ?k;(case a=>k_is);(case l=>k_is);(case c=>k_is);(case k=>k_is))
    (case q6=>refine' D2.aV ?a ?l ?c ?k;(case a=>k_is);(case l=>k_is);(case c=>k_is);(case k=>k_is))
    (case q7=>refine' D2.aV ?a ?l ?c ?k;(case a=>k_is);(case l=>k_is);(case c=>k_is);(case k=>k_is))
    (case q8=>refine' D2.aV ?a ?l ?c ?k;(case a=>k_is);(case l=>k_is);(case c=>k_is);(case k=>k_is))
    (case q9=>refine' D2.aV ?a ?l ?c ?k;(case a=>k_is);(case l=>k_is);(case c=>k_is);(case k=>k_is))
    (case q10=>refine' D2.aV ?a ?l ?c ?k;(case a=>k_is);(case l=>k_is);(case c=>k_is);(case k=>k_is))
    (case q11=>refine' D2.aV ?a ?l ?c ?k;(case a=>k_is);(case l=>k_is);(case c=>k_is);(case k=>k_is))
    (case q12=>refine' D2.aV ?a ?l ?c ?k;(case a=>k_is);(case l=>k_is);(case c=>k_is);(case k=>k_is))
    (case q13=>refine' D2.aV ?a ?l ?c ?k;(case a=>k_is);(case l=>k_is);(case c=>k_is);(case k=>k_is))
    (case q14=>refine' D2.aV ?a ?l ?c ?k;(case a=>k_is);(case l=>k_is);(case c=>k_is);(case k=>k_is))
    (case q15=>refine' D2.aV ?a ?l ?c ?k;(case a=>k_is);(case l=>k_is);(case c=>k_is);(case k=>k_is))
    (case q16=>refine' D2.aV ?a ?l ?c ?k;(case a=>k_is);(case l=>k_is);(case c=>k_is);(case k=>k_is))
    (case q17=>refine' D2.aV ?a ?l ?c ?k;(case a=>k_is);(case l=>k_is);(case c=>k_is);(case k=>k_is))
    (case q18=>refine' D2.aV ?a ?l ?c ?k;(case a=>k_is);(case l=>k_is);(case c=>k_is);(case k=>k_is))
    (case q19=>refine' D2.aV ?a ?l ?c ?k;(case a=>k_is);(case l=>k_is);(case c=>k_is);(case k=>k_is))
    (case q20=>refine' D2.aV ?a ?l ?c ?k;(case a=>k_is);(case l=>k_is);(case c=>k_is);(case k=>k_is))
    (case q21=>refine' D2.aV ?a ?l ?c ?k;(case a=>k_is);(case l=>k_is);(case c=>k_is);(case k=>k_is))
    (case q22=>refine' D2.aV ?a ?l ?c ?k;(case a=>k_is);(case l=>k_is);(case c=>k_is);(case k=>k_is))
    (case q23=>refine' D2.aV ?a ?l ?c ?k;(case a=>k_is);(case l=>k_is);(case c=>k_is);(case k=>k_is))
    (case a24=>k_is)
    (case l24=>k_is)
    (case c24=>k_is)
    (case k24=>k_is)
    (case qg0=>k_is)
    (case qg1=>k_is)
    (case qg2=>k_is)
    (case qg3=>k_is)
    (case qg4=>k_is)
    (case qg5=>k_is)
    (case qg6=>k_is)
    (case qg7=>k_is)
    (case qg8=>k_is)
    (case qg9=>k_is)
    (case qz0=>k_is)
    (case qz1=>k_is)
    (case qz2=>k_is)
    (case qz3=>k_is)
    (case qz4=>k_is)
    (case qz5=>k_is)
    (case qz6=>k_is)
    (case qz7=>k_is)
    (case qz8=>k_is)
    (case qz9=>k_is)
    (case qz10=>k_is)
    (case qz11=>k_is)
    (case qz12=>k_is)
    (case qm0=>k_is)
    (case qq0=>k_exc)
    (case qm1=>k_is)
    (case qq1=>k_exc)
    (case qm2=>k_is)
    (case qq2=>k_exc)
    (case qs0=>first | rfl | k_is | decide)
    (case qk0=>first | rfl | k_is | decide)
    (case qk1=>first | rfl | k_is | decide)
    (case qk2=>first | rfl | k_is | decide)
    (case qx0=>refine' ⟨?_,?_,?_,?_,?_,?_,?_⟩ <;> first | rfl | k_is | decide)
    (case nl=>first | rfl | k_is | decide)

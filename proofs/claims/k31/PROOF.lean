import PyProof.Rows.All
import Wide.All
import OpenK.AllK
import Wide.FinOn
import Lean
import PyProof.EqAt
import PyProof.EqKinds
import PyProof.TupleCall
import PySem.Challenge.RW_duelground_k31_whole_two_ways
set_option Elab.async false
set_option linter.all false
set_option maxRecDepth 100000
namespace L2
open PySem PySem.Spec PyProof.Rows
noncomputable abbrev da:=Sum Int Str
noncomputable def nE:da->Value->Bool
  | .inl k,v=>Value.isInt k v
  | .inr x,v=>Value.isStrOf x v
noncomputable def Fc (w:World):da->Int
  | .inl k=>hashInt k
  | .inr x=>hashStr w x
theorem cw:∀ {k:da} {v:Value},nE k v=true->(∃ i t,k=Sum.inl i/\v=Value.int i t)\/(∃ x t,k=Sum.inr x/\v=Value.str x t)
  | .inl i,v,h=>by
    obtain ⟨t,e⟩:=Value.isInt_shape (k:=i) (v:=v) h;exact .inl ⟨i,t,rfl,e⟩
  | .inr x,v,h=>by
    obtain ⟨t,e⟩:=Value.isStrOf_shape (x:=x) (v:=v) h;exact .inr ⟨x,t,rfl,e⟩
theorem wf (i:Int) (t:Tok):nE (.inl i) (.int i t)=true:=by simp [nE,Value.isInt]
theorem vk (x:Str) (t:Tok):nE (.inr x) (.str x t)=true:=by simp [nE,Value.isStrOf]
theorem CU (a b:Int):decide ((Sum.inl a:da)=Sum.inl b)=(a==b):=by
  by_cases e:a=b
  · subst e;simp
  · have h:¬ (Sum.inl a:da)=Sum.inl b:=fun q=>e (Sum.inl.inj q)
    rw [decide_eq_false h];exact (beq_eq_false_iff_ne.mpr e).symm
theorem Cn (a b:Str):decide ((Sum.inr a:da)=Sum.inr b)=decide (a=b):=by
  by_cases e:a=b
  · subst e;simp
  · have h:¬ (Sum.inr a:da)=Sum.inr b:=fun q=>e (Sum.inr.inj q)
    rw [decide_eq_false h,decide_eq_false e]
theorem Bx (a:Int) (b:Str):decide ((Sum.inl a:da)=Sum.inr b)=false:=decide_eq_false (fun q=>nomatch q)
theorem BG (a:Str) (b:Int):decide ((Sum.inr a:da)=Sum.inl b)=false:=decide_eq_false (fun q=>nomatch q)
noncomputable def dk (prog:Program) (w:World):PySem.KeyKind prog w da where
  is:=nE
  hash:=Fc w
  inj:=fun v a b ha hb=>by
    rcases cw ha with ⟨i,t,rfl,rfl⟩ | ⟨x,t,rfl,rfl⟩
    · rcases cw hb with ⟨j,u,rfl,e⟩ | ⟨y,u,rfl,e⟩
      · injection e with e1 _;rw [e1]
      · exact nomatch e
    · rcases cw hb with ⟨j,u,rfl,e⟩ | ⟨y,u,rfl,e⟩
      · exact nomatch e
      · injection e with e1 _;rw [e1]
  byValue:=fun k v h=>by
    rcases cw h with ⟨i,t,rfl,rfl⟩ | ⟨x,t,rfl,rfl⟩ <;> rfl
  pyHash:=fun hv h=>by
    rcases cw hv with ⟨i,t,rfl,rfl⟩ | ⟨x,t,rfl,rfl⟩
    · exact wpAny_pyHash_int h
    · exact wpAny_pyHash_str h
  eqBool:=fun hu hv h=>by
    rcases cw hu with ⟨i,t,rfl,rfl⟩ | ⟨x,t,rfl,rfl⟩
    · rcases cw hv with ⟨j,u,rfl,rfl⟩ | ⟨y,u,rfl,rfl⟩
      · rw [CU] at h;exact wpAny_eqBool_int h
      · rw [Bx] at h;exact SeqAt.EqAt.int_str i t y u _ _ _ _ h
    · rcases cw hv with ⟨j,u,rfl,rfl⟩ | ⟨y,u,rfl,rfl⟩
      · rw [BG] at h;exact SeqAt.EqAt.str_int x t j u _ _ _ _ h
      · rw [Cn] at h;exact wpAny_eqBool_str h
  «strs»:=fun k x t v h=>by
    rcases cw h with ⟨i,u,rfl,e⟩ | ⟨y,u,rfl,e⟩
    · exact nomatch e
    · injection e with e1 _
      subst e1;cases v <;> rfl
theorem qv (prog:Program) (w:World) (i:Int) (t:Tok):(dk prog w).is (.inl i) (.int i t)=true:=wf i t
theorem rJ (prog:Program) (w:World) (x:Str) (t:Tok):(dk prog w).is (.inr x) (.str x t)=true:=vk x t
inductive V where
  | non | bl (b:Bool) | int (i:Int) | str (x:Str) | byt (b:Array UInt8) | flt (b:UInt64) | ref (a:Addr) | ty (n:String)
  deriving DecidableEq
noncomputable def bL:V->Value->Prop
  | .non,u=>u=Value.none
  | .bl b,u=>u=Value.bool b
  | .int i,u=>∃ t,u=Value.int i t
  | .str x,u=>∃ t,u=Value.str x t
  | .byt b,u=>∃ t,u=Value.bytes b t
  | .flt b,u=>∃ t,u=Value.float b t
  | .ref a,u=>u=Value.ref a
  | .ty n,u=>u=Value.type n
noncomputable abbrev bB:List V->List Value->Prop:=Paired bL
theorem bB.length {xs:List V} {us:List Value} (r:bB xs us):xs.length=us.length:=Paired.length r
theorem bB.get:∀ {xs:List V} {us:List Value} {i:Nat} {x:V},bB xs us->xs[i]?=some x->∃ u,us[i]?=some u/\bL x u
  | _,_,_,_,.nil,e=>by simp at e
  | _,_,0,_,.cons r _,e=>by simp at e;subst e;exact ⟨_,rfl,r⟩
  | _,_,i+1,x,.cons _ t,e=>by
    obtain ⟨u,h1,h2⟩:=bB.get (i:=i) (x:=x) t (by simpa using e);exact ⟨u,by simpa using h1,h2⟩
theorem bB.set {x:V} {u:Value} (r:bL x u):∀ {xs:List V} {us:List Value} (i:Nat),bB xs us->bB (xs.set i x) (us.set i u)
  | _,_,_,.nil=>.nil
  | _,_,0,.cons _ t=>.cons r t
  | _,_,i+1,.cons q t=>.cons q (bB.set r i t)
theorem bB.append:∀ {xs ys:List V} {us ws:List Value},bB xs us->bB ys ws->bB (xs++ys) (us++ws)
  | _,_,_,_,.nil,s=>s
  | _,_,_,_,.cons r t,s=>.cons r (bB.append t s)
theorem bB.take:∀ {xs:List V} {us:List Value} (n:Nat),bB xs us->bB (xs.take n) (us.take n)
  | _,_,0,_=>.nil
  | _,_,_+1,.nil=>.nil
  | _,_,n+1,.cons r t=>.cons r (bB.take n t)
theorem bB.drop:∀ {xs:List V} {us:List Value} (n:Nat),bB xs us->bB (xs.drop n) (us.drop n)
  | _,_,0,r=>r
  | _,_,_+1,.nil=>.nil
  | _,_,n+1,.cons _ t=>bB.drop n t
noncomputable def kU:Option V->Option Value->Prop
  | some v,some u=>bL v u
  | none,none=>True
  | _,_=>False
noncomputable def KV {κ:Type}:List (κ×V)->List (κ×Value)->Prop:=Paired fun (p:κ×V) (q:κ×Value)=>p.1=q.1/\bL p.2 q.2
noncomputable def kV:da->V
  | .inl i=>.int i
  | .inr x=>.str x
inductive HO where
  /-- a list -/
  | lst (xs:List V)
  /-- a tuple (never changes) -/
  | tup (xs:List V)
  /-- a dict whose keys are ints and texts;one whose keys are tuples of ints and texts (the empty one is both) -/
  | dK (kvs:List (da×V)) | dT (kvs:List (List da×V))
  /-- a set of ints: its members,its size -/
  | set (S:Int->Bool) (n:Nat)
  /-- an instance of the class at C,its dict at dx,its attributes -/
  | ins (C dx:Addr) (fs:List (Str×V))
  /-- the dict of the instance at x -/
  | own (x:Addr)
  /-- the dict of an exception -/
  | xd (fs:List (Str×V))
  /-- a bound method,f of x -/
  | met (f x:Addr)
  /-- a range object lo,lo+1,.. below hi -/
  | rng (lo hi:Int)
  /-- a thing that is known to the object (the script;a dict while a loop walks it): read,never written while it is so -/
  | frz (o:Obj) (u:HO)
  /-- a code object's table -/
  | tbl (ps:Array Value)
  /-- any other thing,by what is true of its one object (a def of one's own: SetO a S n:=HO.ext fun h=>..) -/
  | ext (φ:Heap->Prop)
noncomputable abbrev Hp:=Addr->Option HO
noncomputable def cA (H:Hp) (a:Addr) (o:HO):Hp:=fun b=>if b=a then some o else H b
theorem ba {H:Hp} {a:Addr} {o:HO}:cA H a o a=some o:=by unfold cA;rw [if_pos rfl]
theorem ar {H:Hp} {a b:Addr} {o:HO} (h:b≠a):cA H a o b=H b:=by unfold cA;rw [if_neg h]
theorem DO {H:Hp} {a b:Addr} {o u:HO} (h:H a=some o) (h':H b=some u) (d:o≠u):a≠b:=by
  intro e;subst e;rw [h] at h';exact d (Option.some.inj h')
theorem aR {H:Hp} {a b:Addr} {o:HO} (h:H a=some o) (h':H b=none):a≠b:=by
  intro e;subst e;rw [h] at h';cases h'
section
variable (P:Program) (w:World)
noncomputable def bW (H:Hp) (h:Heap) (a:Addr):HO->Prop
  | .lst xs=>xs.length<=sizeLine/\∃ (its:List Value) (n:Nat),bB xs its/\h.get? a=some { cls:=.type "list",data:=.seq its.toArray n }
  | .tup xs=>xs.length<=sizeLine/\∃ its:List Value,bB xs its/\IsTup h a its.toArray
  | .dK kvs=>kvs.length<=sizeLine/\(a==sysModules)=false/\∃ vs,KV kvs vs/\h.DictOf (dk P w) a vs
  | .dT kvs=>kvs.length<=sizeLine/\(a==sysModules)=false/\∃ xs:List (List da×Addr×Value),
      Paired (fun (p:List da×V) (q:List da×Addr×Value)=>p.1=q.1/\H q.2.1=some (.tup (p.1.map kV))/\bL p.2 q.2.2) kvs xs /\
      ∃ o es ep,h.get? a=some o/\o.ExactDict/\o.data=.dict es ep/\es.toList=xs.map (entryOfKey (tupleKind (dk P w)))/\(xs.map (·.1)).Nodup
  | .set S n=>h.SetOf (intKind P w) a S n
  | .ins C dx fs=>H dx=some (.own a)/\fs.length<=1000/\dx≠a/\h.get? a=some (PySem.W.instObj C dx) /\
      ∃ mA,h.Ns1 dx mA/\(∀ f,kU (fs.lookup f) (mA f))/\PySem.Within mA (fs.map (·.1))
  | .own _=>∃ o,h.get? a=some o
  | .xd fs=>∃ mA,h.Ns1 a mA/\∀ f,kU (fs.lookup f) (mA f)
  | .rng lo hi=>∃ t u v,h.get? a=some { cls:=.type "range",data:=.fields #[.int lo t,.int hi u,.int 1 v] }
  | .frz o u=>h.get? a=some o/\bW H h a u
  | .tbl ps=>h.get? a=some { cls:=.none,data:=.fields ps }
  | .met f x=>h.get? a=some (PySem.W.methodObj (.ref f) (.ref x))
  | .ext φ=>φ h/\(∃ o,h.get? a=some o)/\∀ h1 h2:Heap,φ h1->(∀ o,h1.get? a=some o->h2.get? a=some o)->φ h2
noncomputable def gM (H:Hp) (h:Heap):Prop:=∀ a o,H a=some o->bW P w H h a o
end
section
variable {P:Program} {w:World} {H H':Hp} {h h':Heap} {a:Addr} {o:HO}
theorem bW.lt (x:bW P w H h a o):a < h.objs.size:=by
  cases o with
  | lst xs=>obtain ⟨_,_,_,_,e⟩:=x;exact Heap.lt_size e
  | tup xs=>obtain ⟨_,_,_,p⟩:=x;exact p.lt
  | dK kvs=>obtain ⟨_,_,_,_,o,_,_,e,_⟩:=x;exact Heap.lt_size e
  | dT kvs=>obtain ⟨_,_,_,_,o,_,_,e,_⟩:=x;exact Heap.lt_size e
  | set S n=>obtain ⟨o,_,_,_,e,_⟩:=x;exact Heap.lt_size e
  | ins C dx fs=>obtain ⟨_,_,_,e,_⟩:=x;exact Heap.lt_size e
  | own y=>obtain ⟨_,e⟩:=x;exact Heap.lt_size e
  | xd fs=>obtain ⟨_,⟨_,_,_,e,_⟩,_⟩:=x;exact Heap.lt_size e
  | rng lo hi=>obtain ⟨_,_,_,e⟩:=x;exact Heap.lt_size e
  | frz ob u=>obtain ⟨e,_⟩:=x;exact Heap.lt_size e
  | tbl ps=>exact Heap.lt_size (show h.get? a=some _ from x)
  | met f y=>exact Heap.lt_size (show h.get? a=some _ from x)
  | ext φ=>obtain ⟨_,⟨_,e⟩,_⟩:=x;exact Heap.lt_size e
theorem Paired.mapP {α β:Type} {F G:α->β->Prop}:∀ {l₁:List α} {l₂:List β},Paired F l₁ l₂->(∀ a b,F a b->G a b)->Paired G l₁ l₂
  | _,_,.nil,_=>.nil
  | _,_,.cons r t,f=>.cons (f _ _ r) (Paired.mapP t f)
theorem bW.stay (x:bW P w H h a o) (k:∀ b u,(b=a\/H b=some (.own a))->h.get? b=some u->h'.get? b=some u)
    (ho:∀ b,H b=some (.own a)->H' b=some (.own a)) (ht:∀ b xs,H b=some (.tup xs)->H' b=some (.tup xs)):bW P w H' h' a o:=by
  induction o with
  | lst xs=>obtain ⟨z,its,n,r,e⟩:=x;exact ⟨z,its,n,r,k _ _ (.inl rfl) e⟩
  | tup xs=>obtain ⟨z,its,r,ob,e,c⟩:=x;exact ⟨z,its,r,ob,k _ _ (.inl rfl) e,c⟩
  | dK kvs=>obtain ⟨z,y,vs,r,ob,es,ep,e,c⟩:=x;exact ⟨z,y,vs,r,ob,es,ep,k _ _ (.inl rfl) e,c⟩
  | dT kvs =>
    obtain ⟨z,y,xs,r,ob,es,ep,e,c⟩:=x;exact ⟨z,y,xs,Paired.mapP r fun p q z=>⟨z.1,ht _ _ z.2.1,z.2.2⟩,ob,es,ep,k _ _ (.inl rfl) e,c⟩
  | set S n=>obtain ⟨ob,es,ep,t,e,c⟩:=x;exact ⟨ob,es,ep,t,k _ _ (.inl rfl) e,c⟩
  | ins C dx fs =>
    obtain ⟨d,z,ne,e,mA,⟨od,es,ep,e2,c⟩,r⟩:=x;exact ⟨ho _ d,z,ne,k _ _ (.inl rfl) e,mA,⟨od,es,ep,k _ _ (.inr d) e2,c⟩,r⟩
  | own y=>obtain ⟨ob,e⟩:=x;exact ⟨ob,k _ _ (.inl rfl) e⟩
  | xd fs=>obtain ⟨mA,⟨od,es,ep,e,c⟩,r⟩:=x;exact ⟨mA,⟨od,es,ep,k _ _ (.inl rfl) e,c⟩,r⟩
  | rng lo hi=>obtain ⟨t,u,v,e⟩:=x;exact ⟨t,u,v,k _ _ (.inl rfl) e⟩
  | frz ob u ih=>obtain ⟨e,q⟩:=x;exact ⟨k _ _ (.inl rfl) e,ih q⟩
  | tbl ps =>
    have e:h.get? a=some { cls:=.none,data:=.fields ps }:=x;show h'.get? a=some { cls:=.none,data:=.fields ps };exact k a _ (.inl rfl) e
  | met f y =>
    have e:h.get? a=some (PySem.W.methodObj (.ref f) (.ref y)):=x;show h'.get? a=some (PySem.W.methodObj (.ref f) (.ref y));exact k a _ (.inl rfl) e
  | ext φ=>obtain ⟨p,⟨o,e⟩,st⟩:=x;exact ⟨st _ _ p fun o q=>k _ _ (.inl rfl) q,⟨o,k _ _ (.inl rfl) e⟩,st⟩
theorem gM.lt (x:gM P w H h) (e:H a=some o):a < h.objs.size:=(x a o e).lt
theorem gM.fresh (x:gM P w H h) (e:h.objs.size<=a):H a=none:=by
  cases q:H a with
  | none=>rfl
  | some u=>exact absurd (Nat.lt_of_lt_of_le (x.lt q) e) (Nat.lt_irrefl _)
theorem gM.kept (x:gM P w H h) (k:∀ b u,h.get? b=some u->h'.get? b=some u):gM P w H h':=fun a o e =>
  (x a o e).stay (fun b u _ q=>k b u q) (fun _ q=>q) fun _ _ q=>q
theorem gM.laid (x:gM P w H h) (k:∀ b u,h.get? b=some u->h'.get? b=some u) (hp:h.objs.size<=a) (new:bW P w (cA H a o) h' a o):gM P w (cA H a o) h':=fun b u e=>by
  have hn:=x.fresh hp;by_cases hb:b=a
  · subst hb;rw [ba] at e;cases e;exact new
  · rw [ar hb] at e;exact (x b u e).stay (fun c v _ q=>k c v q) (fun c q=>by rw [ar (aR q hn)];exact q) fun c xs q=>by rw [ar (aR q hn)];exact q
end
noncomputable def Rd (H:Hp) (a:Addr) (u:HO):Prop:=H a=some u\/∃ o,H a=some (.frz o u)
theorem Rd.ok {P:Program} {w:World} {H:Hp} {h:Heap} {a:Addr} {u:HO} (r:Rd H a u) (x:gM P w H h):bW P w H h a u:=by
  rcases r with r | ⟨o,r⟩
  · exact x a u r
  · obtain ⟨_,q⟩:=x a _ r;exact q
noncomputable def DE:Option HO->Prop
  | some (.lst _)=>True
  | some (.dK _)=>True
  | some (.dT _)=>True
  | some (.set _ _)=>True
  | some (.ins _ _ _)=>True
  | some (.ext _)=>True
  | _=>False
section
variable {P:Program} {w:World} {H:Hp} {h h':Heap} {x e:Addr} {o':HO}
theorem gM.write (ok:gM P w H h) (mu:DE (H x)) (he:e=x\/H e=some (.own x)) (k:∀ b u,b≠e->h.get? b=some u->h'.get? b=some u) (heo:∃ u,h'.get? e=some u)
    (new:bW P w (cA H x o') h' x o'):gM P w (cA H x o') h':=fun b u q=>by
  have nown:∀ c y,H c=some (.own y)->c≠x:=fun c y r z=>by subst z;rw [r] at mu;exact mu
  have ntup:∀ c xs,H c=some (.tup xs)->c≠x:=fun c xs r z=>by subst z;rw [r] at mu;exact mu
  by_cases hb:b=x
  · subst hb;rw [ba] at q;cases q;exact new
  · rw [ar hb] at q;by_cases hbe:b=e
    · have q':H b=some (.own x):=by
        rcases he with z | z
        · exact absurd (hbe.trans z) hb
        · rw [hbe];exact z
      rw [q] at q';cases q';obtain ⟨v,hv⟩:=heo;exact ⟨v,by rw [hbe];exact hv⟩
    · refine (ok b u q).stay (fun c v hc r=>k c v ?_ r) (fun c r=>by rw [ar (nown c b r)];exact r) fun c xs r=>by rw [ar (ntup c xs r)];exact r
      rcases hc with rfl | hc
      · exact hbe
      · rintro rfl;rcases he with z | z
        · exact nown c b hc z
        · rw [hc] at z;cases z;exact hb rfl
end
structure Un (fs ex:List Addr) (H H':Hp) (h h':Heap):Prop where
  keep:∀ b o,h.get? b=some o->H b=none->b∉fs->b∉ex->h'.get? b=some o
  slot:∀ b o,h.get? b=some o->H b=none->b∈fs->b∉ex->∃ sl,h'.get? b=some { o with slots:=sl }
  free:∀ b o,h.get? b=some o->H b=none->b∉ex->H' b=none
  there:∀ b o,h.get? b=some o->b∉ex->∃ o',h'.get? b=some o'
  tups:∀ b xs,H b=some (.tup xs)->H' b=some (.tup xs)
  frzs:∀ b o u,H b=some (.frz o u)->H' b=some (.frz o u)
  tbls:∀ b ps,H b=some (.tbl ps)->∃ more,H' b=some (.tbl (ps++more))
section
variable {fs fs' ex ex':List Addr} {H H1 H2:Hp} {h h1 h2 h':Heap} {a x e:Addr} {o:HO}
theorem Un.any (u:Un fs ex H H1 h h1) {b:Addr} {ob:Obj} (q:h.get? b=some ob) (n:H b=none) (hx:b∉ex):∃ sl,h1.get? b=some { ob with slots:=sl }:=by
  by_cases hb:b∈fs
  · exact u.slot b ob q n hb hx
  · exact ⟨ob.slots,u.keep b ob q n hb hx⟩
theorem Un.kept (k:∀ b u,h.get? b=some u->h'.get? b=some u):Un fs ex H H h h' :=
  ⟨fun b ob q _ _ _=>k b ob q,fun b ob q _ _ _=>⟨ob.slots,k b ob q⟩,fun _ _ _ n _=>n,fun b ob q _=>⟨ob,k b ob q⟩,fun _ _ q=>q,fun _ _ _ q=>q,fun _ ps q=>⟨#[],by rw [q];simp⟩⟩
theorem Un.refl:Un fs ex H H h h:=Un.kept fun _ _ q=>q
theorem Un.laid (k:∀ b u,h.get? b=some u->h'.get? b=some u) (hp:h.objs.size<=a) (hn:H a=none):Un fs ex H (cA H a o) h h' where
  keep:=fun b u q _ _ _=>k b u q
  slot:=fun b u q _ _ _=>⟨u.slots,k b u q⟩
  free:=fun b u q n _=>by rw [ar (Nat.ne_of_lt (Nat.lt_of_lt_of_le (Heap.lt_size q) hp))];exact n
  there:=fun b u q _=>⟨u,k b u q⟩
  tups:=fun b xs q=>by rw [ar (aR q hn)];exact q
  frzs:=fun b u xs q=>by rw [ar (aR q hn)];exact q
  tbls:=fun b ps q=>⟨#[],by rw [ar (aR q hn),q];simp⟩
theorem Un.write (mu:DE (H x)) (he:e=x\/H e=some (.own x)) (k:∀ b u,b≠e->h.get? b=some u->h'.get? b=some u) (heo:∃ u,h'.get? e=some u):Un fs ex H (cA H x o) h h':=by
  have hx:∀ b,H b=none->b≠x:=fun b n z=>by subst z;rw [n] at mu;exact mu
  have hb:∀ b,H b=none->b≠e:=fun b n z=>by
    subst z;rcases he with r | r
    · exact hx b n r
    · rw [n] at r;cases r
  have hm:∀ b u,H b=some u->¬ DE (some u)->b≠x:=fun b u q nm z=>by subst z;rw [q] at mu;exact nm mu
  refine ⟨fun b u q n _ _=>k b u (hb b n) q,fun b u q n _ _=>⟨u.slots,k b u (hb b n) q⟩,fun b u q n _=>by rw [ar (hx b n)];exact n,fun b u q _=>?_,
    fun b xs q=>by rw [ar (hm b _ q fun z=>z)];exact q,fun b u xs q=>by rw [ar (hm b _ q fun z=>z)];exact q,fun b ps q=>⟨#[],by rw [ar (hm b _ q fun z=>z),q];simp⟩⟩
  by_cases hbe:b=e
  · subst hbe;exact heo
  · exact ⟨u,k b u hbe q⟩
end
noncomputable def ED (h:Heap) (H:Hp):List Addr:=(List.range h.objs.size).filter fun a=>(H a).isSome
noncomputable def pQ (h:Heap) (H:Hp):Heap:=PySem.W.hideAll h (ED h H)
theorem wu (h:Heap) (H:Hp):(pQ h H).objs.size=h.objs.size:=PySem.W.hideAll_size _ _
theorem wZ {h:Heap} {H:Hp} {b:Addr} {o:Obj} (e:h.get? b=some o) (n:H b=none):(pQ h H).get? b=some o :=
  PySem.W.hideAll_get _ e fun hm=>by
    have q:(H b).isSome=true:=(List.mem_filter.mp hm).2;rw [n] at q;simp at q
theorem zL {h:Heap} {H:Hp} {b:Addr} {o:Obj} (e:(pQ h H).get? b=some o):h.get? b=some o/\H b=none:=by
  have e':h.get? b=some o:=PySem.W.of_hideAll (ED h H) e;refine ⟨e',?_⟩;cases q:H b with
  | none=>rfl
  | some x =>
    have hm:b∈ED h H:=List.mem_filter.mpr ⟨List.mem_range.mpr (Heap.lt_size e'),by simp [q]⟩;have z:(pQ h H).get? b=none:=PySem.W.hideAll_none (ED h H) hm;rw [z] at e;cases e
noncomputable def zK (g h:Heap) (L:Addr):List (Addr×Obj):=(List.range h.objs.size).filterMap fun a=>if a=L\/(g.get? a).isSome=true then none else (h.get? a).map fun o=>(a,o)
noncomputable def dW (g h:Heap) (L d:Addr):List (Addr×Obj):=(zK g h L).filter fun p=>decide (p.1≠d)
structure Mod (K:PySem.W.Frag) (mg:Str->Option Value) (base:Heap):Prop where
  kin:K.In base
  glob:base.Ns mainGlobals mg
  blt:∃ mb,base.Ns builtinsNs mb/\∀ x:Str,x ≠ "__name__" -> mb x=bootBuiltins x
  nolimit:base.NoLimit
structure Cx where
  prog:Program
  w:World
  K:PySem.W.Frag
  mg:Str->Option Value
  base:Heap
  A:Around
  N:List Str
  s₀:Shared
  H₀:Hp
  env:Env
  outer:List Env
  stack:List Env
  ex:List Addr
  fn:Str->Bool
  calm:Bool
  pn:List (Addr×Obj)
  xe:Value->Shared->Prop
noncomputable def ky (l:List Env):List Addr:=l.filterMap (·.frame)
noncomputable abbrev Cx.fs (X:Cx):List Addr:=ky X.outer
noncomputable def CI (sc:Scope) (x:Str):Prop:=sc.names.lookup x=some .local\/sc.names.lookup x=some .cell\/sc.names.lookup x=some .free
noncomputable def A8 (sc:Scope) (x:Str):Prop:=sc.names.lookup x=some .local\/sc.names.lookup x=some .cell
noncomputable def EO (env:Env) (h:Heap) (m:Str->Option Value) (x:Str) (u:Value):Prop :=
  (env.kindOf x=some .local/\m x=some u)\/((env.kindOf x=some .cell\/env.kindOf x=some .free)/\∃ c,env.cells.lookup x=some c/\h.IsCell c (some u))
structure Cx.Ok (X:Cx):Prop where
  mod:Mod X.K X.mg X.base
  kind:X.env.scope.kind=.function
  glob:X.env.globals=mainGlobals
  blt:X.env.builtins=builtinsNs
  above:X.s₀.heap.objs.size<=X.env.locals
  inj:∀ x y c,X.env.cells.lookup x=some c->X.env.cells.lookup y=some c->x=y
  has:∀ x,(X.env.kindOf x=some .cell\/X.env.kindOf x=some .free)->∃ c,X.env.cells.lookup x=some c
  cab:∀ x c,X.fn x=true->X.env.cells.lookup x=some c->X.s₀.heap.objs.size<=c
  hd:X.calm=true->X.A.handled=none
  frames:X.A.frames=some X.stack
  stk:X.stack=X.outer\/(X.stack=X.env::X.outer/\X.env.frame=some X.env.locals)
  exf:∀ b∈X.ex,b≠X.env.locals/\∀ x c,X.env.cells.lookup x=some c->c≠b
  bs:∀ b o,X.base.get? b=some o->X.s₀.heap.get? b=some o/\X.H₀ b=none
  bsz:X.base.objs.size<=X.s₀.heap.objs.size
  noex:∀ b o,X.base.get? b=some o->b∉X.ex
  exfs:∀ b∈X.ex,b∉X.fs
  funs:X.s₀.heap.FunFrames X.base X.outer
  frf:∀ b∈X.fs,X.H₀ b=none
structure aF (X:Cx) (pins:List (Addr×Obj)) (σ:List (Option V)) (H:Hp) (s:Shared):Prop where
  ok:X.Ok
  os:s.os=X.s₀.os
  bare:AllBare s.gens
  base:Un X.fs X.ex X.H₀ H X.s₀.heap s.heap
  loc:∃ m,s.heap.Ns X.env.locals m/\∀ (i:Nat) (x:Str) (v:V),X.N[i]?=some x->σ[i]?=some (some v)->CI X.env.scope x->∃ u,bL v u/\EO X.env s.heap m x u
  cell:∀ x c,X.env.cells.lookup x=some c->∃ v,s.heap.IsCell c v
  free:H X.env.locals=none
  freeC:∀ x c,X.env.cells.lookup x=some c->H c=none
  pin:∀ p∈X.pn++pins,s.heap.get? p.1=some p.2/\H p.1=none/\p.1≠X.env.locals/\p.1∉X.fs/\∀ v,p.2.data≠.cell v
  hok:gM X.prog X.w H s.heap
  len:σ.length=X.N.length
section
variable {X:Cx} {pins:List (Addr×Obj)} {σ:List (Option V)} {H H':Hp} {s:Shared} {h':Heap}
theorem Cx.Ok.nofr (ok:X.Ok) {b:Addr} {o:Obj} (e:X.base.get? b=some o):b∉X.fs:=fun hb=>by
  have:=(ok.funs.mem hb).1;rw [e] at this;cases this
theorem aF.bs (I:aF X pins σ H s):∀ b o,X.base.get? b=some o->s.heap.get? b=some o/\H b=none:=fun b o e =>
  ⟨I.base.keep b o (I.ok.bs b o e).1 (I.ok.bs b o e).2 (I.ok.nofr e) (I.ok.noex b o e),I.base.free b o (I.ok.bs b o e).1 (I.ok.bs b o e).2 (I.ok.noex b o e)⟩
theorem aF.bk (I:aF X pins σ H s):∀ b o,X.base.get? b=some o->s.heap.get? b=some o:=fun b o e=>(I.bs b o e).1
theorem aF.mod (I:aF X pins σ H s):Mod X.K X.mg X.base:=I.ok.mod
theorem aF.kIn (I:aF X pins σ H s):X.K.In s.heap:=I.ok.mod.kin.keeps I.bk
theorem aF.lt (I:aF X pins σ H s):X.env.locals < s.heap.objs.size:=let ⟨_,hn,_⟩:=I.loc;hn.lt
theorem aF.sz (I:aF X pins σ H s):X.s₀.heap.objs.size<=s.heap.objs.size:=Nat.le_trans I.ok.above (Nat.le_of_lt I.lt)
theorem aF.nofs (I:aF X pins σ H s) {a:Addr} (h:s.heap.objs.size<=a):a∉X.fs:=fun hb=>by
  obtain ⟨_,o,ho,_⟩:=I.ok.funs.mem hb;exact absurd (Nat.lt_of_lt_of_le (Heap.lt_size ho) (Nat.le_trans I.sz h)) (Nat.lt_irrefl _)
theorem aF.cne (I:aF X pins σ H s):∀ x c,X.env.cells.lookup x=some c->c≠X.env.locals:=fun x c e z=>by
  obtain ⟨v,o,ho,hd⟩:=I.cell x c e;obtain ⟨m,⟨o',es,ep,ho',hd',_⟩,_⟩:=I.loc;rw [z,ho'] at ho;cases ho;rw [hd'] at hd;cases hd
theorem aF.funs (I:aF X pins σ H s):s.heap.FunFrames X.base X.outer:=by
  have all:∀ (l:List Env),(∀ b∈ky l,b∈X.fs)->X.s₀.heap.FunFrames X.base l->s.heap.FunFrames X.base l:=by
    intro l;induction l with
    | nil=>intro _ _;trivial
    | cons env r ih =>
      intro hs hl;obtain ⟨hk,⟨L,o,hf,hn,ho,hd⟩,hr⟩:=hl;have hL:L∈X.fs:=hs L (by unfold ky;rw [List.filterMap_cons,hf];exact List.mem_cons_self);obtain ⟨sl,e⟩:=I.base.slot L o ho (I.ok.frf L hL) hL fun z=>I.ok.exfs L z hL
      exact ⟨hk,⟨L,_,hf,hn,e,hd⟩,ih (fun b hb=>hs b (by unfold ky;rw [List.filterMap_cons,hf];exact List.mem_cons_of_mem _ hb)) hr⟩
  exact all X.outer (fun _ hb=>hb) I.ok.funs
theorem aF.stack (I:aF X pins σ H s):s.heap.FunFrames X.base X.stack:=by
  rcases I.ok.stk with e | ⟨e,hf⟩
  · rw [e];exact I.funs
  · rw [e];obtain ⟨m,hn,_⟩:=I.loc;refine .cons (by rw [I.ok.kind];decide) hf hn ?_ I.funs;exact Heap.get?_none_of_le (Nat.le_trans I.ok.bsz I.ok.above)
theorem aF.stkSub (I:aF X pins σ H s):∀ b∈ky X.stack,b∈X.env.locals::X.fs:=fun b hb=>by
  rcases I.ok.stk with e | ⟨e,hf⟩
  · rw [e] at hb;exact List.mem_cons_of_mem _ hb
  · rw [e] at hb;unfold ky at hb;rw [List.filterMap_cons,hf] at hb;exact hb
theorem aF.stkFree (I:aF X pins σ H s):∀ b∈ky X.stack,H b=none:=fun b hb=>by
  rcases List.mem_cons.mp (I.stkSub b hb) with e | hb
  · rw [e];exact I.free
  · obtain ⟨_,o,ho,_⟩:=I.ok.funs.mem hb;exact I.base.free b o ho (I.ok.frf b hb) fun z=>I.ok.exfs b z hb
theorem aF.step {g':Array GenState} {t':Nat} {d':Drawn} {ch:List Addr} (I:aF X pins σ H s)
    (hch:∀ b∈ch,(b∈X.ex\/X.s₀.heap.objs.size<=b)/\b≠X.env.locals/\(∀ x c,X.env.cells.lookup x=some c->c≠b)/\∀ p∈X.pn++pins,p.1≠b)
    (keep:∀ b o,b≠X.env.locals->b∉X.fs->b∉ch->s.heap.get? b=some o->H b=none->h'.get? b=some o)
    (slot:∀ b o,b≠X.env.locals->b∈X.fs->b∉ch->s.heap.get? b=some o->H b=none->∃ sl,h'.get? b=some { o with slots:=sl }) (free:∀ b o,b∉ch->s.heap.get? b=some o->H b=none->H' b=none)
    (there:∀ b o,b∉ch->s.heap.get? b=some o->∃ o',h'.get? b=some o')
    (tups:∀ b xs,H b=some (.tup xs)->H' b=some (.tup xs)) (frzs:∀ b o u,H b=some (.frz o u)->H' b=some (.frz o u)) (tbls:∀ b ps,H b=some (.tbl ps)->∃ more,H' b=some (.tbl (ps++more)))
    (ns:∀ m,s.heap.Ns X.env.locals m->h'.Ns X.env.locals m) (hok:gM X.prog X.w H' h') (hg:AllBare g') :
    aF X pins σ H' { s with heap:=h',gens:=g',drawn:=d',toks:=t' }:=by
  have neL:∀ b o,X.s₀.heap.get? b=some o->b≠X.env.locals:=fun b o e=>Nat.ne_of_lt (Nat.lt_of_lt_of_le (Heap.lt_size e) I.ok.above)
  have neC:∀ b o,X.s₀.heap.get? b=some o->b∉X.ex->b∉ch:=fun b o e hx hb=>by
    rcases (hch b hb).1 with z | z
    · exact hx z
    · exact absurd (Nat.lt_of_lt_of_le (Heap.lt_size e) z) (Nat.lt_irrefl _)
  have cellK:∀ x c,X.env.cells.lookup x=some c->∀ v,s.heap.IsCell c v->h'.IsCell c v:=fun x c e v ⟨o,ho,hd⟩=>by
    have nch:c∉ch:=fun z=>(hch c z).2.2.1 x c e rfl
    by_cases hc:c∈X.fs
    · obtain ⟨sl,q⟩:=slot c o (I.cne x c e) hc nch ho (I.freeC x c e);exact ⟨_,q,hd⟩
    · exact ⟨o,keep c o (I.cne x c e) hc nch ho (I.freeC x c e),hd⟩
  refine ⟨I.ok,I.os,hg,⟨fun b o e n hb hx=>?_,fun b o e n hb hx=>?_,fun b o e n hx=>?_,fun b o e hx=>?_,fun b xs e=>tups b xs (I.base.tups b xs e),fun b o xs e=>frzs b o xs (I.base.frzs b o xs e),fun b ps e=>?_⟩,?_,fun x c e=>?_,?_,fun x c e=>?_,fun p hp=>?_,hok,I.len⟩
  · exact keep b o (neL b o e) hb (neC b o e hx) (I.base.keep b o e n hb hx) (I.base.free b o e n hx)
  · obtain ⟨sl,e1⟩:=I.base.slot b o e n hb hx;obtain ⟨sl',e2⟩:=slot b _ (neL b o e) hb (neC b o e hx) e1 (I.base.free b o e n hx);exact ⟨sl',e2⟩
  · obtain ⟨o',e1⟩:=I.base.there b o e hx;exact free b o' (neC b o e hx) e1 (I.base.free b o e n hx)
  · obtain ⟨o',e1⟩:=I.base.there b o e hx;exact there b o' (neC b o e hx) e1
  · obtain ⟨m1,e1⟩:=I.base.tbls b ps e;obtain ⟨m2,e2⟩:=tbls b _ e1;exact ⟨m1++m2,by rw [e2,Array.append_assoc]⟩
  · obtain ⟨m,hn,hl⟩:=I.loc;refine ⟨m,ns m hn,fun i x v e1 e2 e3=>?_⟩;obtain ⟨u,r,l⟩:=hl i x v e1 e2 e3;refine ⟨u,r,?_⟩;rcases l with l | ⟨k,c,e,z⟩
    · exact .inl l
    · exact .inr ⟨k,c,e,cellK x c e _ z⟩
  · obtain ⟨v,z⟩:=I.cell x c e;exact ⟨v,cellK x c e v z⟩
  · obtain ⟨m,⟨o,_,_,ho,_⟩,_⟩:=I.loc;exact free _ o (fun z=>(hch _ z).2.1 rfl) ho I.free
  · obtain ⟨v,o,ho,hd⟩:=I.cell x c e;exact free c o (fun z=>(hch c z).2.2.1 x c e rfl) ho (I.freeC x c e)
  · obtain ⟨e,n,ne,nf,d⟩:=I.pin p hp;have nch:p.1∉ch:=fun z=>(hch p.1 z).2.2.2 p hp rfl
    exact ⟨keep p.1 p.2 ne nf nch e n,free p.1 p.2 nch e n,ne,nf,d⟩
theorem aF.un {t':Nat} (I:aF X pins σ H s) (u:Un X.fs [] H H' s.heap h') (hok:gM X.prog X.w H' h'):aF X pins σ H' { s with heap:=h',toks:=t' }:=by
  obtain ⟨m,⟨o,es,ep,ho,r⟩,_⟩:=id I.loc;obtain ⟨sl,hL⟩:=u.any ho I.free (by simp);exact I.step (g':=s.gens) (d':=s.drawn) (ch:=[]) (fun _ z=>nomatch z) (fun b o _ hb _ e n=>u.keep b o e n hb (by simp)) (fun b o _ hb _ e n=>u.slot b o e n hb (by simp)) (fun b o _ e n=>u.free b o e n (by simp)) (fun b o _ e=>u.there b o e (by simp)) u.tups u.frzs u.tbls (fun m' hm=>by
    obtain ⟨o',es',ep',ho',r'⟩:=hm;rw [ho] at ho';cases ho';exact ⟨_,es',ep',hL,r'⟩) hok I.bare
theorem aF.call {g':Array GenState} {t':Nat} {d':Drawn} {ch:List Addr} (I:aF X pins σ H s) (u:Un (ky X.stack) ch H H' s.heap h') (hok:gM X.prog X.w H' h') (hg:AllBare g')
    (hch:∀ b∈ch,(b∈X.ex\/X.s₀.heap.objs.size<=b)/\b≠X.env.locals/\(∀ x c,X.env.cells.lookup x=some c->c≠b)/\∀ p∈X.pn++pins,p.1≠b) :
    aF X pins σ H' { s with heap:=h',gens:=g',drawn:=d',toks:=t' }:=by
  obtain ⟨m,⟨o,es,ep,ho,r⟩,_⟩:=id I.loc;obtain ⟨sl,hL⟩:=u.any ho I.free fun z=>(hch _ z).2.1 rfl
  exact I.step (ch:=ch) hch (fun b o hL hb hc e n=>u.keep b o e n (fun z=>(List.mem_cons.mp (I.stkSub b z)).elim hL hb) hc) (fun b o _ _ hc e n=>u.any e n hc) (fun b o hc e n=>u.free b o e n hc) (fun b o hc e=>u.there b o e hc) u.tups u.frzs u.tbls (fun m' hm=>by
    obtain ⟨o',es',ep',ho',r'⟩:=hm;rw [ho] at ho';cases ho';exact ⟨_,es',ep',hL,r'⟩) hok hg
theorem aF.turned {t':Nat} {it:Addr} (I:aF X pins σ H s) (k:∀ b o,b≠it->s.heap.get? b=some o->h'.get? b=some o) (hn:H it=none) (hL:it≠X.env.locals)
    (h1:it∈X.ex\/X.s₀.heap.objs.size<=it) (h2:∀ x c,X.env.cells.lookup x=some c->c≠it) (h3:∀ p∈X.pn++pins,p.1≠it):aF X pins σ H { s with heap:=h',toks:=t' }:=by
  have nit:∀ b u,H b=some u->b≠it:=fun b u e z=>by rw [z,hn] at e;cases e
  refine I.step (g':=s.gens) (d':=s.drawn) (ch:=[it]) (fun b hb=>?_) (fun b o _ _ hc e _=>k b o (fun z=>hc (by simp [z])) e) (fun b o _ _ hc e _=>⟨o.slots,k b o (fun z=>hc (by simp [z])) e⟩) (fun _ _ _ _ n=>n)
    (fun b o hc e=>⟨o,k b o (fun z=>hc (by simp [z])) e⟩) (fun _ _ e=>e) (fun _ _ _ e=>e) (fun b ps e=>⟨#[],by rw [e];simp⟩) (fun m hm=>?_) (fun b u e=>?_) I.bare
  · have e:b=it:=by simpa using hb
    subst e;exact ⟨h1,hL,h2,h3⟩
  · obtain ⟨o,es,ep,ho,r⟩:=hm;exact ⟨o,es,ep,k _ o (Ne.symm hL) ho,r⟩
  · refine (I.hok b u e).stay (fun c v hc q=>k c v ?_ q) (fun _ q=>q) fun _ _ q=>q
    rcases hc with z | z
    · rw [z];exact nit b u e
    · exact nit c _ z
theorem aF.tok (I:aF X pins σ H s) (t:Nat):aF X pins σ H { s with toks:=t }:=I.un (h':=s.heap) (t':=t) Un.refl I.hok
theorem aF.kept {t':Nat} (I:aF X pins σ H s) (k:∀ b u,s.heap.get? b=some u->h'.get? b=some u):aF X pins σ H { s with heap:=h',toks:=t' }:=I.un (Un.kept k) (I.hok.kept k)
theorem aF.laid {a:Addr} {o:HO} {t':Nat} (I:aF X pins σ H s) (k:∀ b u,s.heap.get? b=some u->h'.get? b=some u) (hp:s.heap.objs.size<=a) (new:bW X.prog X.w (cA H a o) h' a o) :
    aF X pins σ (cA H a o) { s with heap:=h',toks:=t' }:=I.un (Un.laid k hp (I.hok.fresh hp)) (I.hok.laid k hp new)
theorem aF.write {x e:Addr} {o:HO} {t':Nat} (I:aF X pins σ H s) (mu:DE (H x)) (he:e=x\/H e=some (.own x)) (k:∀ b u,b≠e->s.heap.get? b=some u->h'.get? b=some u) (heo:∃ u,h'.get? e=some u)
    (new:bW X.prog X.w (cA H x o) h' x o):aF X pins σ (cA H x o) { s with heap:=h',toks:=t' }:=I.un (Un.write mu he k heo) (I.hok.write mu he k heo new)
theorem aF.pins_of {pins':List (Addr×Obj)} (I:aF X pins σ H s) (h:∀ p∈pins',s.heap.get? p.1=some p.2/\H p.1=none/\p.1≠X.env.locals/\p.1∉X.fs/\∀ v,p.2.data≠.cell v):aF X pins' σ H s :=
  ⟨I.ok,I.os,I.bare,I.base,I.loc,I.cell,I.free,I.freeC,fun p hp=>(List.mem_append.mp hp).elim (fun z=>I.pin p (List.mem_append_left _ z)) (h p),I.hok,I.len⟩
theorem rm {N:List Str} (hN:N.Nodup) {i j:Nat} {x:Str} (a:N[i]?=some x) (b:N[j]?=some x):i=j:=by
  obtain ⟨h1,e1⟩:=List.getElem?_eq_some_iff.mp a;obtain ⟨h2,e2⟩:=List.getElem?_eq_some_iff.mp b;exact (List.getElem_inj hN).mp (e1.trans e2.symm)
theorem om {M:Model} {A:Around} {E:Value->Shared->Prop} {i:Nat} {x:Str} {v:V} {u:Value} {Q:Unit->Shared->Prop} (I:aF X pins σ H s) (hN:X.N.Nodup) (hi:X.N[i]?=some x) (hx:A8 X.env.scope x) (r:bL v u)
    (h:∀ s',aF X pins (σ.set i (some v)) H s'->(∃ a,Heap.SameBut a s.heap s'.heap/\(a=X.env.locals\/X.env.cells.lookup x=some a))->Q () s') (hf:X.fn x=true\/X.env.scope.names.lookup x=some .local:=by first | exact .inl rfl | exact .inr rfl | assumption):wpAny M A (storeName X.env x u) Q E s:=by
  obtain ⟨m,hn,hl⟩:=id I.loc;have hcls:(X.env.scope.kind==.class||(X.env.scope.kind==.module&&X.env.locals != X.env.globals))=false:=by rw [I.ok.kind];rfl
  have hiσ:i < σ.length:=by rw [I.len];exact (List.getElem?_eq_some_iff.mp hi).1
  have cne:=I.cne;have tracked:∀ {a:Addr} {h':Heap},(∃ o,s.heap.get? a=some o/\H a=none)->Heap.SameBut a s.heap h'->gM X.prog X.w H h':=fun {a h'} ha hs b ob e=>by
    obtain ⟨_,_,hfree⟩:=ha;refine (I.hok b ob e).stay (fun c w' hc q=>(hs.2 c ?_).trans q) (fun _ q=>q) fun _ _ q=>q
    rintro rfl;rcases hc with rfl | hc
    · rw [hfree] at e;cases e
    · rw [hfree] at hc;cases hc
  rcases hx with hk | hk
  · refine wpAny_storeName_local hk hn (fun h' hn' hs=>?_) hcls;obtain ⟨oL,_,_,hoL,_⟩:=id hn;refine h _ ⟨I.ok,I.os,I.bare,⟨fun b o e n hb hx=>?_,fun b o e n hb hx=>?_,I.base.free,fun b o e hx=>?_,I.base.tups,I.base.frzs,I.base.tbls⟩,⟨_,hn',fun j y v' e1 e2 e3=>?_⟩,fun y c e=>?_,I.free,I.freeC,fun p hp=>?_,tracked ⟨oL,hoL,I.free⟩ hs,by simpa using I.len⟩ ⟨_,hs,.inl rfl⟩
    · exact (hs.2 b (Nat.ne_of_lt (Nat.lt_of_lt_of_le (Heap.lt_size e) I.ok.above))).trans (I.base.keep b o e n hb hx)
    · obtain ⟨sl,e1⟩:=I.base.slot b o e n hb hx;exact ⟨sl,(hs.2 b (Nat.ne_of_lt (Nat.lt_of_lt_of_le (Heap.lt_size e) I.ok.above))).trans e1⟩
    · obtain ⟨o',e1⟩:=I.base.there b o e hx;exact ⟨o',(hs.2 b (Nat.ne_of_lt (Nat.lt_of_lt_of_le (Heap.lt_size e) I.ok.above))).trans e1⟩
    · by_cases hj:j=i
      · subst hj;rw [hi] at e1;cases e1;rw [List.getElem?_set_self hiσ] at e2;cases e2;exact ⟨u,r,.inl ⟨hk,by simp⟩⟩
      · rw [List.getElem?_set_ne (Ne.symm hj)] at e2;obtain ⟨u',r',q⟩:=hl j y v' e1 e2 e3;refine ⟨u',r',?_⟩;rcases q with ⟨k,e⟩ | ⟨k,c,e,z⟩
        · refine .inl ⟨k,?_⟩;have:y≠x:=fun e=>hj (rm hN e1 (e ▸ hi))
          simp [this,e]
        · exact .inr ⟨k,c,e,z.sameBut hs (cne y c e)⟩
    · obtain ⟨w',z⟩:=I.cell y c e;exact ⟨w',z.sameBut hs (cne y c e)⟩
    · obtain ⟨e,n,ne,nf,d⟩:=I.pin p hp;exact ⟨(hs.2 p.1 ne).trans e,n,ne,nf,d⟩
  · have hfn:X.fn x=true:=by
      rcases hf with z | z
      · exact z
      · rw [z] at hk;cases hk
    obtain ⟨c,hc⟩:=I.ok.has x (.inl hk);obtain ⟨w',z⟩:=I.cell x c hc;refine wpAny_storeName_cell I.ok.kind hk hc z (fun h' hc' hs=>?_);obtain ⟨oc,hoc,hocd⟩:=id z;refine h { s with heap:=h' } ⟨I.ok,I.os,I.bare,⟨fun b o e n hb hx=>?_,fun b o e n hb hx=>?_,I.base.free,fun b o e hx=>?_,I.base.tups,I.base.frzs,I.base.tbls⟩,⟨m,hn.sameBut hs (Ne.symm (cne x c hc)),fun j y v' e1 e2 e3=>?_⟩,fun y c' e=>?_,I.free,I.freeC,fun p hp=>?_,tracked ⟨oc,hoc,I.freeC x c hc⟩ hs,by simpa using I.len⟩ ⟨c,hs,.inr hc⟩
    · exact (hs.2 b (Nat.ne_of_lt (Nat.lt_of_lt_of_le (Heap.lt_size e) (I.ok.cab x c hfn hc)))).trans (I.base.keep b o e n hb hx)
    · obtain ⟨sl,e1⟩:=I.base.slot b o e n hb hx;exact ⟨sl,(hs.2 b (Nat.ne_of_lt (Nat.lt_of_lt_of_le (Heap.lt_size e) (I.ok.cab x c hfn hc)))).trans e1⟩
    · obtain ⟨o',e1⟩:=I.base.there b o e hx;exact ⟨o',(hs.2 b (Nat.ne_of_lt (Nat.lt_of_lt_of_le (Heap.lt_size e) (I.ok.cab x c hfn hc)))).trans e1⟩
    · by_cases hj:j=i
      · subst hj;rw [hi] at e1;cases e1;rw [List.getElem?_set_self hiσ] at e2;cases e2;exact ⟨u,r,.inr ⟨.inl hk,c,hc,hc'⟩⟩
      · rw [List.getElem?_set_ne (Ne.symm hj)] at e2;obtain ⟨u',r',q⟩:=hl j y v' e1 e2 e3;refine ⟨u',r',?_⟩;rcases q with q | ⟨k,c',e,z'⟩
        · exact .inl q
        · refine .inr ⟨k,c',e,z'.sameBut hs ?_⟩;rintro rfl;exact hj (rm hN e1 (I.ok.inj _ _ _ e hc ▸ hi))
    · by_cases hcc:c'=c
      · subst hcc;exact ⟨_,hc'⟩
      · obtain ⟨w2,z2⟩:=I.cell y c' e;exact ⟨w2,z2.sameBut hs hcc⟩
    · obtain ⟨e,n,ne,nf,d⟩:=I.pin p hp;refine ⟨(hs.2 p.1 ?_).trans e,n,ne,nf,d⟩;intro q;rw [q,hoc] at e;have q':oc=p.2:=Option.some.inj e;exact d w' (by rw [<- q'];exact hocd)
theorem ma {M:Model} {A:Around} {E:Value->Shared->Prop} {i:Nat} {x:Str} {v:V} {u:Value} {Q:Unit->Shared->Prop} (I:aF X pins σ H s) (hN:X.N.Nodup) (hi:X.N[i]?=some x) (hx:A8 X.env.scope x) (r:bL v u)
    (h:∀ s',aF X pins (σ.set i (some v)) H s'->Q () s') (hf:X.fn x=true\/X.env.scope.names.lookup x=some .local:=by first | exact .inl rfl | exact .inr rfl | assumption):wpAny M A (storeName X.env x u) Q E s :=
  om I hN hi hx r (fun s' I' _=>h s' I') hf
theorem aF.call' {s':Shared} {ch:List Addr} (I:aF X pins σ H s) (ho:s'.os=s.os) (u:Un (ky X.stack) ch H H' s.heap s'.heap) (hok:gM X.prog X.w H' s'.heap) (hg:AllBare s'.gens)
    (hch:∀ b∈ch,(b∈X.ex\/X.s₀.heap.objs.size<=b)/\b≠X.env.locals/\(∀ x c,X.env.cells.lookup x=some c->c≠b)/\∀ p∈X.pn++pins,p.1≠b):aF X pins σ H' s':=by
  obtain ⟨h',g',d',t',o'⟩:=s';have e:o'=s.os:=ho;subst e;exact I.call (g':=g') (t':=t') (d':=d') u hok hg hch
end
noncomputable abbrev XK:=Value->Option Addr->Hp->Prop
noncomputable abbrev St:=List (Option V)
noncomputable abbrev VK:=V->Hp->Prop
noncomputable abbrev TE:=St->Hp->VK->Prop
noncomputable abbrev TT:=St->Hp->(Bool->Hp->Prop)->Prop
noncomputable abbrev TA:=St->Hp->(List V->Hp->Prop)->Prop
structure s9 where
  nx:St->Hp->Prop
  rt:VK
  bk:St->Hp->Prop:=fun _ _=>False
  ct:St->Hp->Prop:=fun _ _=>False
noncomputable abbrev TS:=s9->St->Hp->Prop
noncomputable def EP (X:Cx) (pins:List (Addr×Obj)) (σ:St) (Q:VK) (u:Value) (s':Shared):Prop:=∃ v H',aF X pins σ H' s'/\bL v u/\Q v H'
noncomputable def TP (X:Cx) (pins:List (Addr×Obj)) (σ:St) (Q:Bool->Hp->Prop) (b:Bool) (s':Shared):Prop:=∃ H',aF X pins σ H' s'/\Q b H'
noncomputable def AP (X:Cx) (pins:List (Addr×Obj)) (σ:St) (Q:List V->Hp->Prop) (us:List Value) (s':Shared):Prop:=∃ vs H',aF X pins σ H' s'/\bB vs us/\Q vs H'
noncomputable def SP (X:Cx) (pins:List (Addr×Obj)) (D:s9) (f:Flow) (s':Shared):Prop :=
  match f with
  | .next=>∃ σ' H',aF X pins σ' H' s'/\D.nx σ' H'
  | .brk=>∃ σ' H',aF X pins σ' H' s'/\D.bk σ' H'
  | .cont=>∃ σ' H',aF X pins σ' H' s'/\D.ct σ' H'
  | .ret u=>∃ v σ' H',aF X pins σ' H' s'/\bL v u/\D.rt v H'
noncomputable def PE (X:Cx) (e:Expr) (t:TE):Prop :=
  ∀ (pins:List (Addr×Obj)) (s:Shared) (σ:St) (H:Hp) (Q:VK),aF X pins σ H s->t σ H Q->wpAny (model X.prog X.w) X.A (eval e X.env) (EP X pins σ Q) X.xe s
noncomputable def PT (X:Cx) (e:Expr) (t:TT):Prop :=
  ∀ (pins:List (Addr×Obj)) (s:Shared) (σ:St) (H:Hp) (Q:Bool->Hp->Prop),aF X pins σ H s->t σ H Q->wpAny (model X.prog X.w) X.A (isTrue e X.env (eval e X.env)) (TP X pins σ Q) X.xe s
noncomputable def PW (X:Cx) (e:Expr) (t:TT):Prop :=
  ∀ (whole:Sem Value) (pins:List (Addr×Obj)) (s:Shared) (σ:St) (H:Hp) (Q:Bool->Hp->Prop),aF X pins σ H s->t σ H Q->wpAny (model X.prog X.w) X.A (isTrue e X.env whole) (TP X pins σ Q) X.xe s
theorem PW.pt {X:Cx} {e:Expr} {t:TT} (h:PW X e t):PT X e t:=h _
noncomputable def PA (X:Cx) (es:List Expr) (t:TA):Prop :=
  ∀ (pos:Pos) (pins:List (Addr×Obj)) (s:Shared) (σ:St) (H:Hp) (Q:List V->Hp->Prop),aF X pins σ H s->t σ H Q->wpAny (model X.prog X.w) X.A (spliced (backTo pos (starEach es X.env))) (AP X pins σ Q) X.xe s
noncomputable def PS (X:Cx) (st:Stmt) (t:TS):Prop :=
  ∀ (pins:List (Addr×Obj)) (s:Shared) (σ:St) (H:Hp) (D:s9),aF X pins σ H s->t D σ H->wpAny (model X.prog X.w) X.A (exec st X.env) (SP X pins D) X.xe s
noncomputable def p0 (X:Cx) (st:List Stmt) (t:TS):Prop :=
  ∀ (pins:List (Addr×Obj)) (s:Shared) (σ:St) (H:Hp) (D:s9),aF X pins σ H s->t D σ H->wpAny (model X.prog X.w) X.A (execs st X.env) (SP X pins D) X.xe s
theorem df {α:Type} {t:Sem α} {Q Q':α->Shared->Prop} {M:Model} {A:Around} {E:Value->Shared->Prop} {s:Shared} (h:wpAny M A t Q E s) (hQ:∀ a s,Q a s->Q' a s):wpAny M A t Q' E s:=wpAny_mono h hQ fun _ _ x=>x
section
variable {X:Cx}
theorem FQ {a b:Expr} {ta tb:TE} (ha:PE X a ta) (hb:PE X b tb) {pins:List (Addr×Obj)} {s:Shared} {σ:St} {H:Hp} {R:V->V->Hp->Prop} (I:aF X pins σ H s) (h:ta σ H fun x H1=>tb σ H1 fun y H2=>R x y H2)
    {α:Type} {Q:α->Shared->Prop} {f:Value->Value->Sem α}
    (hf:∀ v u s2 x y H2,aF X pins σ H2 s2->bL x v->bL y u->R x y H2->wpAny (model X.prog X.w) X.A (f v u) Q X.xe s2) :
    wpAny (model X.prog X.w) X.A (eval a X.env) (fun v s₁=>wpAny (model X.prog X.w) X.A (eval b X.env) (fun u s₂=>wpAny (model X.prog X.w) X.A (f v u) Q X.xe s₂) X.xe s₁) X.xe s:=by
  refine df (ha pins s σ H _ I h) fun v s1 ⟨x,H1,I1,r1,q1⟩=>?_
  refine df (hb pins s1 σ H1 _ I1 q1) fun u s2 ⟨y,H2,I2,r2,q2⟩=>?_
  exact hf v u s2 x y H2 I2 r1 r2 q2
noncomputable def DH (i:Nat):TE:=fun σ H Q=>∃ v,σ[i]?=some (some v)/\Q v H
noncomputable def tC (v:V):TE:=fun _ H Q=>Q v H
theorem kC {i:Nat} {x:Str} {pos:Pos} (hN:X.N[i]?=some x) (hv:CI X.env.scope x) (hd:(x==("__debug__" : Str))=false:=by decide) (hcd:(x==("__classdict__" : Str))=false:=by decide):PE X (.Name x pos) (DH i):=by
  intro pins s σ H Q I h;obtain ⟨v,e,h⟩:=h;obtain ⟨m,hn,hl⟩:=I.loc;obtain ⟨u,r,l⟩:=hl i x v hN e hv;have fin:EP X pins σ Q u s:=⟨v,H,I,r,h⟩
  rcases l with ⟨hk,hm⟩ | ⟨hk,c,hc,hcell⟩
  · exact wpAny_Name (wpAny_loadName_local I.ok.kind hk hn hm fin) hd
  · rcases hk with hk | hk
    · exact wpAny_Name (wpAny_loadName_cell I.ok.kind hk hc hcell fin) hd
    · exact wpAny_Name (wpAny_loadName_free I.ok.kind hk hc hcell fin hcd) hd
theorem CQ {i j pos}:PE X (.Constant (.int i) j pos) (tC (.int i)):=fun _ _ _ H _ I h=>wpAny_Constant_int ⟨.int i,H,I.tok _,⟨_,rfl⟩,h⟩
theorem Dw {b j pos}:PE X (.Constant (.bool b) j pos) (tC (.bl b)):=fun _ _ _ H _ I h=>Constant_bool ⟨.bl b,H,I,rfl,h⟩
theorem BX {j pos}:PE X (.Constant .none j pos) (tC .non):=fun _ _ _ H _ I h=>Constant_none ⟨.non,H,I,rfl,h⟩
noncomputable def Gl (X:Cx) (x:Str):Prop:=X.env.kindOf x=some .globalImplicit
theorem o8 {E:Value->Shared->Prop} {pins:List (Addr×Obj)} {s:Shared} {σ:St} {H:Hp} {x:Str} {u:Value} {pos:Pos} {Q:Value->Shared->Prop} (I:aF X pins σ H s) (hg:Gl X x) (hm:X.mg x=some u) (h:Q u s)
    (hd:(x==("__debug__" : Str))=false:=by decide):wpAny (model X.prog X.w) X.A (eval (.Name x pos) X.env) Q E s :=
  Calls.Name_function_global I.ok.kind hg (Calls.loadGlobal_global (by rw [I.ok.glob];exact I.mod.glob.keeps I.bk) hm h) hd
theorem ie {E:Value->Shared->Prop} {pins:List (Addr×Obj)} {s:Shared} {σ:St} {H:Hp} {x:Str} {u:Value} {pos:Pos} {Q:Value->Shared->Prop} (I:aF X pins σ H s) (hg:Gl X x) (hm:X.mg x=none) (hv:bootBuiltins x=some u) (h:Q u s)
    (hn:x ≠ "__name__" := by decide) (hd:(x==("__debug__" : Str))=false:=by decide):wpAny (model X.prog X.w) X.A (eval (.Name x pos) X.env) Q E s:=by
  obtain ⟨mb,h1,h2⟩:=I.mod.blt;exact Calls.Name_function_global I.ok.kind hg (Calls.loadGlobal_builtin (by rw [I.ok.glob];exact I.mod.glob.keeps I.bk) hm (by rw [I.ok.blt];exact h1.keeps I.bk) ((h2 x hn).trans hv) h) hd
theorem zY {x:Str} {v:V} {u:Value} {pos:Pos} (hg:Gl X x) (hm:X.mg x=some u) (r:bL v u) (hd:(x==("__debug__" : Str))=false:=by decide):PE X (.Name x pos) (tC v) :=
  fun _ _ _ H _ I h=>o8 I hg hm ⟨v,H,I,r,h⟩ hd
theorem Aj {x:Str} {v:V} {u:Value} {pos:Pos} (hg:Gl X x) (hm:X.mg x=none) (hv:bootBuiltins x=some u) (r:bL v u) (hn:x ≠ "__name__" := by decide) (hd:(x==("__debug__" : Str))=false:=by decide):PE X (.Name x pos) (tC v) :=
  fun _ _ _ H _ I h=>ie I hg hm hv ⟨v,H,I,r,h⟩ hn hd
variable {a b:Expr} {ta tb:TE} {pos:Pos}
noncomputable def PC (X:Cx) (op:CmpOp) (a b:Expr) (t:TE):Prop :=
  ∀ (pins:List (Addr×Obj)) (s:Shared) (σ:St) (H:Hp) (Q:VK),aF X pins σ H s->t σ H Q ->
    wpAny (model X.prog X.w) X.A (eval a X.env) (fun v s₁=>wpAny (model X.prog X.w) X.A (eval b X.env) (fun u s₂=>wpAny (model X.prog X.w) X.A (compareOp op v u) (EP X pins σ Q) X.xe s₂) X.xe s₁) X.xe s
theorem wU (b:Expr) {op:CmpOp} (h:op≠.In) (h2:op≠.NotIn):behindInMarks op b=false:=by
  have e1:(op==CmpOp.In)=false:=by cases op <;> first | rfl | exact absurd rfl h
  have e2:(op==CmpOp.NotIn)=false:=by cases op <;> first | rfl | exact absurd rfl h2
  cases b <;> simp [behindInMarks,e1,e2]
noncomputable def tB (t:TE):TT:=fun σ H Q=>t σ H fun x H1=>∃ c,x=.bl c/\Q c H1
theorem EI {op:CmpOp} {t:TE} (h:PC X op a b t) (h1:behindInMarks op b=false:=by first | exact wU _ (by decide) (by decide) | rfl):PT X (.Compare a [op] [b] pos) (tB t):=by
  intro pins s σ H Q I hw;refine wpAny_isTrue_Compare1 (df (h pins s σ H _ I hw) fun v s1 h1=>df h1 fun u s2 h2=>df h2 fun c s3 ⟨x,H1,I1,r1,q1⟩=>?_) h1;obtain ⟨d,rfl,q⟩:=q1;cases r1;exact wpAny_truthy_bool ⟨H1,I1,q⟩
theorem B9 {e:Expr} {t:TE} (h:PE X e t) (he:∀ whole,isTrue e X.env whole=(do let v <- whole;standAt e.pos;holding [v] (truthy v)):=by intro _;rfl):PT X e (tB t):=by
  intro pins s σ H Q I hw;refine isTrue_plain (df (h pins s σ H _ I hw) fun v s1 ⟨x,H1,I1,r1,q1⟩=>?_) (he _);obtain ⟨d,rfl,q⟩:=q1;cases r1;exact wpAny_truthy_bool ⟨H1,I1,q⟩
variable {tA tB':TT} {dW:List Expr}
noncomputable def E9 (t u:TT):TT:=fun σ H Q=>t σ H fun c H1=>if c=true then u σ H1 Q else Q false H1
noncomputable def FD (t u:TT):TT:=fun σ H Q=>t σ H fun c H1=>if c=true then Q true H1 else u σ H1 Q
noncomputable def E1 (t:TT):TT:=fun σ H Q=>t σ H fun c H1=>Q (!c) H1
theorem pw_and1 (ha:PT X a tA):PW X (.BoolOp .And [a] pos) tA:=by
  intro wh pins s σ H Q I h;refine isTrue_and (df (ha pins s σ H Q I h) fun c s1 e=>?_);cases c with
  | true=>exact isTrue_and_nil e
  | false=>exact e
theorem pw_or1 (ha:PT X a tA):PW X (.BoolOp .Or [a] pos) tA:=by
  intro wh pins s σ H Q I h;refine isTrue_or (df (ha pins s σ H Q I h) fun c s1 e=>?_);cases c with
  | false=>exact isTrue_or_nil e
  | true=>exact e
theorem pw_and (ha:PT X a tA) (hb:PW X (.BoolOp .And (b::dW) pos) tB'):PW X (.BoolOp .And (a::b::dW) pos) (E9 tA tB'):=by
  intro wh pins s σ H Q I h;refine isTrue_and (df (ha pins s σ H _ I h) fun c s1 ⟨H1,I1,q1⟩=>?_);cases c with
  | true=>exact hb wh pins s1 σ H1 Q I1 q1
  | false=>exact ⟨H1,I1,q1⟩
theorem pw_or (ha:PT X a tA) (hb:PW X (.BoolOp .Or (b::dW) pos) tB'):PW X (.BoolOp .Or (a::b::dW) pos) (FD tA tB'):=by
  intro wh pins s σ H Q I h;refine isTrue_or (df (ha pins s σ H _ I h) fun c s1 ⟨H1,I1,q1⟩=>?_);cases c with
  | true=>exact ⟨H1,I1,q1⟩
  | false=>exact hb wh pins s1 σ H1 Q I1 q1
theorem BQ (ha:PT X a tA):PT X (.UnaryOp .Not a pos) (E1 tA):=by
  intro pins s σ H Q I h;exact isTrue_not (ha pins s σ H (fun c H1=>Q (!c) H1) I h)
noncomputable def DF (ta tb:TE):TE:=fun σ H Q=>ta σ H fun x H1=>∃ c,x=.bl c/\if c=true then tb σ H1 Q else Q (.bl false) H1
noncomputable def DJ (ta:TE):TE:=fun σ H Q=>ta σ H fun x H1=>∃ c,x=.bl c/\Q (.bl (!c)) H1
theorem CD {op} {t:TE} (h:PE X a t):PE X (.BoolOp op [a] pos) t:=fun pins s σ H Q I hw=>BoolOp_one (h pins s σ H Q I hw)
theorem BM (ha:PE X a ta) (hb:PE X (.BoolOp .And (b::dW) pos) tb):PE X (.BoolOp .And (a::b::dW) pos) (DF ta tb):=by
  intro pins s σ H Q I h;refine BoolOp_and (df (ha pins s σ H _ I h) fun v s1 ⟨x,H1,I1,r1,q1⟩=>?_);obtain ⟨c,rfl,q1⟩:=q1;cases r1;refine wpAny_truthy_bool ?_;cases c with
  | true=>exact hb pins s1 σ H1 Q I1 q1
  | false=>exact ⟨.bl false,H1,I1,rfl,q1⟩
theorem CJ (ha:PE X a ta):PE X (.UnaryOp .Not a pos) (DJ ta):=by
  intro pins s σ H Q I h;refine UnaryOp_ (df (ha pins s σ H _ I h) fun v s1 ⟨x,H1,I1,r1,q1⟩=>?_);obtain ⟨c,rfl,q1⟩:=q1;cases r1;exact not_of (wpAny_truthy_bool ⟨.bl (!c),H1,I1,rfl,q1⟩)
noncomputable def FN (t:TT) (ta tb:TE):TE:=fun σ H Q=>t σ H fun c H1=>if c=true then ta σ H1 Q else tb σ H1 Q
theorem xt {c:Expr} (hc:PT X c tA) (ha:PE X a ta) (hb:PE X b tb):PE X (.IfExp c a b pos) (FN tA ta tb):=by
  intro pins s σ H Q I h;refine wpAny_IfExp (df (hc pins s σ H _ I h) fun d s1 ⟨H1,I1,q1⟩=>?_);cases d with
  | true=>exact ha pins s1 σ H1 Q I1 q1
  | false=>exact hb pins s1 σ H1 Q I1 q1
end
noncomputable def kx (K:PySem.W.Frag) (H:Hp) (a:Addr) (xs:List V):Prop :=
  Rd H a (.lst xs) \/
    ∃ (o:Obj) (its:Array Value) (n:Nat),K.lookup a=some o/\o.cls=.type "list" /\ o.dict=none/\o.data=.seq its n/\its.size<=sizeLine/\bB xs its.toList
noncomputable def gh (K:PySem.W.Frag) (H:Hp) (a:Addr) (xs:List V):Prop :=
  Rd H a (.tup xs) \/
    ∃ (o:Obj) (its:Array Value) (n:Nat),K.lookup a=some o/\o.cls=.type "tuple" /\ o.data=.seq its n/\its.size<=sizeLine/\bB xs its.toList
noncomputable def E2:Value->Option V
  | .none=>some .non
  | .bool b=>some (.bl b)
  | .int i _=>some (.int i)
  | .str x _=>some (.str x)
  | .bytes b _=>some (.byt b)
  | .float b _=>some (.flt b)
  | .ref a=>some (.ref a)
  | .type n=>some (.ty n)
  | _=>none
theorem bL.abs {x:V} {u:Value} (r:bL x u):E2 u=some x:=by
  cases x with
  | non=>cases r;rfl
  | bl _=>cases r;rfl
  | int _=>obtain ⟨t,rfl⟩:=r;rfl
  | str _=>obtain ⟨t,rfl⟩:=r;rfl
  | byt _=>obtain ⟨t,rfl⟩:=r;rfl
  | flt _=>obtain ⟨t,rfl⟩:=r;rfl
  | ref _=>cases r;rfl
  | ty _=>cases r;rfl
theorem bL.inj {x y:V} {u:Value} (r:bL x u) (q:bL y u):x=y:=Option.some.inj (r.abs.symm.trans q.abs)
theorem bB.inj:∀ {xs ys:List V} {us:List Value},bB xs us->bB ys us->xs=ys
  | _,_,_,.nil,.nil=>rfl
  | _,_,_,.cons r t,.cons r' t'=>by rw [r.inj r',bB.inj t t']
section
variable {X:Cx} {pins:List (Addr×Obj)} {σ:St} {H:Hp} {s:Shared} {a:Addr} {xs ys:List V}
theorem kx.of {K:PySem.W.Frag} (h:H a=some (.lst xs)):kx K H a xs:=.inl (.inl h)
theorem gh.of {K:PySem.W.Frag} (h:H a=some (.tup xs)):gh K H a xs:=.inl (.inl h)
theorem aF.list (I:aF X pins σ H s) (h:kx X.K H a xs):∃ its:List Value,bB xs its/\PlainL s.heap a its.toArray/\xs.length<=sizeLine:=by
  rcases h with h | ⟨o,its,n,hk,hc,hd,hs,hz,r⟩
  · obtain ⟨z,its,n,r,e⟩:=h.ok I.hok;exact ⟨its,r,⟨_,n,e,rfl,rfl,rfl⟩,z⟩
  · refine ⟨its.toList,r,⟨o,n,I.kIn a o hk,hc,hd,by simpa using hs⟩,?_⟩;have e:=r.length;simp only [Array.length_toList] at e;omega
theorem aF.tuple (I:aF X pins σ H s) (h:gh X.K H a xs):∃ its:List Value,bB xs its/\IsTup s.heap a its.toArray/\xs.length<=sizeLine:=by
  rcases h with h | ⟨o,its,n,hk,hc,hs,hz,r⟩
  · obtain ⟨z,its,r,p⟩:=h.ok I.hok;exact ⟨its,r,p,z⟩
  · refine ⟨its.toList,r,⟨o,I.kIn a o hk,hc,n,by simpa using hs⟩,?_⟩;have e:=r.length;simp only [Array.length_toList] at e;omega
theorem aF.list_inj (I:aF X pins σ H s) (h:kx X.K H a xs) (h':kx X.K H a ys):xs=ys:=by
  obtain ⟨its,r,⟨o,n,e,_,_,d⟩,_⟩:=I.list h;obtain ⟨its',r',⟨o',n',e',_,_,d'⟩,_⟩:=I.list h';rw [e] at e';cases e';rw [d] at d';injection d' with d1 _
  have:its=its':=by simpa using congrArg Array.toList d1
  subst this;exact r.inj r'
theorem aF.tuple_inj (I:aF X pins σ H s) (h:gh X.K H a xs) (h':gh X.K H a ys):xs=ys:=by
  obtain ⟨its,r,⟨o,e,_,n,d⟩,_⟩:=I.tuple h;obtain ⟨its',r',⟨o',e',_,n',d'⟩,_⟩:=I.tuple h';rw [e] at e';cases e';rw [d] at d';injection d' with d1 _
  have:its=its':=by simpa using congrArg Array.toList d1
  subst this;exact r.inj r'
end
noncomputable abbrev Cx.wish (X:Cx) (E:Value->Shared->Prop):Cx:={ X with xe:=E }
noncomputable abbrev Cx.nox (X:Cx):Cx:=X.wish fun _ _=>False
theorem Cx.Ok.wish {X:Cx} (ok:X.Ok) (E:Value->Shared->Prop):(X.wish E).Ok :=
  ⟨ok.mod,ok.kind,ok.glob,ok.blt,ok.above,ok.inj,ok.has,ok.cab,ok.hd,ok.frames,ok.stk,ok.exf,ok.bs,ok.bsz,ok.noex,ok.exfs,ok.funs,ok.frf⟩
theorem Cx.Ok.unwish {X:Cx} {E:Value->Shared->Prop} (ok:(X.wish E).Ok):X.Ok :=
  ⟨ok.mod,ok.kind,ok.glob,ok.blt,ok.above,ok.inj,ok.has,ok.cab,ok.hd,ok.frames,ok.stk,ok.exf,ok.bs,ok.bsz,ok.noex,ok.exfs,ok.funs,ok.frf⟩
section
variable {X:Cx} {pins:List (Addr×Obj)} {σ:St} {H:Hp} {s:Shared} {E:Value->Shared->Prop}
theorem aF.wish (I:aF X pins σ H s) (E:Value->Shared->Prop):aF (X.wish E) pins σ H s:=⟨I.ok.wish E,I.os,I.bare,I.base,I.loc,I.cell,I.free,I.freeC,I.pin,I.hok,I.len⟩
theorem aF.unwish (I:aF (X.wish E) pins σ H s):aF X pins σ H s:=⟨I.ok.unwish,I.os,I.bare,I.base,I.loc,I.cell,I.free,I.freeC,I.pin,I.hok,I.len⟩
theorem SP.unwish {D:s9} {f:Flow} {s':Shared} (h:SP (X.wish E) pins D f s'):SP X pins D f s':=by
  cases f with
  | next=>obtain ⟨σ',H',I,q⟩:=h;exact ⟨σ',H',I.unwish,q⟩
  | brk=>obtain ⟨σ',H',I,q⟩:=h;exact ⟨σ',H',I.unwish,q⟩
  | cont=>obtain ⟨σ',H',I,q⟩:=h;exact ⟨σ',H',I.unwish,q⟩
  | ret u=>obtain ⟨v,σ',H',I,r,q⟩:=h;exact ⟨v,σ',H',I.unwish,r,q⟩
theorem PE.nox {e:Expr} {t:TE} (h:PE X.nox e t):PE X e t:=fun pins s σ H Q I hw =>
  wpAny_mono (h pins s σ H Q (I.wish _) hw) (fun _ _ ⟨v,H',I',r,q⟩=>⟨v,H',I'.unwish,r,q⟩) fun _ _ z=>False.elim z
theorem PT.nox {e:Expr} {t:TT} (h:PT X.nox e t):PT X e t:=fun pins s σ H Q I hw =>
  wpAny_mono (h pins s σ H Q (I.wish _) hw) (fun _ _ ⟨H',I',q⟩=>⟨H',I'.unwish,q⟩) fun _ _ z=>False.elim z
theorem p0.nox {st:List Stmt} {t:TS} (h:p0 X.nox st t):p0 X st t:=fun pins s σ H D I hw =>
  wpAny_mono (h pins s σ H D (I.wish _) hw) (fun _ _ q=>q.unwish) fun _ _ z=>False.elim z
end
section
variable {X:Cx} {st:Stmt} {dW:List Stmt} {t u:TS} {e:Expr} {te:TE} {pos:Pos}
noncomputable def DM:TS:=fun D σ H=>D.nx σ H
noncomputable def EV (t u:TS):TS:=fun D σ H=>t { D with nx:=u D } σ H
theorem AS:p0 X [] DM:=fun _ _ σ H _ I h=>wpAny_execs_nil ⟨σ,H,I,h⟩
theorem l7 (h1:PS X st t) (h2:p0 X dW u):p0 X (st::dW) (EV t u):=by
  intro pins s σ H D I h;refine wpAny_execs_cons (df (h1 pins s σ H { D with nx:=u D } I h) fun f s1 q=>?_);cases f with
  | next =>
    obtain ⟨σ',H',I',q⟩:=q;exact h2 pins s1 σ' H' D I' q
  | ret v=>exact q
  | brk=>exact q
  | cont=>exact q
theorem uU (h1:PS X st t):p0 X [st] t:=by
  intro pins s σ H D I h;refine wpAny_execs_cons (df (h1 pins s σ H D I h) fun f s1 q=>?_);cases f with
  | next=>exact wpAny_execs_nil q
  | ret v=>exact q
  | brk=>exact q
  | cont=>exact q
theorem aF.quiet {pins:List (Addr×Obj)} {σ:St} {H:Hp} {s:Shared} (I:aF X pins σ H s):interactive X.env=false:=by simp [interactive,I.ok.kind]
noncomputable def Dm (te:TE):TS:=fun D σ H=>te σ H fun _ H1=>D.nx σ H1
theorem AK (he:PE X e te) (hs:swapsWith e none pos.line X.env=pure false:=by rfl):PS X (.Expr e pos) (Dm te):=by
  intro pins s σ H D I h;exact wpAny_Expr_any (df (he pins s σ H _ I h) fun v s1 ⟨x,H1,I1,r1,q1⟩=>⟨σ,H1,I1,q1⟩) I.quiet hs
noncomputable def EN (te:TE):TS:=fun D σ H=>te σ H D.rt
theorem Cg (he:PE X e te):PS X (.Return (some e) pos) (EN te):=by
  intro pins s σ H D I h;exact wpAny_Return_some (df (he pins s σ H _ I h) fun v s1 ⟨x,H1,I1,r1,q1⟩=>⟨x,σ,H1,I1,r1,q1⟩)
noncomputable def E6 (c:TT) (t u:TS):TS:=fun D σ H=>c σ H fun b H1=>if b=true then t D σ H1 else u D σ H1
theorem El {c:Expr} {a b:List Stmt} {tc:TT} (hc:PT X c tc) (ha:p0 X a t) (hb:p0 X b u):PS X (.If c a b pos) (E6 tc t u):=by
  intro pins s σ H D I h;refine wpAny_If (df (hc pins s σ H _ I h) fun d s1 ⟨H1,I1,q1⟩=>?_);cases d with
  | true=>exact ha pins s1 σ H1 D I1 q1
  | false=>exact hb pins s1 σ H1 D I1 q1
end
noncomputable abbrev TG:=V->St->Hp->(St->Hp->Prop)->Prop
noncomputable abbrev Ct:=List V->St->Hp->(St->Hp->Prop)->Prop
noncomputable def PG (X:Cx) (target:Expr) (t:TG):Prop :=
  ∀ (pins:List (Addr×Obj)) (s:Shared) (σ:St) (H:Hp) (v:V) (u:Value) (Q:St->Hp->Prop),aF X pins σ H s->bL v u->t v σ H Q ->
    wpAny (model X.prog X.w) X.A (assign target X.env u) (fun _ s'=>∃ σ' H',aF X pins σ' H' s'/\Q σ' H') X.xe s
noncomputable def Eu (X:Cx) (ts:List Expr) (t:Ct):Prop :=
  ∀ (pins:List (Addr×Obj)) (s:Shared) (σ:St) (H:Hp) (vs:List V) (us:List Value) (Q:St->Hp->Prop),aF X pins σ H s->bB vs us->t vs σ H Q ->
    wpAny (model X.prog X.w) X.A (assignInOrder ((assignEach ts X.env).map (·.2)) us) (fun _ s'=>∃ σ' H',aF X pins σ' H' s'/\Q σ' H') X.xe s
noncomputable abbrev B1:=V->V->V->Hp->(Hp->Prop)->Prop
noncomputable def DQ (X:Cx) (t:B1):Prop :=
  ∀ (pins:List (Addr×Obj)) (s:Shared) (σ:St) (H:Hp) (o i v:V) (ov iv u:Value) (Q:Hp->Prop),aF X pins σ H s->bL o ov->bL i iv->bL v u->t o i v H Q ->
    wpAny (model X.prog X.w) X.A (setItem ov iv u) (fun _ s'=>∃ H',aF X pins σ H' s'/\Q H') X.xe s
noncomputable abbrev EF:=V->V->Hp->VK->Prop
noncomputable def E7 (X:Cx) (op:Operator) (t:EF):Prop :=
  ∀ (pins:List (Addr×Obj)) (s:Shared) (σ:St) (H:Hp) (x y:V) (v u:Value) (Q:VK),aF X pins σ H s->bL x v->bL y u->t x y H Q ->
    wpAny (model X.prog X.w) X.A (inplaceOp op v u) (EP X pins σ Q) X.xe s
section
variable {X:Cx} {pos:Pos}
noncomputable def Bh (i:Nat):TG:=fun v σ H Q=>Q (σ.set i (some v)) H
theorem pC {i:Nat} {x:Str} (hN:X.N.Nodup) (hi:X.N[i]?=some x) (hx:A8 X.env.scope x) (hf:X.fn x=true\/X.env.scope.names.lookup x=some .local:=by first | exact .inl rfl | exact .inr rfl | assumption):PG X (.Name x pos) (Bh i):=by
  intro pins s σ H v u Q I r h;exact wpAny_assign_Name (ma I hN hi hx r (fun s' I'=>⟨_,H,I',h⟩) hf)
noncomputable def E3:Ct:=fun vs σ H Q=>vs=[]/\Q σ H
noncomputable def DC (t:TG) (u:Ct):Ct:=fun vs σ H Q=>∃ v r,vs=v::r/\t v σ H fun σ' H'=>u r σ' H' Q
theorem AX:Eu X [] E3:=by
  intro pins s σ H vs us Q I r h;obtain ⟨e,h⟩:=h;subst e;cases r;exact assignInOrder_nil ⟨σ,H,I,h⟩
theorem re {e:Expr} {es:List Expr} {t:TG} {u:Ct} (h1:PG X e t) (h2:Eu X es u)
    (hs:(assignEach (e::es) X.env).map (·.2)=assign e X.env::(assignEach es X.env).map (·.2):=by rfl):Eu X (e::es) (DC t u):=by
  intro pins s σ H vs us Q I r h;obtain ⟨v,vr,e1,h⟩:=h;subst e1;cases r with
  | cons r rr =>
    rw [hs];refine assignInOrder_cons (df (h1 pins s σ H _ _ _ I r h) fun _ s1 ⟨σ1,H1,I1,q1⟩=>?_);exact h2 pins s1 σ1 H1 _ _ Q I1 rr q1
noncomputable def EY (K:PySem.W.Frag) (n:Nat) (t:Ct):TG:=fun v σ H Q=>∃ a xs,v=.ref a/\gh K H a xs/\xs.length=n/\t xs σ H Q
theorem BH {es:List Expr} {k:Nat} {t:Ct} {n:Nat} (hc:X.calm=true) (h:Eu X es t)
    (hn:(assignEach es X.env).length=n:=by rfl) (hst:(assignEach es X.env).findIdx? (·.1)=none:=by rfl):PG X (.Tuple es k pos) (EY X.K n t):=by
  intro pins s σ H v u Q I r hw;obtain ⟨a,xs,e1,hq,hl,hw⟩:=hw;subst e1;cases r;obtain ⟨its,rv,ht,hz⟩:=I.tuple hq;refine assign_Tuple_tuple (I.ok.hd hc) ht (by simp [hn,<- hl,rv.length]) hst fun h' hx=>?_
  have I1:aF X pins σ H { s with heap:=h' }:=I.kept (t':=s.toks) fun b o e=>hx b o (Nat.ne_of_lt (Heap.lt_size e)) e
  exact h pins _ σ H xs _ Q I1 (by simpa using rv) hw
noncomputable def Fd (to ti:TE) (t:B1):TG:=fun v σ H Q=>to σ H fun o H1=>ti σ H1 fun i H2=>t o i v H2 fun H3=>Q σ H3
theorem CB {o i:Expr} {to ti:TE} {t:B1} (ho:PE X o to) (hi:PE X i ti) (hs:DQ X t)
    (ha:∀ v,assign (.Subscript o i pos) X.env v=(do
      let ov <- holding [v] (eval o X.env)
      let iv <- holding [v,ov] (eval i X.env)
      standAt pos
      holding [v,ov,iv] (setItem ov iv v)
      release [v,ov,iv] []):=by intro _;rfl):PG X (.Subscript o i pos) (Fd to ti t):=by
  intro pins s σ H v u Q I r h;rw [ha];refine wpAny_bind (wpAny_holding (df (ho pins s σ H _ I h) fun ov s1 ⟨x,H1,I1,r1,q1⟩=>?_));refine wpAny_bind (wpAny_holding (df (hi pins s1 σ H1 _ I1 q1) fun iv s2 ⟨y,H2,I2,r2,q2⟩=>?_));refine wpAny_bind (wpAny_standAt (wpAny_bind (wpAny_holding (df (hs pins s2 σ H2 x y v ov iv u _ I2 r1 r2 r q2) fun _ s3 ⟨H3,I3,q3⟩=>?_))));exact wpAny_release ⟨σ,H3,I3,q3⟩
noncomputable def Dl (te:TE) (g:TG):TS:=fun D σ H=>te σ H fun x H1=>g x σ H1 D.nx
theorem Cf {tg e:Expr} {te:TE} {g:TG} (he:PE X e te) (hg:PG X tg g) (hs:swapsWithSole [tg] e pos.line X.env=pure false:=by rfl) (hw:swappedStores [tg] e X.env=pure none:=by rfl)
    (h1:(assignEach [tg] X.env).map (·.2)=[assign tg X.env]:=by rfl):PS X (.Assign [tg] e pos) (Dl te g):=by
  intro pins s σ H D I h;refine wpAny_Assign_stores (df (he pins s σ H _ I h) fun v s1 ⟨x,H1,I1,r1,q1⟩=>?_) hs hw;rw [h1];exact df (hg pins s1 σ H1 x v _ I1 r1 q1) fun _ s2 q=>q
theorem wV {i:Nat} {x:Str} {e:Expr} {te:TE} {pos':Pos} (hN:X.N.Nodup) (hi:X.N[i]?=some x) (hx:A8 X.env.scope x) (he:PE X e te) (hs:swapsWith e (some (.Name x pos')) pos.line X.env=pure false:=by rfl) (hf:X.fn x=true\/X.env.scope.names.lookup x=some .local:=by first | exact .inl rfl | exact .inr rfl | assumption) :
    PS X (.Assign [.Name x pos'] e pos) (Dl te (Bh i)):=by
  intro pins s σ H D I h;refine wpAny_Assign_Name (df (he pins s σ H _ I h) fun v s1 ⟨y,H1,I1,r1,q1⟩=>?_) hs;exact ma I1 hN hi hx r1 (fun s2 I2=>⟨_,H1,I2,q1⟩) hf
noncomputable def Fq (i:Nat) (te:TE) (ti:EF):TS:=fun D σ H=>∃ x,σ[i]?=some (some x)/\te σ H fun y H1=>ti x y H1 fun z H2=>D.nx (σ.set i (some z)) H2
theorem Bs {i:Nat} {x:Str} {e:Expr} {te:TE} {op:Operator} {ti:EF} {pos':Pos} (hN:X.N.Nodup) (hi:X.N[i]?=some x) (hx:A8 X.env.scope x) (he:PE X e te) (ho:E7 X op ti) (hf:X.fn x=true\/X.env.scope.names.lookup x=some .local:=by first | exact .inl rfl | exact .inr rfl | assumption) :
    PS X (.AugAssign (.Name x pos') op e pos) (Fq i te ti):=by
  intro pins s σ H D I h;obtain ⟨v,e1,h⟩:=h;obtain ⟨m,hn,hl⟩:=I.loc;have vis:CI X.env.scope x:=by rcases hx with k | k;exact .inl k;exact .inr (.inl k)
  obtain ⟨u,r,l⟩:=hl i x v hi e1 vis;refine wpAny_AugAssign_Name ?_;have go:wpAny (model X.prog X.w) X.A (eval e X.env) (fun w s₂=>wpAny (model X.prog X.w) X.A (inplaceOp op u w) (fun r s₃=>wpAny (model X.prog X.w) X.A (storeName X.env x r) (fun _=>SP X pins D .next) X.xe s₃) X.xe s₂) X.xe s:=by
    refine df (he pins s σ H _ I h) fun w s1 ⟨y,H1,I1,r1,q1⟩=>?_
    refine df (ho pins s1 σ H1 v y u w _ I1 r r1 q1) fun z s2 ⟨zv,H2,I2,r2,q2⟩=>?_
    exact ma I2 hN hi hx r2 (fun s3 I3=>⟨_,H2,I3,q2⟩) hf
  rcases l with ⟨hk,hm⟩ | ⟨hk,c,hc,hcell⟩
  · exact wpAny_loadName_local I.ok.kind hk hn hm go
  · rcases hk with hk | hk
    · exact wpAny_loadName_cell I.ok.kind hk hc hcell go
    · rcases hx with k | k
      · have:X.env.scope.names.lookup x=some .free:=hk;rw [k] at this;cases this
      · have:X.env.scope.names.lookup x=some .free:=hk;rw [k] at this;cases this
noncomputable def FB (f:Int->Int->Int):EF:=fun x y H Q=>∃ i j,x=.int i/\y=.int j/\Q (.int (f i j)) H
theorem BI:E7 X .Add (FB fun i j=>i+j):=by
  intro pins s σ H x y v u Q I r1 r2 h;obtain ⟨i,j,e1,e2,q⟩:=h;subst e1;subst e2;obtain ⟨t,rfl⟩:=r1;obtain ⟨t',rfl⟩:=r2;exact iadd_int ⟨.int _,H,I.tok _,⟨_,rfl⟩,q⟩
end
section
variable {X:Cx} {pos:Pos}
noncomputable def BD (c:TT) (tb:TS):TS:=fun D σ H=>∃ W:Nat->St->Hp->Prop,(∃ m,W m σ H)/\∀ m σ H,W m σ H ->
  c σ H fun b H1=>if b=true then ∃ N:St->Hp->Prop,(∀ σ' H',N σ' H'->∃ m',m' < m/\W m' σ' H')/\tb { D with nx:=N,ct:=N,bk:=D.nx } σ H1 else D.nx σ H1
theorem xF {c:Expr} {body:List Stmt} {tc:TT} {tb:TS} (hp:PassesOwn (model X.prog X.w) X.A X.env X.xe) (hc:PT X c tc) (hb:p0 X body tb):PS X (.While c body [] pos) (BD tc tb):=by
  intro pins s σ H D I h;obtain ⟨W,⟨m0,w0⟩,turn⟩:=h;refine wpAny_While (codeAny_whileLoop (fun n s'=>∃ σ' H',aF X pins σ' H' s'/\W n σ' H') ?_ m0 ⟨σ,H,I,w0⟩);rintro n s1 ⟨σ1,H1,I1,w1⟩;refine wpAny_passesOwn hp (df (hc pins s1 σ1 H1 _ I1 (turn n σ1 H1 w1)) fun b s2 ⟨H2,I2,q2⟩=>?_);cases b with
  | true =>
    obtain ⟨N,hN,q2⟩:=q2;rw [if_pos rfl];refine wpAny_passesOwn hp (df (hb pins s2 σ1 H2 _ I2 q2) fun f s3 q3=>?_);cases f with
    | next =>
      obtain ⟨σ3,H3,I3,n3⟩:=q3;obtain ⟨m',hm,w3⟩:=hN σ3 H3 n3;exact ⟨m',hm,σ3,H3,I3,w3⟩
    | cont =>
      obtain ⟨σ3,H3,I3,n3⟩:=q3;obtain ⟨m',hm,w3⟩:=hN σ3 H3 n3;exact ⟨m',hm,σ3,H3,I3,w3⟩
    | brk=>exact q3
    | ret v=>exact q3
  | false =>
    rw [if_neg Bool.false_ne_true];exact wpAny_execs_nil ⟨σ1,H2,I2,q2⟩
end
structure It where
  go:Nat->Hp->Prop
  yld:Nat->Hp->V->Hp->Prop
  stop:Nat->Hp->Prop
noncomputable def lK (X:Cx) (pins:List (Addr×Obj)) (H:Hp) (b:Addr):Prop :=
  H b=none/\b≠X.env.locals/\b∉X.fs/\(b∈X.ex\/X.s₀.heap.objs.size<=b)/\(∀ x c,X.env.cells.lookup x=some c->c≠b)/\∀ p∈X.pn++pins,p.1≠b
theorem aF.fpOk {X:Cx} {pins:List (Addr×Obj)} {σ:St} {H H':Hp} {s:Shared} {b:Addr} (I:aF X pins σ H s) (hb:s.heap.objs.size<=b) (hn:H' b=none):lK X pins H' b:=by
  refine ⟨hn,Nat.ne_of_gt (Nat.lt_of_lt_of_le I.lt hb),I.nofs hb,.inr (Nat.le_trans I.sz hb),fun x c e z=>?_,fun p hp z=>?_⟩
  · obtain ⟨v,q⟩:=I.cell x c e;exact absurd (Nat.lt_of_lt_of_le q.lt (by rw [z];exact hb)) (Nat.lt_irrefl _)
  · exact absurd (Nat.lt_of_lt_of_le (Heap.lt_size (I.pin p hp).1) (by rw [z];exact hb)) (Nat.lt_irrefl _)
structure rd (P:Program) (w:World) (K:PySem.W.Frag) (tg:Expr) (J:It) (fp:List Addr) (it:Addr) (tn:Nat->Heap->Prop):Prop where
  mem:it∈fp
  obj:∀ i h,tn i h->∀ b∈fp,∃ o,h.get? b=some o/\∀ v,o.data≠.cell v
  keep:∀ i h h',tn i h->(∀ b∈fp,∀ o,h.get? b=some o->h'.get? b=some o)->tn i h'
  item:∀ (X:Cx),X.prog=P->X.w=w->X.K=K->X.calm=true->∀ (i:Nat) (pins:List (Addr×Obj)) (s:Shared) (σ:St) (H:Hp) (E:Value->Shared->Prop),aF X pins σ H s->(∀ b∈fp,lK X pins H b)->tn i s.heap->J.go i H ->
    wpAny (model P w) X.A (pyNext (.ref it)) (fun r s1=>∃ u,r=some u /\
      wpAny (model P w) X.A (letOwnedTupleGo tg (.ref it) u) (fun _ s2=>∃ x H',aF X pins σ H' s2/\bL x u/\J.yld i H x H'/\tn (i+1) s2.heap/\∀ b∈fp,H' b=none) E s1) E s
  done:∀ (X:Cx),X.prog=P->X.w=w->X.K=K->X.calm=true->∀ (i:Nat) (pins:List (Addr×Obj)) (s:Shared) (σ:St) (H:Hp) (E:Value->Shared->Prop),aF X pins σ H s->(∀ b∈fp,lK X pins H b)->tn i s.heap->J.stop i H ->
    wpAny (model P w) X.A (pyNext (.ref it)) (fun r s1=>r=none/\aF X pins σ H s1) E s
  self:∀ (A:Around) (i:Nat) (s:Shared) (Q:Value->Shared->Prop) (E:Value->Shared->Prop),tn i s.heap->Q (.ref it) s->wpAny (model P w) A (pyIter (.ref it)) Q E s
noncomputable abbrev TI:=St->Hp->(It->Hp->Prop)->Prop
noncomputable def Fv (X:Cx) (pins:List (Addr×Obj)) (σ:St) (tg:Expr) (R:It->Hp->Prop) (itv:Value) (s2:Shared):Prop :=
  ∃ (it:Addr) (fp:List Addr) (tn:Nat->Heap->Prop) (J:It) (H':Hp),itv=.ref it/\aF X pins σ H' s2/\rd X.prog X.w X.K tg J fp it tn/\tn 0 s2.heap/\(∀ b∈fp,lK X pins H' b)/\R J H'
noncomputable def PI (X:Cx) (tg iter:Expr) (wi:TI):Prop :=
  ∀ (pins:List (Addr×Obj)) (s:Shared) (σ:St) (H:Hp) (R:It->Hp->Prop),aF X pins σ H s->wi σ H R ->
    wpAny (model X.prog X.w) X.A (eval iter X.env) (fun v s1=>wpAny (model X.prog X.w) X.A (pyIter v) (Fv X pins σ tg R) X.xe s1) X.xe s
theorem uH {M:Model} {A:Around} {E:Value->Shared->Prop} {s:Shared} {tg:Expr} {it:Addr} {u:Value} {o:Obj} {n:String} {vs:Array Value} {Q:Unit->Shared->Prop} (ho:s.heap.get? it=some o) (hc:o.cls=.type n) (hd:o.data=.fields vs)
    (hn:["enumerate","zip","dict_itemiterator","dict_reverseitemiterator","odict_iterator","itertools.zip_longest","itertools.pairwise"].contains n=false) (hQ:Q () s):wpAny M A (letOwnedTupleGo tg (.ref it) u) Q E s:=by
  unfold letOwnedTupleGo;cases tg <;> first
    | exact wpAny_pure hQ
    | (cases u <;> first
        | exact wpAny_pure hQ
        | (refine wpAny_bind (wpAny_load ho ?_)
           rw [hc,hd];show wpAny M A (if (["enumerate","zip","dict_itemiterator","dict_reverseitemiterator","odict_iterator","itertools.zip_longest","itertools.pairwise"].contains n&&vs[0]?==some (rawInt _))=true then _ else _) Q E s;rw [if_neg (by intro h;rw [hn,Bool.false_and] at h;cases h)];exact wpAny_pure hQ))
noncomputable def Fi (K:PySem.W.Frag) (a:Addr):It :=
  ⟨fun i H=>∃ xs x,kx K H a xs/\xs[i]?=some x,fun i H x H'=>H'=H/\∀ xs,kx K H a xs->xs[i]?=some x,fun i H=>∃ xs,kx K H a xs/\xs.length<=i⟩
noncomputable def EZ (K:PySem.W.Frag) (a:Addr):It :=
  ⟨fun i H=>∃ xs x,gh K H a xs/\xs[i]?=some x,fun i H x H'=>H'=H/\∀ xs,gh K H a xs->xs[i]?=some x,fun i H=>∃ xs,gh K H a xs/\xs.length<=i⟩
noncomputable def Er (lo:Int) (n:Nat):It:=⟨fun i _=>i < n,fun i H x H'=>H'=H/\x=.int (lo+i),fun i _=>n<=i⟩
theorem v9 {P:Program} {w:World} {K:PySem.W.Frag} {tg:Expr} (a it:Addr):rd P w K tg (Fi K a) [it] it (fun i h=>h.IsListIter it a i) where
  mem:=by simp
  obj:=fun i h st b hb=>by
    have e:b=it:=by simpa using hb
    subst e;obtain ⟨o,e,c,d⟩:=st;exact ⟨o,e,fun v z=>by rw [d] at z;cases z⟩
  keep:=fun i h h' st k=>st.at fun o e=>k it (by simp) o e
  item:=by
    intro X hP hw hK hc i pins s σ H E I hf st hg;subst hP hw hK;obtain ⟨xs,x,hq,hx⟩:=hg;obtain ⟨its,rv,p,hz⟩:=I.list hq;obtain ⟨u,hu,ru⟩:=rv.get hx;obtain ⟨f0,f1,f2,f3,f4,f5⟩:=hf it (by simp);refine wpAny_pyNext_list_item st p.isList (x:=u) (by simpa using hu) fun h' st' sb=>?_
    have I1:aF X pins σ H { s with heap:=h' }:=I.turned (t':=s.toks) (fun b o hb e=>(sb.2 b hb).trans e) f0 f1 f3 f4 f5;obtain ⟨o,e,c,d⟩:=id st';exact ⟨u,rfl,uH (s:={ s with heap:=h' }) e c d (by decide) ⟨x,H,I1,ru,⟨rfl,fun ys hy=>by rw [I.list_inj hy hq];exact hx⟩,st',fun b hb=>(hf b hb).1⟩⟩
  done:=by
    intro X hP hw hK hc i pins s σ H E I hf st hg;subst hP hw hK;obtain ⟨xs,hq,hx⟩:=hg;obtain ⟨its,rv,p,hz⟩:=I.list hq;obtain ⟨f0,f1,f2,f3,f4,f5⟩:=hf it (by simp);have hl:=rv.length;exact wpAny_pyNext_list_end (I.ok.hd hc) st p.isList (by simp;omega) fun h' eb=>⟨rfl,I.turned (t':=s.toks) (fun b o hb e=>eb b o hb e) f0 f1 f3 f4 f5⟩
  self:=fun _ _ _ _ _ st h=>wpAny_pyIter_listiter st h
theorem tm {P:Program} {w:World} {K:PySem.W.Frag} {tg:Expr} (a it:Addr):rd P w K tg (EZ K a) [it] it (fun i h=>h.IsTupleIter it a i) where
  mem:=by simp
  obj:=fun i h st b hb=>by
    have e:b=it:=by simpa using hb
    subst e;obtain ⟨o,e,c,d⟩:=st;exact ⟨o,e,fun v z=>by rw [d] at z;cases z⟩
  keep:=fun i h h' st k=>st.at fun o e=>k it (by simp) o e
  item:=by
    intro X hP hw hK hc i pins s σ H E I hf st hg;subst hP hw hK;obtain ⟨xs,x,hq,hx⟩:=hg;obtain ⟨its,rv,p,hz⟩:=I.tuple hq;obtain ⟨u,hu,ru⟩:=rv.get hx;obtain ⟨f0,f1,f2,f3,f4,f5⟩:=hf it (by simp);refine wpAny_pyNext_tuple_item st (show s.heap.IsTuple a its.toArray from p) (x:=u) (by simpa using hu) fun h' st' sb=>?_
    have I1:aF X pins σ H { s with heap:=h' }:=I.turned (t':=s.toks) (fun b o hb e=>(sb.2 b hb).trans e) f0 f1 f3 f4 f5;obtain ⟨o,e,c,d⟩:=id st';exact ⟨u,rfl,uH (s:={ s with heap:=h' }) e c d (by decide) ⟨x,H,I1,ru,⟨rfl,fun ys hy=>by rw [I.tuple_inj hy hq];exact hx⟩,st',fun b hb=>(hf b hb).1⟩⟩
  done:=by
    intro X hP hw hK hc i pins s σ H E I hf st hg;subst hP hw hK;obtain ⟨xs,hq,hx⟩:=hg;obtain ⟨its,rv,p,hz⟩:=I.tuple hq;obtain ⟨f0,f1,f2,f3,f4,f5⟩:=hf it (by simp);have hl:=rv.length;exact wpAny_pyNext_tuple_end (I.ok.hd hc) st (show s.heap.IsTuple a its.toArray from p) (by simp;omega) fun h' eb=>⟨rfl,I.turned (t':=s.toks) (fun b o hb e=>eb b o hb e) f0 f1 f3 f4 f5⟩
  self:=fun _ _ _ _ _ st h=>wpAny_pyIter_tupleiter st h
theorem su {P:Program} {w:World} {K:PySem.W.Frag} {tg:Expr} (it:Addr) (lo:Int) (n:Nat):rd P w K tg (Er lo n) [it] it (fun i h=>IsRangeIter h it (lo+(i:Nat)*1) ((n:Int)-(i:Nat)) 1) where
  mem:=by simp
  obj:=fun i h st b hb=>by
    have e:b=it:=by simpa using hb
    subst e;exact ⟨_,st,fun v z=>by
      have z':Data.fields _=Data.cell v:=z;cases z'⟩
  keep:=fun i h h' st k=>k it (by simp) _ st
  item:=by
    intro X hP hw hK hc i pins s σ H E I hf st hg;subst hP hw hK;obtain ⟨f0,f1,f2,f3,f4,f5⟩:=hf it (by simp);have W:=Walks.range (prog:=X.prog) (w:=X.w) (I.ok.hd hc) it lo 1 n;refine W.item i s _ _ hg st fun v h' tk hv st' kk=>?_
    obtain ⟨t,rfl⟩:=hv;have I1:aF X pins σ H { s with heap:=h',toks:=tk }:=I.turned (fun b o hb e=>kk b o (by simpa using hb) e) f0 f1 f3 f4 f5;refine ⟨_,rfl,uH (s:={ s with heap:=h',toks:=tk }) (n := "range_iterator") st' rfl rfl (by decide) ⟨.int (lo+i),H,I1,⟨t,?_⟩,⟨rfl,rfl⟩,st',fun b hb=>(hf b hb).1⟩⟩;rw [Int.mul_one]
  done:=by
    intro X hP hw hK hc i pins s σ H E I hf st hg;subst hP hw hK;obtain ⟨f0,f1,f2,f3,f4,f5⟩:=hf it (by simp);exact wpAny_pyNext_range_end (I.ok.hd hc) st (by have:n<=i:=hg;omega) fun h' eb=>⟨rfl,I.turned (t':=s.toks) (fun b o hb e=>eb b o hb e) f0 f1 f3 f4 f5⟩
  self:=fun _ _ _ _ _ st h=>wpAny_pyIter_rangeiter st h
section
variable {X:Cx} {tg:Expr}
theorem yn {pins:List (Addr×Obj)} {σ:St} {H:Hp} {s:Shared} {R:It->Hp->Prop} {E:Value->Shared->Prop} {lo hi:Int} {t u v:Tok} {tk:Nat} (I:aF X pins σ H s) (h1:-(2 ^ 62)<=lo) (h2:lo < 2 ^ 62) (h3:-(2 ^ 62)<=hi) (h4:hi < 2 ^ 62)
    (q:R (Er lo (hi-lo).toNat) H):wpAny (model X.prog X.w) X.A (pyIter (.ref s.heap.objs.size)) (Fv X pins σ tg R) E { s with heap:=s.heap.push { cls:=.type "range",data:=.fields #[.int lo t,.int hi u,.int 1 v] },toks:=tk }:=by
  refine wpAny_pyIter_range (IsRange.new ..) (small_one h1 h2 h3 h4) ?_;have I1:aF X pins σ H { s with heap:=s.heap.push { cls:=.type "range",data:=.fields #[.int lo t,.int hi u,.int 1 v] },toks:=tk }:=I.kept fun b o e=>Heap.get?_push_of_some _ e
  refine ⟨(s.heap.push { cls:=.type "range",data:=.fields #[.int lo t,.int hi u,.int 1 v] }).objs.size,[(s.heap.push { cls:=.type "range",data:=.fields #[.int lo t,.int hi u,.int 1 v] }).objs.size],_,_,H,rfl,
    I1.kept (t':=tk) fun b o e=>Heap.get?_push_of_some _ e,su _ lo (hi-lo).toNat,?_,fun b hb=>?_,q⟩
  · have e1:lo+((0:Nat):Int)*1=lo:=by simp
    have e2:(((hi-lo).toNat:Nat):Int)-((0:Nat):Int)=Builtin.Range.rangeSize lo hi 1:=by rw [rangeSize_one];split <;> omega
    show IsRangeIter _ _ (lo+((0:Nat):Int)*1) ((((hi-lo).toNat:Nat):Int)-((0:Nat):Int)) 1;rw [e1,e2];exact Heap.get?_push_size _ rfl
  · have e:b=(s.heap.push { cls:=.type "range",data:=.fields #[.int lo t,.int hi u,.int 1 v] }).objs.size:=by simpa using hb
    subst e;exact I1.fpOk (Nat.le_refl _) (I1.hok.fresh (Nat.le_refl _))
noncomputable def Dx (ta:TA):TI:=fun σ H R=>ta σ H fun vs H1=>∃ j:Int,vs=[.int j]/\-(2 ^ 62)<=j/\j < 2 ^ 62/\R (Er 0 j.toNat) H1
theorem vB {a:Expr} {ta:TA} {p pos:Pos} (hg:Gl X "range") (hm:X.mg "range" = none) (ha:PA X [a] ta) (hs:starEach [a] X.env=[(false,eval a X.env)]:=by rfl):PI X tg (.Call (.Name "range" p) [a] [] pos) (Dx ta):=by
  intro pins s σ H R I h;refine Call_ (ie I hg hm boot_range (PyProof.Rows.callWith_type1 (df (ha pos pins s σ H _ I h) fun us s1 ⟨vs,H1,I1,r1,q1⟩=>?_) hs rfl));obtain ⟨j,e,q1,q2,q⟩:=q1;subst e;cases r1 with
  | cons r rr =>
    cases rr;obtain ⟨t,rfl⟩:=r;exact call_range_1 (yn I1 (by omega) (by omega) q1 q2 (by simpa using q))
noncomputable def Fh (wi:TI) (g:TG) (tb:TS):TS:=fun D σ H=>wi σ H fun J H1=>∃ W:Nat->Nat->St->Hp->Prop,(∃ m,W 0 m σ H1)/\∀ i m σ H,W i m σ H ->
  (J.stop i H/\D.nx σ H)\/(J.go i H/\∃ N:St->Hp->Prop,(∀ σ' H',N σ' H'->∃ m',m' < m/\W (i+1) m' σ' H')/\∀ x H',J.yld i H x H'->g x σ H' fun σ2 H2=>tb { D with nx:=N,ct:=N,bk:=D.nx } σ2 H2)
noncomputable def lX (fp:List Addr) (h:Heap):List (Addr×Obj):=fp.filterMap fun b=>(h.get? b).map fun o=>(b,o)
theorem io {fp:List Addr} {h:Heap} {b:Addr} {o:Obj} (hb:b∈fp) (e:h.get? b=some o):(b,o)∈lX fp h:=List.mem_filterMap.mpr ⟨b,hb,by rw [e];rfl⟩
theorem vx {fp:List Addr} {h:Heap} {p:Addr×Obj} (hp:p∈lX fp h):p.1∈fp/\h.get? p.1=some p.2:=by
  obtain ⟨b,hb,e⟩:=List.mem_filterMap.mp hp;cases q:h.get? b with
  | none=>rw [q] at e;cases e
  | some o =>
    rw [q] at e;have e':(b,o)=p:=Option.some.inj e;subst e';exact ⟨hb,q⟩
theorem aF.pinned {pins:List (Addr×Obj)} {σ:St} {H:Hp} {s:Shared} {fp:List Addr} (I:aF X pins σ H s) (hf:∀ b∈fp,lK X pins H b) (ho:∀ b∈fp,∃ o,s.heap.get? b=some o/\∀ v,o.data≠.cell v):aF X (pins++lX fp s.heap) σ H s :=
  I.pins_of fun p hp=>(List.mem_append.mp hp).elim (fun z=>I.pin p (List.mem_append_right _ z)) fun z=>by
    obtain ⟨hb,e⟩:=vx z;obtain ⟨f0,f1,f2,_⟩:=hf p.1 hb;obtain ⟨o,e',d⟩:=ho p.1 hb;rw [e] at e';cases e';exact ⟨e,f0,f1,f2,d⟩
theorem aF.unpinned {pins pl:List (Addr×Obj)} {σ:St} {H:Hp} {s:Shared} (I:aF X (pins++pl) σ H s):aF X pins σ H s:=I.pins_of fun p hp=>I.pin p (List.mem_append_right _ (List.mem_append_left _ hp))
theorem BA {iter:Expr} {body:List Stmt} {wi:TI} {g:TG} {tb:TS} {pos:Pos} (hp:PassesOwn (model X.prog X.w) X.A X.env X.xe) (hc:X.calm=true) (hi:PI X tg iter wi) (hg:PG X tg g) (hb:p0 X body tb)
    (hs:∀ x,foldedSetIterable iter X.env x=pure x:=by intro _;rfl):PS X (.For tg iter body [] pos) (Fh wi g tb):=by
  intro pins s σ H D I h;refine wpAny_For (df (hi pins s σ H _ I h) fun v s1 h1=>df h1 fun itv s2 h2=>?_) hs;obtain ⟨it,fp,tn,J,H2,e,I2,T,st2,f2,W,⟨m0,w0⟩,turn⟩:=h2;subst e
  -- what stays true of the iterator's objects through the loop
  have stat:∀ {H':Hp},(∀ b∈fp,H' b=none)->∀ b∈fp,lK X pins H' b:=fun hn b hb=>⟨hn b hb,(f2 b hb).2⟩
  refine codeAny_forLoop_any (fun n s'=>∃ i σ' H',aF X pins σ' H' s'/\tn i s'.heap/\(∀ b∈fp,H' b=none)/\W i n σ' H') ?_ m0 ⟨0,σ,H2,I2,st2,fun b hb=>(f2 b hb).1,w0⟩;rintro n s3 ⟨i,σ3,H3,I3,st3,fr3,w3⟩;rcases turn i n σ3 H3 w3 with ⟨stop,qn⟩ | ⟨go,N,hN,step⟩
  · refine wpAny_passesOwn hp (df (T.done X rfl rfl rfl hc i pins s3 σ3 H3 X.xe I3 (stat fr3) st3 stop) fun r s4 ⟨hr,I4⟩=>?_);subst hr;exact wpAny_execs_nil ⟨σ3,H3,I4,qn⟩
  · refine wpAny_passesOwn hp (df (T.item X rfl rfl rfl hc i pins s3 σ3 H3 X.xe I3 (stat fr3) st3 go) fun r s4 ⟨u,hr,h4⟩=>?_);subst hr;refine wpAny_passesOwn hp (df h4 fun _ s5 ⟨x,H5,I5,r5,y5,st5,fr5⟩=>?_);have I5':=I5.pinned (stat fr5) (T.obj _ _ st5);refine wpAny_passesOwn hp (df (hg _ s5 σ3 H5 x u _ I5' r5 (step x H5 y5)) fun _ s6 ⟨σ6,H6,I6,q6⟩=>?_);refine wpAny_passesOwn hp (df (hb _ s6 σ6 H6 _ I6 q6) fun f s7 q7=>?_);have again:∀ {σ7:St} {H7:Hp},aF X (pins++lX fp s5.heap) σ7 H7 s7->N σ7 H7->∃ m,m < n/\∃ i σ' H',aF X pins σ' H' s7/\tn i s7.heap/\(∀ b∈fp,H' b=none)/\W i m σ' H':=fun {σ7 H7} I7 n7=>by
      obtain ⟨m',hm,w7⟩:=hN σ7 H7 n7;refine ⟨m',hm,i+1,σ7,H7,I7.unpinned,T.keep _ _ _ st5 fun b hb o e=>(I7.pin (b,o) (List.mem_append_right _ (List.mem_append_right _ (io hb e)))).1,fun b hb=>?_,w7⟩;obtain ⟨o,e,d⟩:=T.obj _ _ st5 b hb;exact (I7.pin (b,o) (List.mem_append_right _ (List.mem_append_right _ (io hb e)))).2.1
    cases f with
    | next=>obtain ⟨σ7,H7,I7,n7⟩:=q7;exact again I7 n7
    | cont=>obtain ⟨σ7,H7,I7,n7⟩:=q7;exact again I7 n7
    | brk=>obtain ⟨σ7,H7,I7,q7⟩:=q7;exact ⟨σ7,H7,I7.unpinned,q7⟩
    | ret v=>obtain ⟨x7,σ7,H7,I7,r7,q7⟩:=q7;exact ⟨x7,σ7,H7,I7.unpinned,r7,q7⟩
end
noncomputable abbrev R2:=V->V->Hp->VK->Prop
noncomputable def jx (X:Cx) (f:Value->Value->Sem Value) (r:R2):Prop :=
  ∀ (pins:List (Addr×Obj)) (s:Shared) (σ:St) (H:Hp) (x y:V) (v u:Value) (Q:VK),aF X pins σ H s->bL x v->bL y u->r x y H Q ->
    wpAny (model X.prog X.w) X.A (f v u) (EP X pins σ Q) X.xe s
noncomputable def E8 (X:Cx) (f:Value->Sem Value) (r:V->Hp->VK->Prop):Prop :=
  ∀ (pins:List (Addr×Obj)) (s:Shared) (σ:St) (H:Hp) (x:V) (v:Value) (Q:VK),aF X pins σ H s->bL x v->r x H Q ->
    wpAny (model X.prog X.w) X.A (f v) (EP X pins σ Q) X.xe s
noncomputable def di (X:Cx) (f:Value) (r:List V->Hp->VK->Prop):Prop :=
  ∀ (pins:List (Addr×Obj)) (s:Shared) (σ:St) (H:Hp) (xs:List V) (us:List Value) (Q:VK),aF X pins σ H s->bB xs us->r xs H Q ->
    wpAny (model X.prog X.w) X.A (call f us) (EP X pins σ Q) X.xe s
noncomputable def Ea (r:R2) (ta tb:TE):TE:=fun σ H Q=>ta σ H fun x H1=>tb σ H1 fun y H2=>r x y H2 Q
noncomputable def Fx (r:V->Hp->VK->Prop) (ta:TE):TE:=fun σ H Q=>ta σ H fun x H1=>r x H1 Q
noncomputable def rI (C:Int->Int->Prop) (g:Int->Int->V):R2:=fun x y H Q=>∃ i j,x=.int i/\y=.int j/\C i j/\Q (g i j) H
noncomputable def zr (g:Int->Int->V):R2:=fun x y H Q=>∃ i j,x=.int i/\y=.int j/\Q (g i j) H
noncomputable def rU (g:Int->V):V->Hp->VK->Prop:=fun x H Q=>∃ i,x=.int i/\Q (g i) H
section
variable {X:Cx} {a b c:Expr} {ta tb tc:TE} {pos:Pos}
theorem Cp (ha:PE X a ta) (hb:PE X b tb) {pins:List (Addr×Obj)} {s:Shared} {σ:St} {H:Hp} {R:V->V->Hp->Prop} (I:aF X pins σ H s)
    (h:ta σ H fun x H1=>tb σ H1 fun y H2=>R x y H2) {Q:Value->Shared->Prop} {f:Value->Value->Sem Value}
    (hf:∀ v u s2 x y H2,aF X pins σ H2 s2->bL x v->bL y u->R x y H2->wpAny (model X.prog X.w) X.A (f v u) Q X.xe s2) :
    wpAny (model X.prog X.w) X.A (eval a X.env) (fun v s₁=>wpAny (model X.prog X.w) X.A (eval b X.env) (fun u s₂=>wpAny (model X.prog X.w) X.A (f v u) Q X.xe s₂) X.xe s₁) X.xe s:=by
  refine df (ha pins s σ H _ I h) fun v s1 ⟨x,H1,I1,r1,q1⟩=>?_
  refine df (hb pins s1 σ H1 _ I1 q1) fun u s2 ⟨y,H2,I2,r2,q2⟩=>?_
  exact hf v u s2 x y H2 I2 r1 r2 q2
theorem Dg {op:Operator} {r:R2} (ho:jx X (binaryOp op) r) (ha:PE X a ta) (hb:PE X b tb):PE X (.BinOp a op b pos) (Ea r ta tb):=by
  intro pins s σ H Q I h;exact wpAny_BinOp (Cp ha hb I h fun v u s2 x y H2 I2 rx ry q=>ho pins s2 σ H2 x y v u Q I2 rx ry q)
theorem Do {op:UnaryOp} {r:V->Hp->VK->Prop} (ho:E8 X (unaryOp op) r) (ha:PE X a ta):PE X (.UnaryOp op a pos) (Fx r ta):=by
  intro pins s σ H Q I h;exact UnaryOp_ (df (ha pins s σ H _ I h) fun v s1 ⟨x,H1,I1,r1,q1⟩=>ho pins s1 σ H1 x v Q I1 r1 q1)
theorem EH {f:Value->Value->Sem Value} {C:Int->Int->Prop} {g:Int->Int->Int}
    (rule:∀ (i j:Int) (t u:Tok) (s:Shared) (Q:Value->Shared->Prop) (E:Value->Shared->Prop),C i j->Q (.int (g i j) s.toks) { s with toks:=s.toks+1 }->wpAny (model X.prog X.w) X.A (f (.int i t) (.int j u)) Q E s) :
    jx X f (rI C fun i j=>.int (g i j)):=by
  intro pins s σ H x y v u Q I rx ry h;obtain ⟨i,j,rfl,rfl,hc,q⟩:=h;obtain ⟨t,rfl⟩:=rx;obtain ⟨t',rfl⟩:=ry;exact rule i j t t' s _ _ hc ⟨.int (g i j),H,I.tok _,⟨_,rfl⟩,q⟩
theorem D0 {f:Value->Value->Sem Value} {g:Int->Int->Int}
    (rule:∀ (i j:Int) (t u:Tok) (s:Shared) (Q:Value->Shared->Prop) (E:Value->Shared->Prop),Q (.int (g i j) s.toks) { s with toks:=s.toks+1 }->wpAny (model X.prog X.w) X.A (f (.int i t) (.int j u)) Q E s) :
    jx X f (zr fun i j=>.int (g i j)):=by
  intro pins s σ H x y v u Q I rx ry h;obtain ⟨i,j,rfl,rfl,q⟩:=h;obtain ⟨t,rfl⟩:=rx;obtain ⟨t',rfl⟩:=ry;exact rule i j t t' s _ _ ⟨.int (g i j),H,I.tok _,⟨_,rfl⟩,q⟩
theorem Dh {f:Value->Value->Sem Value} {g:Int->Int->Bool}
    (rule:∀ (i j:Int) (t u:Tok) (s:Shared) (Q:Value->Shared->Prop) (E:Value->Shared->Prop),Q (.bool (g i j)) s->wpAny (model X.prog X.w) X.A (f (.int i t) (.int j u)) Q E s) :
    jx X f (zr fun i j=>.bl (g i j)):=by
  intro pins s σ H x y v u Q I rx ry h;obtain ⟨i,j,rfl,rfl,q⟩:=h;obtain ⟨t,rfl⟩:=rx;obtain ⟨t',rfl⟩:=ry;exact rule i j t t' s _ _ ⟨.bl (g i j),H,I,rfl,q⟩
noncomputable def DW (i j:Int):Prop:=0 < j/\j < 1073741824
noncomputable def zI (i j:Int):Prop:=(-(2 ^ 64) < i/\i < 2 ^ 64)\/(-(2 ^ 64) < j/\j < 2 ^ 64)
theorem zI.ok {i j:Int} (h:zI i j):IntMulOk i j:=by
  rcases h with ⟨h1,h2⟩ | ⟨h1,h2⟩
  · exact .of_left (intBits_le_64 h1 h2)
  · exact .of_right (intBits_le_64 h1 h2)
theorem Cc:jx X (binaryOp .Add) (zr fun i j=>.int (i+j)):=D0 fun _ _ _ _ _ _ _ q=>add_int q
theorem CV:jx X (binaryOp .Sub) (zr fun i j=>.int (i-j)):=D0 fun _ _ _ _ _ _ _ q=>sub_int q
theorem By:jx X (binaryOp .Mult) (rI zI fun i j=>.int (i*j)):=EH fun _ _ _ _ _ _ _ hc q=>mul_int q hc.ok
theorem AY:jx X (binaryOp .FloorDiv) (rI DW fun i j=>.int (i / j)):=EH fun i j _ _ _ _ _ hc q=>by
  have h1:(0:Int) < j:=hc.1;have h2:j < 1073741824:=hc.2;exact floordiv_int (by omega) (by rw [Int.fdiv_eq_ediv_of_nonneg i (by omega)];exact q) (.inl (PyProof.noPylong_small (by omega)))
theorem BN:jx X (binaryOp .Mod) (rI (fun _ j=>0 < j) fun i j=>.int (i%j)):=EH fun i j _ _ _ _ _ hc q=>by
  have h1:(0:Int) < j:=hc;exact mod_int' (by omega) (by rw [Int.fmod_eq_emod_of_nonneg i (by omega)];exact q)
theorem FL {f:Value->Sem Value} {g:Int->Int}
    (rule:∀ (i:Int) (t:Tok) (s:Shared) (Q:Value->Shared->Prop) (E:Value->Shared->Prop),Q (.int (g i) s.toks) { s with toks:=s.toks+1 }->wpAny (model X.prog X.w) X.A (f (.int i t)) Q E s) :
    E8 X f (rU fun i=>.int (g i)):=by
  intro pins s σ H x v Q I rx h;obtain ⟨i,rfl,q⟩:=h;obtain ⟨t,rfl⟩:=rx;exact rule i t s _ _ ⟨.int (g i),H,I.tok _,⟨_,rfl⟩,q⟩
theorem Bv:E8 X (unaryOp .USub) (rU fun i=>.int (-i)):=FL fun _ _ _ _ _ q=>neg_int q
end
section
variable {X:Cx} {a b c:Expr} {ta tb tc:TE} {pos:Pos}
theorem xV {pins:List (Addr×Obj)} {σ:St} {H:Hp} {s:Shared} {Q:VK} {k k':Bool} (I:aF X pins σ H s) (q:Q (.bl k) H) (e:k=k'):EP X pins σ Q (.bool k') s:=by
  subst e;exact ⟨.bl k,H,I,rfl,q⟩
theorem DX:jx X (compareOp .Lt) (zr fun i j=>.bl (decide (i < j))):=Dh fun _ _ _ _ _ _ _ q=>lt_int q
theorem Bk:jx X (compareOp .Gt) (zr fun i j=>.bl (decide (j < i))):=Dh fun _ _ _ _ _ _ _ q=>gt_int q
theorem Bq:jx X (compareOp .Is) (fun x y H Q=>y=.non/\Q (.bl (decide (x=.non))) H):=by
  intro pins s σ H x y v u Q I rx ry h;obtain ⟨rfl,q⟩:=h;cases ry;refine is_none_gen (xV I q ?_);cases x <;> first
    | (cases rx;rfl)
    | (obtain ⟨t,rfl⟩:=rx;rfl)
theorem Af:jx X (compareOp .IsNot) (fun x y H Q=>y=.non/\Q (.bl (!decide (x=.non))) H):=by
  intro pins s σ H x y v u Q I rx ry h;obtain ⟨rfl,q⟩:=h;cases ry;refine isnot_none_gen (xV I q ?_);cases x <;> first
    | (cases rx;rfl)
    | (obtain ⟨t,rfl⟩:=rx;rfl)
theorem jx.or {f:Value->Value->Sem Value} {r r':R2} (h:jx X f r) (h':jx X f r'):jx X f (fun x y H Q=>r x y H Q\/r' x y H Q):=by
  intro pins s σ H x y v u Q I rx ry q;rcases q with q | q
  · exact h pins s σ H x y v u Q I rx ry q
  · exact h' pins s σ H x y v u Q I rx ry q
theorem iB (b:Expr) {op:CmpOp} (h:op≠.In:=by decide) (h2:op≠.NotIn:=by decide):behindInMarks op b=false:=by
  have e1:(op==CmpOp.In)=false:=by cases op <;> first | rfl | exact absurd rfl h
  have e2:(op==CmpOp.NotIn)=false:=by cases op <;> first | rfl | exact absurd rfl h2
  cases b <;> simp [behindInMarks,e1,e2]
theorem zj {op:CmpOp} {r:R2} (ho:jx X (compareOp op) r) (ha:PE X a ta) (hb:PE X b tb) (hm:behindInMarks op b=false):PE X (.Compare a [op] [b] pos) (Ea r ta tb):=by
  intro pins s σ H Q I h;exact wpAny_Compare1 (Cp ha hb I h fun v u s2 x y H2 I2 rx ry q=>ho pins s2 σ H2 x y v u Q I2 rx ry q) hm
noncomputable def DY (t:TE):TT:=fun σ H Q=>t σ H fun x H'=>∃ k,x=.bl k/\Q k H'
theorem zq {op:CmpOp} {r:R2} (ho:jx X (compareOp op) r) (ha:PE X a ta) (hb:PE X b tb) (hm:behindInMarks op b=false):PT X (.Compare a [op] [b] pos) (DY (Ea r ta tb)):=by
  intro pins s σ H Q I h;refine wpAny_isTrue_Compare1 (df (ha pins s σ H _ I h) fun v s1 ⟨x,H1,I1,r1,q1⟩=>df (hb pins s1 σ H1 _ I1 q1) fun u s2 ⟨y,H2,I2,r2,q2⟩ =>
    df (ho pins s2 σ H2 x y v u _ I2 r1 r2 q2) fun c s3 ⟨z,H3,I3,r3,k,e,q3⟩=>?_) hm
  subst e;cases r3;exact wpAny_truthy_bool ⟨H3,I3,q3⟩
theorem kZ:(sizeLine:Nat) < 2 ^ 63:=by rw [sizeLine_eq];decide
theorem fO {x:V} {us:List Value} (r:bB [x] us):∃ u,us=[u]/\bL x u:=by
  cases r with
  | cons r1 r2=>cases r2;exact ⟨_,rfl,r1⟩
theorem uF {x y:V} {us:List Value} (r:bB [x,y] us):∃ u w',us=[u,w']/\bL x u/\bL y w':=by
  cases r with
  | cons r1 r2 =>
    cases r2 with
    | cons r3 r4=>cases r4;exact ⟨_,_,rfl,r1,r3⟩
theorem vQ (hc:X.calm=true):di X (.builtin "max") (fun xs H Q=>∃ i j,xs=[.int i,.int j]/\Q (.int (if j > i then j else i)) H):=by
  intro pins s σ H xs us Q I r h;obtain ⟨i,j,rfl,q⟩:=h;obtain ⟨u,w',rfl,⟨t,rfl⟩,⟨t',rfl⟩⟩:=uF r;refine max_two_ints (I.ok.hd hc) fun h' tk k=>⟨_,H,I.kept k,?_,q⟩
  by_cases hj:j > i
  · rw [if_pos hj,if_pos hj];exact ⟨_,rfl⟩
  · rw [if_neg hj,if_neg hj];exact ⟨_,rfl⟩
theorem wC (hc:X.calm=true):di X (.builtin "min") (fun xs H Q=>∃ i j,xs=[.int i,.int j]/\Q (.int (if j < i then j else i)) H):=by
  intro pins s σ H xs us Q I r h;obtain ⟨i,j,rfl,q⟩:=h;obtain ⟨u,w',rfl,⟨t,rfl⟩,⟨t',rfl⟩⟩:=uF r;refine min_two_ints (I.ok.hd hc) fun h' tk k=>⟨_,H,I.kept k,?_,q⟩
  by_cases hj:j < i
  · rw [if_pos hj,if_pos hj];exact ⟨_,rfl⟩
  · rw [if_neg hj,if_neg hj];exact ⟨_,rfl⟩
theorem wo:di X (.type "int") (fun xs H Q=>(∃ i,xs=[.int i]/\Q (.int i) H)\/∃ k,xs=[.bl k]/\Q (.int (if k then 1 else 0)) H):=by
  intro pins s σ H xs us Q I r h;rcases h with ⟨i,rfl,q⟩ | ⟨k,rfl,q⟩
  · obtain ⟨u,rfl,t,rfl⟩:=fO r;exact call_int_int ⟨.int i,H,I,⟨_,rfl⟩,q⟩
  · obtain ⟨u,rfl,r1⟩:=fO r;cases r1;exact call_int_bool ⟨.int (if k then 1 else 0),H,I.tok _,⟨_,rfl⟩,q⟩
end
structure vM (h:Heap) (x dx C:Addr) (mA:Str->Option Value):Prop where
  obj:h.get? x=some (PySem.W.instObj C dx)
  ns:h.Ns1 dx mA
  ne:dx≠x
theorem vt {h:Heap} {dx:Addr} {mA:Str->Option Value} (n:h.Ns1 dx mA):∃ od,h.get? dx=some od/\∀ name,PySem.W.lookIn name od=some (mA name):=by
  obtain ⟨o,es,ep,ho,hd,hk,_,hm⟩:=n;refine ⟨o,ho,fun name=>?_⟩;have e:=hm name;unfold nsFind findBy at e;rw [<- Array.find?_toList] at e;unfold PySem.W.lookIn;rw [hd];dsimp only;split
  · rename_i y q;rw [q] at e;exact congrArg some e
  · rename_i q;rw [q] at e;have a:es.toList.any (·.refKey)=false:=by
      rw [List.any_eq_false];intro y hy;obtain ⟨z,t,hkey⟩:=hk y (Array.mem_toList_iff.mp hy);simp [DictEntry.refKey,hkey]
    have a':¬ es.toList.any (·.refKey)=true:=by rw [a];exact Bool.false_ne_true
    rw [if_neg a'];exact congrArg some e
theorem vM.look {h:Heap} {x dx C:Addr} {mA:Str->Option Value} (I:vM h x dx C mA):∃ od,PySem.W.InstAt h x (PySem.W.instObj C dx) C (some od)/\∀ name,PySem.W.lookIn name od=some (mA name) :=
  let ⟨od,ho,hl⟩:=vt I.ns
  ⟨od,⟨I.obj,rfl,rfl,ho⟩,hl⟩
section
variable {prog:Program} {w:World} {A:Around} {E:Value->Shared->Prop} {s:Shared} {K:PySem.W.Frag} {x dx C f:Addr} {mA:Str->Option Value} {name:Str} {v:Value}
theorem zd {expr:Bool} {Q:Value->Shared->Prop} (X:K.In s.heap) (I:vM s.heap x dx C mA) (hg:PySem.W.plainGet K C name=true) (hh:PySem.W.hasDictIn K C=true)
    (ha:PySem.W.findIn K (.ref C) name=some none) (hv:mA name=some v) (hv':PySem.W.handedIn v=true) (h:Q v { s with toks:=s.toks+1 }) :
    wpAny (model prog w) A (getAttr (.ref x) name expr) Q E s:=by
  obtain ⟨od,J,hl⟩:=I.look;exact PySem.W.get_value X J (PySem.W.plainGet_of hg).1 (PySem.W.findObj_own hh ha rfl (by rw [hl,hv])) hv' h
theorem zF {ns:List Str} {Q:Unit->Shared->Prop} (X:K.In s.heap) (I:vM s.heap x dx C mA)
    (hs:PySem.W.findIn K (.ref C) "__setattr__" = some (some (.builtin "object.__setattr__"))) (hp:PySem.W.plainOver K C=true) (ht:PySem.W.takerIn K C name=some none) (hh:PySem.W.hasDictIn K C=true)
    (hw:PySem.Within mA ns) (hsz:ns.length<=sizeLine)
    (h:∀ h',vM h' x dx C (fun y=>if y=name then some v else mA y)->Heap.SameBut dx s.heap h'->Q () { s with heap:=h',toks:=s.toks+2 }) :
    wpAny (model prog w) A (setAttr (.ref x) name v) Q E s:=by
  obtain ⟨od,J,hl⟩:=I.look;refine PySem.W.set_plain X J hs (PySem.W.osa_open (s:={ s with toks:=s.toks+1 }) (r:=none) X J hp ht fun b=>?_);obtain ⟨cd,hc,hd'⟩:=PySem.W.any_some hh;have hx:s.heap.get? x=some ⟨.ref C,some dx,.plain,#[]⟩:=I.obj;refine wpAny_bind (wpAny_pure (wpAny_bind (wpAny_bind (wpAny_loadPart hx (wpAny_bind (PySem.W.Looks.here (s:={ s with toks:=s.toks+1 }) (PySem.W.looks_clsIn X hc) ?_))))));rw [hd'];refine wpAny_pure (a:=some dx) (wpAny_bind (wpAny_pure (wpAny_bind ?_)));refine wpAny_nsSet1 (s:={ s with toks:=s.toks+1 }) I.ns fun h' hn2 hs2=>?_
  obtain ⟨oD,esD,epD,hoD,hdD,hcD⟩:=hn2.count (PySem.Within.cons name v hw);refine wpAny_bind (wpAny_lookBehind hoD (by rw [hdD];exact pastItsLine_dict (Nat.le_trans hcD (by rw [List.length_cons];omega))) ?_);exact wpAny_pure (h _ ⟨(hs2.2 _ (Ne.symm I.ne)).trans I.obj,hn2,I.ne⟩ hs2)
theorem xb {R:Result->Shared->Prop} {vs:List Value} {kw:List (Str×Value)} (X:K.In s.heap) (hm:PySem.W.makesIn K C=true)
    (hi:PySem.W.findIn K (.ref C) "__init__" = some (some (.ref f))) (hf:PySem.W.typeIn K (.ref f)=some (.type "function"))
    (h:codeAny (model prog w) (A.under (.builtin "type.__call__" ⟨.ref C::vs,kw⟩)) (.call (.ref f) ⟨.ref (s.heap.objs.size+1)::vs,kw⟩) (PySem.W.InitBack (s.heap.objs.size+1) R)
      { s with heap:=(s.heap.push PySem.W.emptyDict).push (PySem.W.instObj C s.heap.objs.size) }) :
    codeAny (model prog w) A (.call (.ref C) ⟨vs,kw⟩) R s:=by
  obtain ⟨hh,g,d,t,os⟩:=s;exact PySem.W.make_core (PySem.W.makes_of X hm) (PySem.W.looks_findIn X hi) (fun self=>PySem.W.bind_fn X self hf) (.inl rfl) h
end
noncomputable def gN (f:Str) (v:V):List (Str×V)->List (Str×V)
  | []=>[(f,v)]
  | (g,x)::r=>if g=f then (g,v)::r else (g,x)::gN f v r
theorem ls (f g:Str) (v:V):∀ fs:List (Str×V),(gN f v fs).lookup g=if g=f then some v else fs.lookup g
  | []=>by
    show List.lookup g [(f,v)]=_;by_cases h:g=f
    · have hb:(g==f)=true:=beq_iff_eq.mpr h;simp only [List.lookup,hb,if_pos h]
    · have hb:(g==f)=false:=beq_eq_false_iff_ne.mpr h;simp only [List.lookup,hb,if_neg h]
  | (k,x)::r=>by
    have ih:=ls f g v r;rw [show gN f v ((k,x)::r)=(if k=f then (k,v)::r else (k,x)::gN f v r) from rfl];by_cases hk:k=f
    · rw [if_pos hk];by_cases h:g=k
      · have hb:(g==k)=true:=beq_iff_eq.mpr h;simp only [List.lookup,hb,if_pos (h.trans hk)]
      · have hb:(g==k)=false:=beq_eq_false_iff_ne.mpr h;simp only [List.lookup,hb,if_neg (fun e:g=f=>h (e.trans hk.symm))]
    · rw [if_neg hk];by_cases h:g=k
      · have hb:(g==k)=true:=beq_iff_eq.mpr h;simp only [List.lookup,hb,if_neg (fun e:g=f=>hk (h.symm.trans e))]
      · have hb:(g==k)=false:=beq_eq_false_iff_ne.mpr h;simp only [List.lookup,hb];exact ih
theorem kJ (f:Str) (v:V):∀ fs:List (Str×V),f∈(gN f v fs).map (·.1)/\∀ g,g∈fs.map (·.1)->g∈(gN f v fs).map (·.1)
  | []=>⟨by simp [gN],fun g h=>by simp at h⟩
  | (k,x)::r=>by
    obtain ⟨i1,i2⟩:=kJ f v r;rw [show gN f v ((k,x)::r)=(if k=f then (k,v)::r else (k,x)::gN f v r) from rfl];by_cases hk:k=f
    · rw [if_pos hk];subst hk;exact ⟨by simp,fun g h=>by simpa using h⟩
    · rw [if_neg hk];refine ⟨?_,fun g h=>?_⟩
      · rw [List.map_cons];exact List.mem_cons_of_mem _ i1
      · rw [List.map_cons] at h ⊢;rcases List.mem_cons.mp h with e | e
        · exact List.mem_cons.mpr (.inl e)
        · exact List.mem_cons_of_mem _ (i2 g e)
theorem gw (f:Str) (v:V):∀ fs:List (Str×V),(gN f v fs).length<=fs.length+1
  | []=>by simp [gN]
  | (k,x)::r=>by
    have ih:=gw f v r;rw [show gN f v ((k,x)::r)=(if k=f then (k,v)::r else (k,x)::gN f v r) from rfl];by_cases hk:k=f
    · rw [if_pos hk,List.length_cons,List.length_cons];omega
    · rw [if_neg hk,List.length_cons,List.length_cons];omega
theorem kU.some_of {v:V} {o:Option Value} (r:kU (some v) o):∃ u,o=some u/\bL v u:=by
  cases o with
  | none=>exact (show False from r).elim
  | some u=>exact ⟨u,rfl,r⟩
theorem wj {v:V} {u:Value} (r:bL v u):PySem.W.handedIn u=true:=by
  cases v with
  | non=>cases (show u=Value.none from r);rfl
  | bl b=>cases (show u=Value.bool b from r);rfl
  | int i=>obtain ⟨t,e⟩:=(show ∃ t,u=Value.int i t from r);cases e;rfl
  | str x=>obtain ⟨t,e⟩:=(show ∃ t,u=Value.str x t from r);cases e;rfl
  | byt b=>obtain ⟨t,e⟩:=(show ∃ t,u=Value.bytes b t from r);cases e;rfl
  | flt b=>obtain ⟨t,e⟩:=(show ∃ t,u=Value.float b t from r);cases e;rfl
  | ref a=>cases (show u=Value.ref a from r);rfl
  | ty n=>cases (show u=Value.type n from r);rfl
section
variable {P:Program} {w:World} {H H':Hp} {h h':Heap} {a C dx:Addr} {fs fs':List (Str×V)}
theorem ul (hok:gM P w H h) (e:H a=some (.ins C dx fs)):∃ mA,vM h a dx C mA/\(∀ f,kU (fs.lookup f) (mA f))/\PySem.Within mA (fs.map (·.1))/\fs.length<=1000/\H dx=some (.own a):=by
  obtain ⟨d,z,ne,ob,mA,n,r,q⟩:=(show bW P w H h a (.ins C dx fs) from hok a _ e)
  exact ⟨mA,⟨ob,n,ne⟩,r,q,z,d⟩
end
structure wJ (K:PySem.W.Frag) (C:Addr):Prop where
  pg:PySem.W.plainGet K C Str.empty=true
  hd:PySem.W.hasDictIn K C=true
  po:PySem.W.plainOver K C=true
  sa:PySem.W.findIn K (.ref C) "__setattr__" = some (some (.builtin "object.__setattr__"))
theorem wJ.get {K:PySem.W.Frag} {C:Addr} (c:wJ K C) (f:Str):PySem.W.plainGet K C f=true:=c.pg
noncomputable def dS (K:PySem.W.Frag) (C:Addr) (f:Str):Prop:=PySem.W.findIn K (.ref C) f=some none
theorem dS.taker {K:PySem.W.Frag} {C:Addr} {f:Str} (n:dS K C f):PySem.W.takerIn K C f=some none:=by
  unfold PySem.W.takerIn;rw [show PySem.W.findIn K (.ref C) f=some none from n];rfl
section
variable {X:Cx} {pins:List (Addr×Obj)} {σ:St} {H:Hp} {s:Shared} {a C dx:Addr} {fs:List (Str×V)} {f:Str} {v:V} {A:Around} {E:Value->Shared->Prop}
theorem sM {y:V} {u:Value} {Q:Unit->Shared->Prop} (I:aF X pins σ H s) (e:H a=some (.ins C dx fs)) (c:wJ X.K C) (n:dS X.K C f) (hl:fs.length < 1000) (ry:bL y u)
    (h:∀ s',aF X pins σ (cA H a (.ins C dx (gN f y fs))) s'->Q () s'):wpAny (model X.prog X.w) A (setAttr (.ref a) f u) Q E s:=by
  obtain ⟨mA,O,r,wi,_,ho⟩:=ul I.hok e;have hz:(fs.map (·.1)).length<=sizeLine:=by rw [List.length_map,sizeLine_eq];omega
  refine zF I.kIn O c.sa c.po n.taker c.hd wi hz fun h' O' sb=>h _ ?_
  have hd:∃ o,h'.get? dx=some o:=let ⟨o,_,_,e',_⟩:=O'.ns;⟨o,e'⟩
  refine I.write (x:=a) (e:=dx) (by rw [e];exact True.intro) (.inr ho) (fun b q hb z=>(sb.2 b hb).trans z) hd ?_;refine ⟨by rw [ar O.ne];exact ho,?_,O.ne,O'.obj,_,O'.ns,fun g=>?_,fun g hg=>?_⟩
  · have:=gw f y fs;omega
  · show kU ((gN f y fs).lookup g) (if g=f then some u else mA g);rw [ls];by_cases q:g=f
    · rw [if_pos q,if_pos q];exact ry
    · rw [if_neg q,if_neg q];exact r g
  · by_cases q:g=f
    · rw [q];exact (kJ f y fs).1
    · refine (kJ f y fs).2 g (wi g fun z=>hg ?_);show (if g=f then some u else mA g)=none;rw [if_neg q];exact z
theorem aF.made (I:aF X pins σ H s):aF X pins σ (cA (cA H s.heap.objs.size (.own (s.heap.objs.size+1))) (s.heap.objs.size+1) (.ins C s.heap.objs.size []))
    { s with heap:=(s.heap.push PySem.W.emptyDict).push (PySem.W.instObj C s.heap.objs.size) }:=by
  have e1:(s.heap.push PySem.W.emptyDict).get? s.heap.objs.size=some PySem.W.emptyDict:=Heap.get?_push_size s.heap rfl;have e2:((s.heap.push PySem.W.emptyDict).push (PySem.W.instObj C s.heap.objs.size)).get? (s.heap.objs.size+1)=some (PySem.W.instObj C s.heap.objs.size):=by
    have:=Heap.get?_push_size (s.heap.push PySem.W.emptyDict) (o:=PySem.W.instObj C s.heap.objs.size) rfl
    rwa [Heap.size_push] at this
  have e3:(s.heap.push PySem.W.emptyDict).Ns s.heap.objs.size (fun _=>none):=⟨PySem.W.emptyDict,#[],_,e1,rfl,(fun e he=>absurd he (by simp)),fun _=>rfl⟩
  have I1:=I.laid (a:=s.heap.objs.size) (o:=.own (s.heap.objs.size+1)) (h':=s.heap.push PySem.W.emptyDict) (t':=s.toks) (fun b u q=>Heap.get?_push_of_some _ q) (Nat.le_refl _) ⟨_,e1⟩;refine I1.laid (a:=s.heap.objs.size+1) (o:=.ins C s.heap.objs.size []) (t':=s.toks) (fun b u q=>Heap.get?_push_of_some _ q) (Nat.le_of_eq (Heap.size_push _ _)) ?_;have ne:s.heap.objs.size≠s.heap.objs.size+1:=Nat.ne_of_lt (Nat.lt_succ_self _);refine ⟨by rw [ar ne,ba],Nat.zero_le _,ne,e2,fun _=>none,(Heap.Ns1.of_empty e3).at fun o q=>Heap.get?_push_of_some _ q,fun _=>True.intro,fun y hy=>absurd rfl hy⟩
theorem Ax {prog:Program} {w:World} {env:Env} {e:Expr} {f:Str} {pos:Pos} {s:Shared} {Q:Value->Shared->Prop} (hb:attributeBase e f env (eval e env)=eval e env)
    (h:wpAny (model prog w) A (eval e env) (fun o s₁=>wpAny (model prog w) A (getAttr o f true) Q E s₁) E s):wpAny (model prog w) A (eval (.Attribute e f pos) env) Q E s :=
  Attribute_any_ h (by rw [arm_eval_Attribute,hb])
end
noncomputable def EJ (K:PySem.W.Frag) (ta tv:TE) (f:Str):TS:=fun D σ H=>tv σ H fun y H1=>ta σ H1 fun x H2=>∃ a C dx fs,x=.ref a/\H2 a=some (.ins C dx fs)/\wJ K C/\dS K C f/\fs.length < 1000 /\
  D.nx σ (cA H2 a (.ins C dx (gN f y fs)))
section
variable {X:Cx} {o e value:Expr} {f:Str} {pos pos' tpos:Pos} {ta tv:TE}
theorem tL (ha:PE X o ta) (hv:PE X value tv) (hs:swapsWith value (some (.Attribute o f pos')) pos.line X.env=pure false):PS X (.Assign [.Attribute o f pos'] value pos) (EJ X.K ta tv f):=by
  intro pins s σ H D I h;refine plainObj_wpAny_Assign_Attribute (df (hv pins s σ H _ I h) fun u s1 ⟨y,H1,I1,ry,q⟩=>df (ha pins s1 σ H1 _ I1 q) fun ov s2 ⟨x,H2,I2,rx,a,C,dx,fs,ex,ea,c,n,l,q2⟩=>?_) hs;subst ex;obtain rfl:ov=Value.ref a:=rx;exact sM I2 ea c n l ry fun s3 I3=>⟨σ,_,I3,q2⟩
end
section
variable {X:Cx} {pins:List (Addr×Obj)} {σ:St} {H:Hp} {s:Shared} {A:Around} {E:Value->Shared->Prop} {Q:Value->Shared->Prop} {c:Value} {b:Bool}
inductive j9 (K:PySem.W.Frag) (H:Hp):V->Value->Prop where
  | non:j9 K H .non (.type "NoneType")
  | bl (x:Bool):j9 K H (.bl x) (.type "bool")
  | int (i:Int):j9 K H (.int i) (.type "int")
  | str (x:Str):j9 K H (.str x) (.type "str")
  | flt (x:UInt64):j9 K H (.flt x) (.type "float")
  | lst {a:Addr} {xs:List V} (e:H a=some (.lst xs)):j9 K H (.ref a) (.type "list")
  | frz {a:Addr} {o:Obj} {xs:List V} (e:H a=some (.frz o (.lst xs))):j9 K H (.ref a) (.type "list")
  | tup {a:Addr} {xs:List V} (e:H a=some (.tup xs)):j9 K H (.ref a) (.type "tuple")
  | dK {a:Addr} {kvs:List (da×V)} (e:H a=some (.dK kvs)):j9 K H (.ref a) (.type "dict")
  | dT {a:Addr} {kvs:List (List da×V)} (e:H a=some (.dT kvs)):j9 K H (.ref a) (.type "dict")
  | ins {a C dx:Addr} {fs:List (Str×V)} (e:H a=some (.ins C dx fs)) (cl:wJ K C) (ha:PySem.W.findIn K (.ref C) "__class__" = some (some (.builtin "object.__class__")))
      (hn:PySem.W.specialIn K (.builtin "object.__class__") "__get__" = some (some (.builtin "getset_descriptor.__get__"))) (htk:PySem.W.takesIn K (.builtin "object.__class__")=some true)
      (hm:PySem.W.mroIn K C (.type "object")=some true):j9 K H (.ref a) (.ref C)
theorem wq {x:V} {u t:Value} (I:aF X pins σ H s) (rx:bL x u) (ty:j9 X.K H x t) (e:PySem.W.kitOne X.K t c=some b) (h:∀ tk,Q (.bool b) { s with toks:=tk }) :
    wpAny (model X.prog X.w) A (call (.builtin "isinstance") [u,c]) Q E s:=by
  cases ty with
  | non=>cases (show u=Value.none from rx);exact PySem.W.kia_one PySem.W.kitx_none I.kIn True.intro e (fun z=>nomatch z) h
  | bl y=>cases (show u=Value.bool y from rx);exact PySem.W.kia_one PySem.W.kitx_bool I.kIn True.intro e (fun z=>nomatch z) h
  | int i=>obtain ⟨t,q⟩:=(show ∃ t,u=Value.int i t from rx);cases q;exact PySem.W.kia_one PySem.W.kitx_int I.kIn True.intro e (fun z=>nomatch z) h
  | str y=>obtain ⟨t,q⟩:=(show ∃ t,u=Value.str y t from rx);cases q;exact PySem.W.kia_one PySem.W.kitx_str I.kIn True.intro e (fun z=>nomatch z) h
  | flt y=>obtain ⟨t,q⟩:=(show ∃ t,u=Value.float y t from rx);cases q;exact PySem.W.kia_one PySem.W.kitx_float I.kIn True.intro e (fun z=>nomatch z) h
  | @lst a xs ea =>
    cases (show u=Value.ref a from rx);obtain ⟨_,_,n,_,h1⟩:=(show bW X.prog X.w H s.heap a (.lst xs) from I.hok a _ ea)
    exact PySem.W.kia_one PySem.W.kitx_list I.kIn ⟨_,h1,rfl⟩ e (fun z=>nomatch z) h
  | @frz a ob xs ea =>
    cases (show u=Value.ref a from rx);obtain ⟨_,_,_,n,_,h1⟩:=(show bW X.prog X.w H s.heap a (.frz ob (.lst xs)) from I.hok a _ ea)
    exact PySem.W.kia_one PySem.W.kitx_list I.kIn ⟨_,h1,rfl⟩ e (fun z=>nomatch z) h
  | @tup a xs ea =>
    cases (show u=Value.ref a from rx);obtain ⟨_,_,_,p⟩:=(show bW X.prog X.w H s.heap a (.tup xs) from I.hok a _ ea)
    obtain ⟨o,h1,h2,_⟩:=p;exact PySem.W.kia_one PySem.W.kitx_tuple I.kIn ⟨o,h1,h2⟩ e (fun z=>nomatch z) h
  | @dK a kvs ea =>
    cases (show u=Value.ref a from rx);obtain ⟨_,_,vs,_,p⟩:=(show bW X.prog X.w H s.heap a (.dK kvs) from I.hok a _ ea)
    obtain ⟨o,es,ep,h1,h2,_⟩:=p;exact PySem.W.kia_one PySem.W.kitx_dict I.kIn ⟨o,h1,h2.1⟩ e (fun z=>nomatch z) h
  | @dT a kvs ea =>
    cases (show u=Value.ref a from rx);obtain ⟨_,_,xs,_,o,es,ep,h1,h2,_⟩:=(show bW X.prog X.w H s.heap a (.dT kvs) from I.hok a _ ea)
    exact PySem.W.kia_one PySem.W.kitx_dict I.kIn ⟨o,h1,h2.1⟩ e (fun z=>nomatch z) h
  | @ins a C dx fs ea cl ha hn htk hm =>
    cases (show u=Value.ref a from rx);obtain ⟨mA,O,_⟩:=ul I.hok ea;obtain ⟨od,J,_⟩:=O.look;exact PySem.W.kia_one (PySem.W.kitx_own (cl.get _) cl.hd ha hn htk hm) I.kIn J e (fun z=>nomatch z) h
end
structure eJ (k:Nat) (A:Around):Prop where
  hd:A.handled=none
  dp:A.depth+3*k+5 < recursionLimit
  un:A.units+16*k+200 < cLine
theorem eJ.mono {j k:Nat} {A:Around} (r:eJ k A) (h:j<=k):eJ j A:=⟨r.hd,by have:=r.dp;omega,by have:=r.un;omega⟩
theorem eJ.deeper {k:Nat} {A:Around} (r:eJ (k+1) A) (env:Env):eJ k (A.deeper env) :=
  ⟨r.hd,by have:=r.dp;show A.depth+1+3*k+5 < _;omega,by have:=r.un;show A.units+3+16*k+200 < _;omega⟩
theorem tH {A:Around} {C:Addr} {us:List Value} {kw:List (Str×Value)}:(A.under (.builtin "type.__call__" ⟨.ref C::us,kw⟩)).depth=A.depth+1:=by
  first | rfl | simp [Around.under,Code.weight,Code.isCreation,Code.isGuard,Code.isCaller,Code.frames,Code.isFrame,guardIds]
theorem sO {A:Around} {C:Addr} {us:List Value} {kw:List (Str×Value)}:(A.under (.builtin "type.__call__" ⟨.ref C::us,kw⟩)).units=A.units+1:=by
  first | rfl | simp [Around.under,Code.cUnits,Code.frames,Code.isFrame]
theorem eJ.make {k:Nat} {A:Around} (r:eJ (k+1) A) (C:Addr) (us:List Value) (kw:List (Str×Value)):eJ k (A.under (.builtin "type.__call__" ⟨.ref C::us,kw⟩)) :=
  ⟨r.hd,by have:=r.dp;rw [tH];omega,by have:=r.un;rw [sO];omega⟩
theorem eJ.depth {k:Nat} {A:Around} (r:eJ k A):A.depth < recursionLimit:=by have:=r.dp;omega
theorem eJ.units {k:Nat} {A:Around} (r:eJ k A):A.units+64 < cLine:=by have:=r.un;omega
noncomputable def Fk:TA:=fun _ H Q=>Q [] H
noncomputable def DU (ta:TE) (tr:TA):TA:=fun σ H Q=>ta σ H fun x H1=>tr σ H1 fun xs H2=>Q (x::xs) H2
section
variable {X:Cx} {e:Expr} {es:List Expr} {te:TE} {t:TA} {pos:Pos}
theorem yR:PA X [] Fk:=fun _ _ _ _ H Q I h=>Calls.spliced_nil ⟨[],H,I,.nil,h⟩
theorem pE (ha:PE X e te) (hr:PA X es t) (hs:starEach (e::es) X.env=(false,eval e X.env)::starEach es X.env:=by rfl):PA X (e::es) (DU te t):=by
  intro pos pins s σ H Q I h;rw [hs];show wpAny _ _ (spliced ((false,eval e X.env)::backTo pos (starEach es X.env))) _ _ s;refine Calls.spliced_cons (df (ha pins s σ H _ I h) fun u s1 ⟨x,H1,I1,r1,q1⟩=>?_);exact df (hr pos pins s1 σ H1 _ I1 q1) fun us s2 ⟨xs,H2,I2,r2,q2⟩=>⟨x::xs,H2,I2,.cons r1 r2,q2⟩
noncomputable def ET (t:TA):TE:=fun σ H Q=>t σ H fun xs H1=>xs.length<=sizeLine/\∀ p,H1 p=none->Q (.ref p) (cA H1 p (.tup xs))
noncomputable def Fa (t:TA):TE:=fun σ H Q=>t σ H fun xs H1=>xs.length<=sizeLine/\∀ p,H1 p=none->Q (.ref p) (cA H1 p (.lst xs))
theorem B5 {x1} (h:PA X es t):PE X (.Tuple es x1 pos) (ET t):=by
  intro pins s σ H Q I hq;refine wpAny_Tuple_spliced (df (h pos pins s σ H _ I hq) fun us s1 ⟨xs,H1,I1,r,z,q⟩=>⟨by rw [<- r.length];exact z,?_⟩);have hf:H1 s1.heap.objs.size=none:=I1.hok.fresh (Nat.le_refl _);refine ⟨.ref s1.heap.objs.size,cA H1 s1.heap.objs.size (.tup xs),I1.laid (t':=s1.toks) (fun b u e=>Heap.get?_push_of_some _ e) (Nat.le_refl _) ?_,rfl,q _ hf⟩;exact ⟨z,us,r,⟨_,Heap.get?_push_size _ rfl,rfl,_,rfl⟩⟩
theorem CN (h:PA X es t):PE X (.List es pos) (Fa t):=by
  intro pins s σ H Q I hq;refine wpAny_List_spliced (df (h pos pins s σ H _ I hq) fun us s1 ⟨xs,H1,I1,r,z,q⟩=>⟨by rw [<- r.length];exact z,?_⟩);have hf:H1 s1.heap.objs.size=none:=I1.hok.fresh (Nat.le_refl _);refine ⟨.ref s1.heap.objs.size,cA H1 s1.heap.objs.size (.lst xs),I1.laid (t':=s1.toks) (fun b u e=>Heap.get?_push_of_some _ e) (Nat.le_refl _) ?_,rfl,q _ hf⟩;exact ⟨z,us,0,r,Heap.get?_push_size _ rfl⟩
end
noncomputable abbrev Sp:=List V->Hp->VK->XK->Prop
noncomputable abbrev wH:=List Env->Hp->Shared->XK->Value->Shared->Prop
structure tJ (P:Program) (w:World) (K:PySem.W.Frag) (mg:Str->Option Value) (base:Heap) (A:Around) (outer:List Env) (s:Shared) (H:Hp):Prop where
  frames:A.frames=some outer
  mod:Mod K mg base
  bs:∀ b o,base.get? b=some o->s.heap.get? b=some o/\H b=none
  bsz:base.objs.size<=s.heap.objs.size
  funs:s.heap.FunFrames base outer
  frf:∀ b∈ky outer,H b=none
  hok:gM P w H s.heap
  bare:AllBare s.gens
noncomputable def CE (outer:List Env) (P:Program) (w:World) (H:Hp) (s:Shared) (Q:VK) (u:Value) (s':Shared):Prop :=
  ∃ v H',s'.os=s.os/\AllBare s'.gens/\Un (ky outer) [] H H' s.heap s'.heap/\gM P w H' s'.heap/\bL v u/\Q v H'
noncomputable def CR (CX:wH) (outer:List Env) (P:Program) (w:World) (H:Hp) (s:Shared) (Q:VK) (E:XK) (r:Result) (s':Shared):Prop :=
  match r with
  | .ok (.ret u)=>CE outer P w H s Q u s'
  | .ok _=>False
  | .error e=>CX outer H s E e s'
structure bf (P:Program) (w:World) (K:PySem.W.Frag) (mg:Str->Option Value) (base:Heap) (CX:wH) (k:Nat) (f:Addr) (fd:FuncData) (ps:List Str) (sp:Sp):Prop where
  len:∀ vs H Q E,sp vs H Q E->vs.length=ps.length
  run:∀ (A:Around) (outer:List Env) (s:Shared) (H:Hp) (args:Args) (us:List Value) (vs:List V) (Q:VK) (E:XK),eJ k A->tJ P w K mg base A outer s H->BindsTo s fd args (ps.zip us)->bB vs us->sp vs H Q E ->
    codeAny (model P w) A (.call (.ref f) args) (CR CX outer P w H s Q E) s
theorem bf.mono {P:Program} {w:World} {K:PySem.W.Frag} {mg:Str->Option Value} {base:Heap} {CX:wH} {j k:Nat} {f:Addr} {fd:FuncData} {ps:List Str} {sp:Sp} (F:bf P w K mg base CX j f fd ps sp) (h:j<=k) :
    bf P w K mg base CX k f fd ps sp:=⟨F.len,fun A outer s H args us vs Q E hr=>F.run A outer s H args us vs Q E (hr.mono h)⟩
theorem bf.imp {P:Program} {w:World} {K:PySem.W.Frag} {mg:Str->Option Value} {base:Heap} {CX:wH} {k:Nat} {f:Addr} {fd:FuncData} {ps:List Str} {sp sp':Sp} (F:bf P w K mg base CX k f fd ps sp)
    (h:∀ vs H Q E,sp' vs H Q E->sp vs H Q E):bf P w K mg base CX k f fd ps sp' :=
  ⟨fun vs H Q E q=>F.len vs H Q E (h _ _ _ _ q),fun A outer s H args us vs Q E hr he hb hv hs=>F.run A outer s H args us vs Q E hr he hb hv (h _ _ _ _ hs)⟩
theorem tJ.make {P:Program} {w:World} {K:PySem.W.Frag} {mg:Str->Option Value} {base:Heap} {A:Around} {outer:List Env} {s:Shared} {H:Hp} (e:tJ P w K mg base A outer s H) (C:Addr) (us:List Value) (kw:List (Str×Value)) :
    tJ P w K mg base (A.under (.builtin "type.__call__" ⟨.ref C::us,kw⟩)) outer s H:=⟨by first | exact e.frames | (simpa [Around.under,Code.envs,Code.isFrame,pushEnvs] using e.frames),e.mod,e.bs,e.bsz,e.funs,e.frf,e.hok,e.bare⟩
section
variable {X:Cx} {pins:List (Addr×Obj)} {σ:St} {H:Hp} {s s':Shared}
theorem aF.env0 (I:aF X pins σ H s):tJ X.prog X.w X.K X.mg X.base X.A X.stack s H :=
  ⟨I.ok.frames,I.ok.mod,I.bs,Nat.le_trans I.ok.bsz I.sz,I.stack,I.stkFree,I.hok,I.bare⟩
theorem aF.after {Q:VK} {u:Value} (I:aF X pins σ H s) (h:CE X.stack X.prog X.w H s Q u s'):EP X pins σ Q u s':=by
  obtain ⟨v,H',os,bare,un,hok,r,q⟩:=h;obtain ⟨hh,g,d,t,os'⟩:=s';obtain rfl:os'=s.os:=os;exact ⟨v,H',I.call (h':=hh) (g':=g) (d':=d) (t':=t) (ch:=[]) un hok bare (fun b z=>absurd z (by simp)),r,q⟩
end
noncomputable def D3 (sp:Sp) (dvs:List V) (E:XK) (t:TA):TE:=fun σ H Q=>t σ H fun vs H1=>sp (vs++dvs) H1 Q E
noncomputable def DV (C:Addr) (sp:Sp) (dvs:List V) (E:XK) (t:TA):TE:=fun σ H Q=>t σ H fun vs H1=>∀ x dx,H1 x=none->H1 dx=none->dx≠x ->
  sp (.ref x::(vs++dvs)) (cA (cA H1 dx (.own x)) x (.ins C dx [])) (fun v H2=>v=.non/\Q (.ref x) H2) E
noncomputable def bO (K:PySem.W.Frag) (fd:FuncData) (ps:List Str) (ds:List Value):Prop :=
  ∀ (s:Shared) (us:List Value),K.In s.heap->(us++ds).length=ps.length->BindsTo s fd ⟨us,[]⟩ (ps.zip (us++ds))
theorem bO.all {K:PySem.W.Frag} {fd:FuncData} {ps:List Str} (h:∀ us:List Value,us.length=ps.length->bindArgs fd ⟨us,[]⟩=pure (ps.zip us)):bO K fd ps []:=fun s us _ hl=>by
  rw [List.append_nil] at hl ⊢;exact .of_eq (h us hl)
noncomputable def nz (CX:wH) (X:Cx) (E:XK):Prop:=∀ (pins:List (Addr×Obj)) (σ:St) (H:Hp) (s:Shared) (e:Value) (s':Shared),aF X pins σ H s->CX X.stack H s E e s'->X.xe e s'
section
variable {X:Cx} {CX:wH} {k:Nat} {f C:Addr} {fd:FuncData} {ps:List Str} {sp:Sp} {dvs:List V} {ds:List Value} {E:XK} {x m:Str} {p pos apos:Pos} {e o:Expr} {es:List Expr} {ta:TE} {t:TA}
theorem BZ {pins:List (Addr×Obj)} {σ:St} {H:Hp} {s:Shared} {Q:VK} {us:List Value} {vs:List V} (F:bf X.prog X.w X.K X.mg X.base CX k f fd ps sp) (hr:eJ k X.A) (hb:bO X.K fd ps ds) (hd:bB dvs ds) (hx:nz CX X E)
    (I:aF X pins σ H s) (r:bB vs us) (h:sp (vs++dvs) H Q E):wpAny (model X.prog X.w) X.A (call (.ref f) us) (EP X pins σ Q) X.xe s:=by
  have r2:bB (vs++dvs) (us++ds):=r.append hd;have hl:(us++ds).length=ps.length:=by rw [<- r2.length];exact F.len _ _ _ _ h
  refine wpAny_call (codeAny_mono (F.run X.A X.stack s H ⟨us,[]⟩ (us++ds) (vs++dvs) Q E hr I.env0 (hb s us I.kIn hl) r2 h) fun r s' hq=>?_);cases r with
  | error e=>exact hx pins σ H s e s' I hq
  | ok fl =>
    cases fl with
    | ret u=>exact I.after hq
    | next=>exact False.elim hq
    | brk=>exact False.elim hq
    | cont=>exact False.elim hq
theorem Am (F:bf X.prog X.w X.K X.mg X.base CX k f fd ps sp) (hr:eJ k X.A) (hg:Gl X x) (hm:X.mg x=some (.ref f)) (hk:PySem.W.keepIn X.K (.ref f)=true) (hb:bO X.K fd ps ds) (hd:bB dvs ds) (hx:nz CX X E)
    (ha:PA X (e::es) t) (hdb:(x==("__debug__" : Str))=false:=by decide) (he:starEach (e::es) X.env=(false,eval e X.env)::starEach es X.env:=by rfl) (hpl:(backTo pos (starEach es X.env)).any (·.1)=false:=by rfl) :
    PE X (.Call (.Name x p) (e::es) [] pos) (D3 sp dvs E t):=by
  intro pins s σ H Q I h;refine wpAny_Call_Name_kw (o8 I hg hm ?_ hdb);refine PySem.W.callWith_K (h₀:=X.base) I.ok.mod.kin hk (df (ha pos pins s σ H _ I h) fun us s1 ⟨vs,H1,I1,r,q⟩=>⟨I1.kIn,?_⟩) he hpl;exact BZ F hr hb hd hx I1 r q
structure Mk (K:PySem.W.Frag) (C f:Addr):Prop where
  makes:PySem.W.makesIn K C=true
  init:PySem.W.findIn K (.ref C) "__init__" = some (some (.ref f))
  fn:PySem.W.isFn K (.ref f)=true
  kp:PySem.W.keepIn K (.ref C)=true
theorem xc {pins:List (Addr×Obj)} {σ:St} {H:Hp} {s:Shared} {Q:VK} {us:List Value} {vs:List V} (M:Mk X.K C f) (F:bf X.prog X.w X.K X.mg X.base CX k f fd ps sp) (hr:eJ (k+1) X.A) (hb:bO X.K fd ps ds) (hd:bB dvs ds)
    (hx:nz CX X E) (I:aF X pins σ H s) (r:bB vs us)
    (h:∀ x dx,H x=none->H dx=none->dx≠x->sp (.ref x::(vs++dvs)) (cA (cA H dx (.own x)) x (.ins C dx [])) (fun v H2=>v=.non/\Q (.ref x) H2) E) :
    wpAny (model X.prog X.w) X.A (call (.ref C) us) (EP X pins σ Q) X.xe s:=by
  have hq:=h (s.heap.objs.size+1) s.heap.objs.size (I.hok.fresh (Nat.le_succ _)) (I.hok.fresh (Nat.le_refl _)) (Nat.ne_of_lt (Nat.lt_succ_self _));have I2:=aF.made (C:=C) I;have r2:bB (V.ref (s.heap.objs.size+1)::(vs++dvs)) (Value.ref (s.heap.objs.size+1)::(us++ds)):=.cons rfl (r.append hd);have hl:(Value.ref (s.heap.objs.size+1)::us++ds).length=ps.length:=by
    have e:=r2.length;rw [F.len _ _ _ _ hq] at e;exact e.symm
  refine wpAny_call (xb (f:=f) I.kIn M.makes M.init (beq_iff_eq.mp M.fn) (codeAny_mono (F.run _ X.stack _ _ ⟨Value.ref (s.heap.objs.size+1)::us,[]⟩ (Value.ref (s.heap.objs.size+1)::(us++ds)) _ _ E (hr.make C us [])
    (I2.env0.make C us []) (hb _ (Value.ref (s.heap.objs.size+1)::us) I2.kIn hl) r2 hq) fun r s' hq'=>?_))
  cases r with
  | error e=>exact hx pins σ _ _ e s' I2 hq'
  | ok fl =>
    cases fl with
    | ret u =>
      obtain ⟨v,H',I3,rv,ev,q3⟩:=I2.after hq';subst ev;exact ⟨rv,⟨V.ref (s.heap.objs.size+1),H',I3,rfl,q3⟩⟩
    | next=>exact False.elim hq'
    | brk=>exact False.elim hq'
    | cont=>exact False.elim hq'
theorem zD (M:Mk X.K C f) (F:bf X.prog X.w X.K X.mg X.base CX k f fd ps sp) (hr:eJ (k+1) X.A) (hg:Gl X x) (hm:X.mg x=some (.ref C)) (hb:bO X.K fd ps ds) (hd:bB dvs ds) (hx:nz CX X E)
    (ha:PA X (e::es) t) (hdb:(x==("__debug__" : Str))=false:=by decide) (he:starEach (e::es) X.env=(false,eval e X.env)::starEach es X.env:=by rfl) (hpl:(backTo pos (starEach es X.env)).any (·.1)=false:=by rfl) :
    PE X (.Call (.Name x p) (e::es) [] pos) (DV C sp dvs E t):=by
  intro pins s σ H Q I h;refine wpAny_Call_Name_kw (o8 I hg hm ?_ hdb);refine PySem.W.callWith_K (h₀:=X.base) I.ok.mod.kin M.kp (df (ha pos pins s σ H _ I h) fun us s1 ⟨vs,H1,I1,r,q⟩=>⟨I1.kIn,?_⟩) he hpl;exact xc M F hr hb hd hx I1 r q
end
structure aY (N P:List Str) (sc:Scope):Prop where
  kind:sc.kind=.function
  co:sc.isCoroutine=false
  gen:sc.isGenerator=false
  nd:N.Nodup
  pre:N.take P.length=P
  par:∀ x∈P,sc.names.lookup x=some .local\/sc.names.lookup x=some .cell
  nofree:∀ y∈sc.names,y.2≠.free
theorem oW {kindOf:Str->Option NameKind} {x:Str}:∀ {binds:List (Str×Value)} {m:Str->Option Value},(∀ v,(x,v)∉binds)->bindL kindOf binds m x=m x
  | [],_,_=>rfl
  | (n,v)::r,m,h=>by
    unfold bindL;rw [oW fun w hw=>h w (List.mem_cons_of_mem _ hw)];split
    · have:x≠n:=by rintro rfl;exact h v List.mem_cons_self
      simp [this]
    · rfl
theorem oS {kindOf:Str->Option NameKind} {x:Str}:∀ {binds:List (Str×Value)} {m:Str->Option Value},(∀ v,(x,v)∉binds)->bindC kindOf binds m x=m x
  | [],_,_=>rfl
  | (n,v)::r,m,h=>by
    unfold bindC;rw [oS fun w hw=>h w (List.mem_cons_of_mem _ hw)];split
    · rfl
    · have:x≠n:=by rintro rfl;exact h v List.mem_cons_self
      simp [this]
theorem oM {kindOf:Str->Option NameKind} {x:Str} {v:Value}:∀ {P:List Str} {vs:List Value} {i:Nat} {m:Str->Option Value},P.Nodup->P[i]?=some x->vs[i]?=some v->kindOf x=some .local ->
    bindL kindOf (P.zip vs) m x=some v
  | [],_,_,_,_,h,_,_=>by simp at h
  | _::_,[],_,_,_,_,h,_=>by simp at h
  | p::P,w::vs,0,m,nd,h1,h2,hk=>by
    simp at h1 h2;subst h1;subst h2;show bindL kindOf ((p,w)::P.zip vs) m p=_;unfold bindL;rw [oW fun v hv=>(List.nodup_cons.mp nd).1 (List.of_mem_zip hv).1,if_pos hk];simp
  | p::P,w::vs,i+1,m,nd,h1,h2,hk=>by
    show bindL kindOf ((p,w)::P.zip vs) m x=_;unfold bindL;exact oM (i:=i) (List.nodup_cons.mp nd).2 (by simpa using h1) (by simpa using h2) hk
theorem og {kindOf:Str->Option NameKind} {x:Str} {v:Value}:∀ {P:List Str} {vs:List Value} {i:Nat} {m:Str->Option Value},P.Nodup->P[i]?=some x->vs[i]?=some v->kindOf x≠some .local ->
    bindC kindOf (P.zip vs) m x=some v
  | [],_,_,_,_,h,_,_=>by simp at h
  | _::_,[],_,_,_,_,h,_=>by simp at h
  | p::P,w::vs,0,m,nd,h1,h2,hk=>by
    simp at h1 h2;subst h1;subst h2;show bindC kindOf ((p,w)::P.zip vs) m p=_;unfold bindC;rw [oS fun v hv=>(List.nodup_cons.mp nd).1 (List.of_mem_zip hv).1,if_neg hk];simp
  | p::P,w::vs,i+1,m,nd,h1,h2,hk=>by
    show bindC kindOf ((p,w)::P.zip vs) m x=_;unfold bindC;exact og (i:=i) (List.nodup_cons.mp nd).2 (by simpa using h1) (by simpa using h2) hk
noncomputable def iw (N:List Str) (vs:List V):St:=vs.map some++List.replicate (N.length-vs.length) none
noncomputable def fx (CX:wH) (P:Program) (w:World) (K:PySem.W.Frag) (mg:Str->Option Value) (base:Heap) (N:List Str) (qual:Str) (scope:Scope) (f:Addr) (cd:Value) (A:Around) (outer:List Env) (s:Shared) (H:Hp) (E:XK):Cx where
  prog:=P
  w:=w
  K:=K
  mg:=mg
  base:=base
  A:=A.deeper (envOfC qual scope s.heap.objs.size f cd)
  N:=N
  s₀:=s
  H₀:=H
  env:=envOfC qual scope s.heap.objs.size f cd
  outer:=outer
  stack:=envOfC qual scope s.heap.objs.size f cd::outer
  ex:=[]
  calm:=true
  fn:=fun _=>true
  pn:=[]
  xe:=fun e s'=>wpAny (model P w) (A.deeper (envOfC qual scope s.heap.objs.size f cd)) (leaving (envOfC qual scope s.heap.objs.size f cd) e) (fun _ s''=>CX outer H s E e s'') (fun e' s''=>CX outer H s E e' s'') s'
theorem rV {sc:Scope} {n:Nat} {x:Str} (h:sc.names.lookup x=some .cell):∃ c,(cellsFrom n sc.names []).lookup x=some c:=by
  have q:=PySem.W.cellsFrom_some sc.names n [] (.inl h);exact Option.isSome_iff_exists.mp q
theorem vL {CX:wH} {P:Program} {w:World} {K:PySem.W.Frag} {mg:Str->Option Value} {base:Heap} {N ps:List Str} {qual:Str} {scope:Scope} {f:Addr} {cd:Value} {A:Around} {outer:List Env} {s s1:Shared} {H:Hp} {E:XK} {us:List Value} {vs:List V}
    (S:aY N ps scope) (hd:A.handled=none) (e0:tJ P w K mg base A outer s H) (hl:vs.length=ps.length) (r:bB vs us)
    (x:InCallC s s.heap.objs.size (bindL (envOfC qual scope s.heap.objs.size f cd).kindOf (ps.zip us) fun _=>none) (cellsFrom (s.heap.objs.size+1) scope.names []) (bindC (envOfC qual scope s.heap.objs.size f cd).kindOf (ps.zip us) fun _=>none) s1) :
    aF (fx CX P w K mg base N qual scope f cd A outer s H E) [] (iw N vs) H s1:=by
  have hpl:ps.length<=N.length:=by have:=congrArg List.length S.pre;rw [List.length_take] at this;omega
  obtain ⟨h1,tk,rfl,hk⟩:=x.done;have noA:∀ b:Addr,b∉(fx CX P w K mg base N qual scope f cd A outer s H E).ex:=fun b z=>absurd (show b∈([]:List Addr) from z) (by simp)
  refine ⟨⟨e0.mod,S.kind,rfl,rfl,Nat.le_refl _,fun y z c h1 h2=>?_,fun y hy=>?_,fun y c _ h=>?_,fun _=>hd,Around.frames_deeper e0.frames,.inr ⟨rfl,rfl⟩,fun b z=>absurd z (noA b),e0.bs,e0.bsz,fun b _ _=>noA b,fun b z=>absurd z (noA b),e0.funs,e0.frf⟩,
    rfl,e0.bare,Un.kept hk,⟨_,x.toInCall.ns,fun i y v h1 h2 h3=>?_⟩,fun y c h=>⟨_,x.cell y c h⟩,e0.hok.fresh (Nat.le_refl _),fun y c h=>?_,fun p hp=>absurd (show p∈([]:List (Addr×Obj)) from hp) (by simp),e0.hok.kept hk,?_⟩
  · exact name_of_addr x.apart (PySem.mem_of_lookup h1) (PySem.mem_of_lookup h2)
  · have hy:scope.names.lookup y=some .cell\/scope.names.lookup y=some .free:=hy;rcases hy with hy | hy
    · exact rV hy
    · exact absurd rfl (S.nofree _ (PySem.mem_of_lookup hy))
  · exact Nat.le_of_lt (x.above y c (PySem.mem_of_lookup h))
  · have hi:i < vs.length:=by
      unfold iw at h2;by_cases hi:i < vs.length
      · exact hi
      · rw [List.getElem?_append_right (by simpa using hi)] at h2;rw [List.getElem?_replicate] at h2;split at h2 <;> cases h2
    have ha:vs[i]?=some v:=by
      unfold iw at h2;rw [List.getElem?_append_left (by simpa using hi),List.getElem?_map] at h2;cases e:vs[i]? with
      | none=>rw [e] at h2;cases h2
      | some a=>rw [e] at h2;cases h2;rfl
    obtain ⟨u,hu,rv⟩:=r.get ha;have hp:ps[i]?=some y:=by
      rw [<- S.pre,List.getElem?_take_of_lt (by omega)];exact h1
    have ndP:ps.Nodup:=by rw [<- S.pre];exact S.nd.sublist (List.take_sublist _ _)
    refine ⟨u,rv,?_⟩;rcases S.par y (List.mem_of_getElem? hp) with k | k
    · exact .inl ⟨k,oM ndP hp hu k⟩
    · obtain ⟨c,e⟩:=rV (n:=s.heap.objs.size+1) k;refine .inr ⟨.inl k,c,e,?_⟩;have q:=x.cell y c e;rw [og ndP hp hu (by show scope.names.lookup y≠_;rw [k];decide)] at q;exact q
  · exact e0.hok.fresh (Nat.le_of_lt (x.above y c (PySem.mem_of_lookup h)))
  · unfold iw;show _=N.length;rw [List.length_append,List.length_map,List.length_replicate];omega
theorem xQ {CX:wH} {P:Program} {w:World} {K:PySem.W.Frag} {mg:Str->Option Value} {base:Heap} {k:Nat} {f:Addr} {name qual:Str} {params:Arguments} {body:List Stmt} {scope:Scope} {dV kV doc pm cdv ct oc:Value} {an od:Option Addr}
    {osl:Array (Option Value)} {N ps:List Str} {sp:Sp} (lk:K.lookup f=some ⟨oc,od,.func (PySem.W.fnOf name qual params body scope dV kV doc pm an cdv ct),osl⟩) (hcd:PySem.W.codeIn K cdv qual=true) (S:aY N ps scope)
    (len:∀ vs H Q E,sp vs H Q E->vs.length=ps.length)
    (hbody:∀ (A:Around) (outer:List Env) (s:Shared) (H:Hp) (vs:List V) (Q:VK) (E:XK),eJ k (A.deeper (envOfC qual scope s.heap.objs.size f cdv))->sp vs H Q E ->
      ∃ t,p0 (fx CX P w K mg base N qual scope f cdv A outer s H E) body t/\t { nx:=fun _ H'=>Q .non H',rt:=Q } (iw N vs) H) :
    bf P w K mg base CX (k+1) f (PySem.W.fnOf name qual params body scope dV kV doc pm an cdv ct) ps sp:=by
  refine ⟨len,fun A outer s H args us vs Q E hr e0 hb r hsp=>?_⟩;have hl:=len _ _ _ _ hsp;have KX:K.In s.heap:=e0.mod.kin.keeps fun b o e=>(e0.bs b o e).1
  have lim:s.heap.NoLimit:=e0.mod.nolimit.keeps fun b o e=>(e0.bs b o e).1
  have hkind:∀ y∈ps.zip us,scope.names.lookup y.1=some .local\/(scope.names.lookup y.1=some .cell/\((cellsFrom (s.heap.objs.size+1) scope.names []).lookup y.1).isSome=true):=fun ⟨n,v⟩ hy=>by
    rcases S.par n (List.of_mem_zip hy).1 with q | q
    · exact .inl q
    · exact .inr ⟨q,PySem.W.cellsFrom_some _ _ _ (.inl q)⟩
  refine codeAny_call_function hr.depth (KX _ _ lk) rfl S.co S.gen rfl (PySem.W.codeRec_of KX hcd) (hb _ _ _ _ ?_);refine wpAny_newFunctionEnv_cells S.kind hkind fun env he s1 x=>?_
  subst he;refine ⟨lim.keeps x.toInCall.keep,codeAny_func ?_⟩;obtain ⟨t,ht,hq⟩:=hbody A outer s H vs Q E (hr.deeper _) hsp;have I:aF (fx CX P w K mg base N qual scope f cdv A outer s H E) [] (iw N vs) H s1:=vL S hr.hd e0 hl r x;refine wpAny_mono (ht [] s1 (iw N vs) H _ I hq) (fun fl s' hs=>?_) fun e s' hs=>hs
  have fin:∀ {σ':St} {H':Hp} {v:V} {u:Value},aF (fx CX P w K mg base N qual scope f cdv A outer s H E) [] σ' H' s'->bL v u->Q v H'->CE outer P w H s Q u s' :=
    fun {σ' H' v u} J rv q=>⟨v,H',J.os,J.bare,J.base,J.hok,rv,q⟩
  cases fl with
  | ret u =>
    obtain ⟨v,σ',H',J,rv,q⟩:=hs;exact fin J rv q
  | next =>
    obtain ⟨σ',H',J,q⟩:=hs;exact fin (v:=V.non) (u:=Value.none) J rfl q
  | brk =>
    obtain ⟨_,_,_,q⟩:=hs;exact False.elim q
  | cont =>
    obtain ⟨_,_,_,q⟩:=hs;exact False.elim q
section
variable {X:Cx} {x:Str} {p pos:Pos} {e:Expr} {es:List Expr} {t:TA} {id T:String} {r:List V->Hp->VK->Prop}
noncomputable def Fl (r:List V->Hp->VK->Prop) (t:TA):TE:=fun σ H Q=>t σ H fun vs H1=>r vs H1 Q
theorem nc (hc:di X (.builtin id) r) (hg:Gl X x) (hm:X.mg x=none) (hv:bootBuiltins x=some (.builtin id)) (ha:PA X (e::es) t) (hn:x ≠ "__name__" := by decide) (hdb:(x==("__debug__" : Str))=false:=by decide)
    (he:starEach (e::es) X.env=(false,eval e X.env)::starEach es X.env:=by rfl) (hpl:(backTo pos (starEach es X.env)).any (·.1)=false:=by rfl):PE X (.Call (.Name x p) (e::es) [] pos) (Fl r t):=by
  intro pins s σ H Q I h;refine wpAny_Call_Name_kw (ie I hg hm hv ?_ hn hdb);exact PyProof.Rows.callWith_builtin1 (df (ha pos pins s σ H _ I h) fun us s1 ⟨vs,H1,I1,r1,q1⟩=>hc pins s1 σ H1 vs us Q I1 r1 q1) he hpl
theorem vg (hc:di X (.type T) r) (hg:Gl X x) (hm:X.mg x=none) (hv:bootBuiltins x=some (.type T)) (ha:PA X (e::es) t) (hn:x ≠ "__name__" := by decide) (hdb:(x==("__debug__" : Str))=false:=by decide)
    (he:starEach (e::es) X.env=(false,eval e X.env)::starEach es X.env:=by rfl) (hpl:(backTo pos (starEach es X.env)).any (·.1)=false:=by rfl):PE X (.Call (.Name x p) (e::es) [] pos) (Fl r t):=by
  intro pins s σ H Q I h;refine wpAny_Call_Name_kw (ie I hg hm hv ?_ hn hdb);exact PyProof.Rows.callWith_type1 (df (ha pos pins s σ H _ I h) fun us s1 ⟨vs,H1,I1,r1,q1⟩=>hc pins s1 σ H1 vs us Q I1 r1 q1) he hpl
end
end L2
namespace HT
open PySem PyProof.Rows
noncomputable def lexLt:List Int->List Int->Bool
  | [],[]=>false
  | [],_::_=>true
  | _::_,[]=>false
  | x::xs,y::ys=>if x=y then lexLt xs ys else decide (x < y)
theorem lexLt_cons (x y:Int) (xs ys:List Int):lexLt (x::xs) (y::ys)=if x=y then lexLt xs ys else decide (x < y):=rfl
theorem ju:lexLt [] []=false:=rfl
theorem iN (y:Int) (ys:List Int):lexLt [] (y::ys)=true:=rfl
theorem iP (x:Int) (xs:List Int):lexLt (x::xs) []=false:=rfl
theorem qZ (A:Around) (s:Shared) (a:Int) (t:Tok) (c:Int) (u:Tok):∃ e,SeqAt.EqAt A s (.int a t) (.int c u) e/\(e=true<->a=c) :=
  ⟨(a==c),SeqAt.EqAt.int_int a t c u,by simp⟩
theorem yQ (A:Around) (s:Shared) (a:Int) (t:Tok) (c:Int) (u:Tok) (prog:Program) (w:World) (E:Value->Shared->Prop) (Q:Value->Shared->Prop) (h:Q (.bool (decide (a < c))) s) :
    wpAny (model prog w) A (richCompare .Lt (.int a t) (.int c u)) Q E s :=
  (PyProof.Rows.lt_int h:wpAny (model prog w) A (compareOp .Lt (.int a t) (.int c u)) Q E s)
section
open PySem.SeqAt
open PySem.AutoSeq1 (wpAny_loadPart')
open PySem.MeetsSeq PySem.MeetsSeq2 PySem.MeetsSeq3
theorem nX (l b:Addr) (items items2:Array Value) (n n2:Nat) (dd dd2:Option Addr) (sl sl2:Array (Option Value)) (ns ms:List Int) (hi:IntsAre items.toList ns) (hj:IntsAre items2.toList ms) :
    Meets (Builtin.«tuple.__lt__» ⟨[.ref l,.ref b],[]⟩)
      (fun _ R s=>s.heap.get? l=some { cls:=.type "tuple",dict:=dd,data:=.seq items n,slots:=sl }/\s.heap.get? b=some { cls:=.type "tuple",dict:=dd2,data:=.seq items2 n2,slots:=sl2 } /\
        R (.ok (.ret (.bool (lexLt ns ms)))) s) :=
  .of_wp fun prog w A R s h=>by
    obtain ⟨hp,g,d,tk,os⟩:=s;obtain ⟨hl,hb,h⟩:=h;have f2:=AutoSeq1.sub_tuple_tuple;have z1:items.size=ns.length:=by rw [<- hi.length];simp
    have z2:items2.size=ms.length:=by rw [<- hj.length];simp
    wp_walk using wpAny_loadPart' hl,wpAny_loadPart' hb,wpAny_forIn_list _ (fun dW b s'=>b.1=none/\s'=⟨hp,g,d,tk,os⟩/\∃ (vs ws:List Value) (ns' ms':List Int),dW=vs.zip ws /\
      IntsAre vs ns'/\IntsAre ws ms'/\ns'.length+items2.size=ms'.length+items.size/\R (.ok (.ret (.bool (lexLt ns' ms')))) ⟨hp,g,d,tk,os⟩) _
    case turn =>
      rintro ⟨y,x⟩ dW b s' ⟨hb',rfl,vs,ws,ns',ms',hz,hvi,hwi,hlen,hR⟩;cases hvi with
      | nil=>rw [List.zip_nil_left] at hz;cases hz
      | cons a t hvi' =>
        cases hwi with
        | nil=>rw [List.zip_nil_right] at hz;cases hz
        | cons c u hwi' =>
          rw [List.zip_cons_cons] at hz;injection hz with hyx hrest
          injection hyx with hy hx
          subst hy hx;rw [lexLt_cons] at hR;simp only [List.length_cons] at hlen;obtain ⟨e,he,hiff⟩:=qZ A.in1 ⟨hp,g,d,tk,os⟩ a t c u;refine wpAny_bind (he prog w _ _ ?_);cases e with
          | true =>
            rw [if_pos (hiff.mp rfl)] at hR
            wp_walk
            exact ⟨rfl,rfl,_,_,_,_,hrest,hvi',hwi',by omega,hR⟩
          | false =>
            rw [if_neg (fun q=>absurd (hiff.mpr q) Bool.false_ne_true)] at hR;have hri:=yQ A.in1 ⟨hp,g,d,tk,os⟩ a t c u prog w
            wp_walk using hri
            exact ⟨_,rfl,by simpa using hR⟩
    case fin =>
      rintro ⟨b1,b2⟩ s' ⟨hb',rfl,vs,ws,ns',ms',hz,hvi,hwi,hlen,hR⟩;simp only at hb';subst hb';have hv:lexLt ns' ms'=decide (items.size < items2.size):=by
        cases hvi with
        | nil =>
          cases hwi with
          | nil =>
            simp only [List.length_nil] at hlen;rw [ju];exact (decide_eq_false (by omega)).symm
          | cons c u hw =>
            simp only [List.length_nil,List.length_cons] at hlen;rw [iN];exact (decide_eq_true (by omega)).symm
        | cons a t hv =>
          cases hwi with
          | nil =>
            simp only [List.length_nil,List.length_cons] at hlen;rw [iP];exact (decide_eq_false (by omega)).symm
          | cons c u hw =>
            rw [List.zip_cons_cons] at hz;cases hz
      rw [hv] at hR
      wp_walk
      exact ⟨_,rfl,by simpa [Builtin.Tuple.tupleCompareSizes] using hR⟩
    case h =>
      exact ⟨rfl,rfl,items.toList,items2.toList,ns,ms,rfl,hi,hj,by omega,h⟩
end
section
variable {prog:Program} {w:World} {A:Around} {E:Value->Shared->Prop} {s:Shared}
theorem lt_tupInts {l b:Addr} {items items2:Array Value} {ns ms:List Int} {Q:Value->Shared->Prop} (hl:IsTup s.heap l items) (hb:IsTup s.heap b items2) (hi:IntsAre items.toList ns) (hj:IntsAre items2.toList ms)
    (hu:A.units < cLine) (h:Q (.bool (lexLt ns ms)) s):wpAny (model prog w) A (compareOp .Lt (.ref l) (.ref b)) Q E s:=by
  obtain ⟨⟨cls,dd,data,sl⟩,ho,hc,n,hd⟩:=id hl;obtain ⟨⟨cls2,dd2,data2,sl2⟩,ho2,hc2,n2,hd2⟩:=id hb;simp only at hc hd hc2 hd2;subst hc hd hc2 hd2;exact richCompare_meets_room (op:=.Lt) ⟨_,ho,rfl⟩ ⟨_,ho2,rfl⟩ PySem.F.slot_tuple_lt PySem.F.entry_tuple_lt (PySem.F.args_tuple_lt_2 _ _) (nX l b items items2 n n2 dd dd2 sl sl2 ns ms hi hj)
    ⟨ho,ho2,show Value.bool (lexLt ns ms)≠Value.notImplemented/\Q (.bool (lexLt ns ms)) s from ⟨(fun x=>nomatch x),h⟩⟩ hu
theorem cat_tup {t b:Addr} {vs ws:List Value} {Q:Value->Shared->Prop} (ht:IsTup s.heap t vs.toArray) (hb:IsTup s.heap b ws.toArray) (hv:vs≠[])
    (h1:ws=[]->Q (.ref t) s) (h2:ws≠[]->Q (.ref s.heap.objs.size) { s with heap:=s.heap.push { cls:=.type "tuple",data:=.seq (vs++ws).toArray } })
    (hsz:vs.length+ws.length<=sizeLine):wpAny (model prog w) A (binaryOp .Add (.ref t) (.ref b)) Q E s:=by
  obtain ⟨⟨cls,dd,data,sl⟩,ho,hc,n,hd⟩:=id ht;obtain ⟨⟨cls2,dd2,data2,sl2⟩,ho2,hc2,n2,hd2⟩:=id hb;simp only at hc hd hc2 hd2;subst hc hd hc2 hd2;have e:vs.toArray++ws.toArray=(vs++ws).toArray:=by simp
  by_cases hw:ws=[]
  · exact concat_meets ⟨_,ho,rfl⟩ ⟨_,ho2,rfl⟩ noFill_tuple_add seq_tuple_add PySem.F.slot_tuple_add PySem.F.entry_tuple_add (PySem.F.args_tuple_add_2 _ _)
      (tuple_addW1 t b vs.toArray ws.toArray n n2 dd dd2 sl sl2 (by simpa using hv) (by simp [hw])) ⟨ho,ho2,h1 hw⟩
  · refine concat_meets ⟨_,ho,rfl⟩ ⟨_,ho2,rfl⟩ noFill_tuple_add seq_tuple_add PySem.F.slot_tuple_add PySem.F.entry_tuple_add (PySem.F.args_tuple_add_2 _ _)
      (tuple_addW2 t b vs.toArray ws.toArray n n2 dd dd2 sl sl2 (by simpa using hv) (by simpa using hw) (by rw [List.size_toArray,List.size_toArray];exact hsz)) ⟨ho,ho2,?_⟩
    rw [e];exact h2 hw
noncomputable def sIx (n d:Nat):Option Int->Nat
  | none=>d
  | some v=>if v < 0 then (v+(n:Int)).toNat else min v.toNat n
theorem mL (n d:Nat):sIx n d none=d:=rfl
theorem pT (n d k:Nat):sIx n d (some (k:Int))=min k n:=by
  show (if (k:Int) < 0 then ((k:Int)+(n:Int)).toNat else min (k:Int).toNat n)=min k n;rw [if_neg (by omega),Int.toNat_natCast]
theorem CP (n d:Nat) (hd:d<=n) (o:Option Int):sIx n d o<=n:=by
  cases o with
  | none=>exact hd
  | some v =>
    show (if v < 0 then (v+(n:Int)).toNat else min v.toNat n)<=n;by_cases hv:v < 0
    · rw [if_pos hv];omega
    · rw [if_neg hv];exact Nat.min_le_right _ _
theorem uh (v:Int) (n d:Nat):(if v < 0 then max (v+(n:Int)) 0 else min v (n:Int))=((sIx n d (some v):Nat):Int):=by
  show (if v < 0 then max (v+(n:Int)) 0 else min v (n:Int))=(((if v < 0 then (v+(n:Int)).toNat else min v.toNat n):Nat):Int)
  by_cases hv:v < 0
  · simp only [if_pos hv];omega
  · simp only [if_neg hv];omega
theorem tT (lo hi:Option Int) (n:Nat):Builtin.Slice.sliceAdjust lo hi 1 (n:Int)=(((sIx n 0 lo:Nat):Int),((sIx n n hi:Nat):Int)):=by
  have h1:¬ ((1:Int) < 0):=by omega
  unfold Builtin.Slice.sliceAdjust;simp only [h1,if_false];refine Prod.ext ?_ ?_
  · cases lo with
    | none=>rfl
    | some v=>exact uh v n 0
  · cases hi with
    | none=>rfl
    | some v=>exact uh v n n
theorem sv (i j:Nat):Builtin.Slice.slicePlaces (i:Int) (j:Int) 1=j-i:=by
  unfold Builtin.Slice.slicePlaces;have h1:(1:Int) > 0:=by omega
  simp only [h1,if_true,Int.ediv_one];split <;> omega
theorem md {v:Value} {o:Option Int} {Q:Option Int->Shared->Prop} (p:IsPart v o) (h:Q o s):wpAny (model prog w) A (Builtin.Slice.slicePartIndex v) Q E s:=by
  cases p with
  | none=>exact slicePart_none h
  | int i t=>exact slicePart_int h
theorem sliceApplied_gen {sl:Addr} {vl vu:Value} {lo hi:Option Int} {n:Nat} {Q:Int×Int×Nat->Shared->Prop} (hs:s.heap.IsSliceOf sl vl vu .none) (pl:IsPart vl lo) (pu:IsPart vu hi)
    (h:Q (((sIx n 0 lo:Nat):Int),1,sIx n n hi-sIx n 0 lo) s):wpAny (model prog w) A (Builtin.Slice.sliceApplied (.ref sl) (pure (n:Int))) Q E s:=by
  obtain ⟨os,hos,hcs,hds⟩:=id hs;unfold Builtin.Slice.sliceApplied Builtin.Slice.sliceFields;refine wpAny_bind (wpAny_bind (wpAny_field hos hds (x:=vl) rfl (wpAny_bind (wpAny_field hos hds (x:=vu) rfl (wpAny_bind (wpAny_field hos hds (x:=.none) rfl (wpAny_pure ?_)))))));refine wpAny_bind (slicePart_none ?_);show wpAny _ _ (if ((1:Int)==0)=true then _ else _) _ _ s;rw [if_neg (by decide)];refine wpAny_bind (md pl (wpAny_bind (md pu (wpAny_bind (wpAny_pure ?_)))));show wpAny _ _ (match Builtin.Slice.sliceAdjust lo hi 1 (n:Int) with | (lo,hi)=>pure (lo,(1:Int),Builtin.Slice.slicePlaces lo hi 1)) _ _ s;rw [tT lo hi n];show wpAny _ _ (pure (((sIx n 0 lo:Nat):Int),(1:Int),Builtin.Slice.slicePlaces ((sIx n 0 lo:Nat):Int) ((sIx n n hi:Nat):Int) 1)) _ _ s;rw [sv];exact wpAny_pure h
theorem wS (xs:Array Value) (i k:Nat):((List.range k).filterMap fun (m:Nat)=>xs[((i:Int)+(m:Int)*1).toNat]?).toArray=((xs.toList.drop i).take k).toArray:=by
  have e:(fun (m:Nat)=>xs[((i:Int)+(m:Int)*1).toNat]?)=fun m=>xs[i+m]?:=by
    funext m;have:((i:Int)+(m:Int)*1).toNat=i+m:=by omega
    rw [this]
  rw [e];have:=pick_run xs i k;rw [List.filterMap_map] at this;have e2:((fun x=>xs[x]?)∘fun x=>i+x)=fun m=>xs[i+m]?:=rfl
  rw [e2] at this;rw [this]
theorem getItem_tuple_cut {t sl:Addr} {items:Array Value} {vl vu:Value} {lo hi:Option Int} {Q:Value->Shared->Prop} (ht:IsTup s.heap t items) (hs:s.heap.IsSliceOf sl vl vu .none) (pl:IsPart vl lo) (pu:IsPart vu hi)
    (hw:¬ (sIx items.size 0 lo=0/\sIx items.size items.size hi=items.size))
    (h:Q (.ref s.heap.objs.size) { s with heap:=s.heap.push { cls:=.type "tuple",data:=.seq ((items.toList.drop (sIx items.size 0 lo)).take (sIx items.size items.size hi-sIx items.size 0 lo)).toArray } })
    (hsz:items.size<=sizeLine):wpAny (model prog w) A (getItem (.ref t) (.ref sl)) Q E s:=by
  have htake:sizeOk (.seq ((items.toList.drop (sIx items.size 0 lo)).take (sIx items.size items.size hi-sIx items.size 0 lo)).toArray):=by
    show ((items.toList.drop (sIx items.size 0 lo)).take (sIx items.size items.size hi-sIx items.size 0 lo)).toArray.size<=sizeLine;rw [List.size_toArray,List.length_take,List.length_drop,Array.length_toList];omega
  have hj:sIx items.size items.size hi<=items.size:=CP _ _ (Nat.le_refl _) hi;obtain ⟨os,hos,hcs,hds⟩:=id hs;have hTs:s.TypeIs (.ref sl) "slice" := ⟨os,hos,hcs⟩
  unfold getItem
  try with_reducible refine wpAny_holding ?_
  first | refine wpAny_bind (wpAny_pure ?_) | skip
  refine wpAny_bind (wpAny_sequenceKey ht.typeIs (by decide) ?_);refine wpAny_bind (wpAny_callSpecial?_slot (name:=Str.ofString "__getitem__") ht.typeIs PyProof.Rows.slot_tuple_getitem
    (wpAny_call_entry PyProof.Rows.slot_tuple_getitem ht.typeIs entry_tuple_getitem ?_ (args_tuple_getitem _ _)))
  show wpAny _ _ (Builtin.Tuple.tupleItemsOf (.ref t)>>=_) _ _ s;refine wpAny_bind (tupleItemsOf_ ht ?_);refine wpAny_bind (wpAny_typeOf hTs ?_);rw [if_pos (by decide)];refine wpAny_bind (sliceApplied_gen hs pl pu ?_);have hno:¬ ((((sIx items.size 0 lo:Nat):Int)==0&&(1:Int)==1&&(sIx items.size items.size hi-sIx items.size 0 lo)==items.size)=true):=by
    intro q;rw [Bool.and_eq_true,Bool.and_eq_true] at q;have q1:((sIx items.size 0 lo:Nat):Int)=0:=eq_of_beq q.1.1;have q2:sIx items.size items.size hi-sIx items.size 0 lo=items.size:=eq_of_beq q.2;exact hw ⟨by omega,by omega⟩
  show wpAny _ _ (if (((sIx items.size 0 lo:Nat):Int)==0&&(1:Int)==1&&(sIx items.size items.size hi-sIx items.size 0 lo)==items.size)=true then _ else _) _ _ s;rw [if_neg hno,wS]
  first
    | exact wpAny_bind (m:=Builtin.Tuple.tupleExact _) (wpAny_newObj_type (wpAny_pure ⟨_,rfl,wpAny_pure h⟩) htake)
    | exact wpAny_bind (m:=Builtin.Tuple.tupleExact _) (wpAny_newObj_type (wpAny_bind (wpAny_pure (wpAny_pure ⟨_,rfl,wpAny_pure h⟩))) htake)
    | exact wpAny_bind (wpAny_bind (m:=Builtin.Tuple.tupleExact _) (wpAny_newObj_type (wpAny_pure (wpAny_pure ⟨_,rfl,wpAny_pure h⟩)) htake))
    | exact wpAny_bind (wpAny_bind (m:=Builtin.Tuple.tupleExact _) (wpAny_newObj_type (wpAny_pure ⟨_,rfl,wpAny_pure h⟩) htake))
end
end HT
namespace L2
open PySem PySem.Spec PyProof.Rows
noncomputable abbrev TO:=St->Hp->(Option Int->Hp->Prop)->Prop
noncomputable def PO (X:Cx) (e:Option Expr) (t:TO):Prop :=
  ∀ (pins:List (Addr×Obj)) (s:Shared) (σ:St) (H:Hp) (Q:Option Int->Hp->Prop),aF X pins σ H s->t σ H Q ->
    wpAny (model X.prog X.w) X.A (evalPart e X.env) (fun u s'=>∃ o H',aF X pins σ H' s'/\IsPart u o/\Q o H') X.xe s
noncomputable def zO:TO:=fun _ H Q=>Q none H
noncomputable def Ee (t:TE):TO:=fun σ H Q=>t σ H fun x H1=>∃ i,x=.int i/\Q (some i) H1
theorem ej {ns:List Int}:∀ {us:List Value},bB (ns.map V.int) us->IntsAre us ns:=by
  induction ns with
  | nil=>intro us r;rw [List.map_nil] at r;cases r;exact .nil
  | cons n ns ih =>
    intro us r;rw [List.map_cons] at r;cases r with
    | cons r1 r2 =>
      obtain ⟨t,e⟩:=r1;subst e;exact .cons n t (ih r2)
section
variable {X:Cx} {e:Expr} {te:TE} {lo hi:Option Expr} {tl th:TO} {pos p2:Pos}
theorem Ap:PO X none zO:=by
  intro pins s σ H Q I h;rw [evalPart_none];exact wpAny_pure ⟨none,H,I,.none,h⟩
theorem Ab (h:PE X e te):PO X (some e) (Ee te):=by
  intro pins s σ H Q I hw;rw [evalPart_some];refine df (h pins s σ H _ I hw) fun u s1 ⟨x,H1,I1,r1,q1⟩=>?_
  obtain ⟨i,rfl,q⟩:=q1;obtain ⟨t,rfl⟩:=r1;exact ⟨some i,H1,I1,.int i t,q⟩
noncomputable def Ay (X:Cx) (r:V->Option Int->Option Int->Hp->VK->Prop):Prop :=
  ∀ (pins:List (Addr×Obj)) (s:Shared) (σ:St) (H:Hp) (x:V) (v vl vu:Value) (lo hi:Option Int) (sl:Addr) (Q:VK),aF X pins σ H s->bL x v->s.heap.IsSliceOf sl vl vu .none->IsPart vl lo->IsPart vu hi->r x lo hi H Q ->
    ∃ T id,typeLookup (.type T) "__getitem__" = pure (some (.builtin id))/\s.TypeIs v T/\wpAny (model X.prog X.w) X.A (getItem v (.ref sl)) (EP X pins σ Q) X.xe s
theorem Ay.or {r r':V->Option Int->Option Int->Hp->VK->Prop} (h:Ay X r) (h':Ay X r'):Ay X (fun x lo hi H Q=>r x lo hi H Q\/r' x lo hi H Q):=by
  intro pins s σ H x v vl vu lo hi sl Q I rx hs pl pu q;rcases q with q | q
  · exact h pins s σ H x v vl vu lo hi sl Q I rx hs pl pu q
  · exact h' pins s σ H x v vl vu lo hi sl Q I rx hs pl pu q
noncomputable def FH (r:V->Option Int->Option Int->Hp->VK->Prop) (te:TE) (tl th:TO):TE:=fun σ H Q=>te σ H fun x H1=>tl σ H1 fun l H2=>th σ H2 fun u H3=>r x l u H3 Q
theorem yj {r:V->Option Int->Option Int->Hp->VK->Prop} (hr:Ay X r) (he:PE X e te) (hl:PO X lo tl) (hu:PO X hi th):PE X (.Subscript e (.Slice lo hi none p2) pos) (FH r te tl th):=by
  intro pins s σ H Q I h;refine Subscript_ (df (he pins s σ H _ I h) fun v s1 ⟨x,H1,I1,r1,q1⟩=>?_);refine wpAny_Slice (df (hl pins s1 σ H1 _ I1 q1) fun vl s2 ⟨l,H2,I2,pl,q2⟩=>df (hu pins s2 σ H2 _ I2 q2) fun vu s3 ⟨u,H3,I3,pu,q3⟩=>?_);rw [evalPart_none];refine wpAny_pure ?_;have I4:aF X pins σ H3 { s3 with heap:=s3.heap.push { cls:=.type "slice",data:=.fields #[vl,vu,.none] } }:=I3.kept (t':=s3.toks) fun b ob q=>Heap.get?_push_of_some _ q
  obtain ⟨T,id,hT,ht,hg⟩:=hr pins { s3 with heap:=s3.heap.push { cls:=.type "slice",data:=.fields #[vl,vu,.none] } } σ H3 x v vl vu l u s3.heap.objs.size Q I4 r1 (Heap.IsSliceOf.new ..) pl pu q3;show wpAny (model X.prog X.w) X.A (subscriptTail e (.Slice lo hi none p2) v (.ref s3.heap.objs.size)) (EP X pins σ Q) X.xe { s3 with heap:=s3.heap.push { cls:=.type "slice",data:=.fields #[vl,vu,.none] } };exact tail_any (ops:=[.ref s3.heap.objs.size,v]) ht hT hg (by with_unfolding_all rfl)
noncomputable def rF (xs:List V) (lo hi:Option Int):List V:=(xs.drop (HT.sIx xs.length 0 lo)).take (HT.sIx xs.length xs.length hi-HT.sIx xs.length 0 lo)
theorem lv (xs:List V) (lo hi:Option Int):(rF xs lo hi).length<=xs.length:=by
  unfold rF;rw [List.length_take,List.length_drop];omega
noncomputable def E5 (K:PySem.W.Frag):V->Option Int->Option Int->Hp->VK->Prop:=fun x lo hi H Q=>∃ a xs,x=.ref a/\gh K H a xs /\
  ¬ (HT.sIx xs.length 0 lo=0/\HT.sIx xs.length xs.length hi=xs.length)/\∀ p,H p=none->Q (.ref p) (cA H p (.tup (rF xs lo hi)))
theorem Bo:Ay X (E5 X.K):=by
  intro pins s σ H x v vl vu lo hi sl Q I rx hs pl pu h;obtain ⟨a,xs,rfl,hx,hw,q⟩:=h;cases rx;obtain ⟨its,r,ht,hz⟩:=I.tuple hx;have hlen:its.toArray.size=xs.length:=by rw [List.size_toArray];exact r.length.symm
  refine ⟨"tuple",_,PyProof.Rows.slot_tuple_getitem.lookup,ht.typeIs,?_⟩;refine HT.getItem_tuple_cut ht hs pl pu (by rw [hlen];exact hw) ?_ (by rw [hlen];exact hz);rw [hlen];refine ⟨.ref s.heap.objs.size,_,I.laid (t':=s.toks) (o:=.tup (rF xs lo hi)) (fun b ob q=>Heap.get?_push_of_some _ q) (Nat.le_refl _) ?_,rfl,q _ (I.hok.fresh (Nat.le_refl _))⟩;exact ⟨Nat.le_trans (lv xs lo hi) hz,_,(r.drop (HT.sIx xs.length 0 lo)).take (HT.sIx xs.length xs.length hi-HT.sIx xs.length 0 lo),IsTup.new _ _⟩
noncomputable def A0 (K:PySem.W.Frag):R2:=fun x y H Q=>∃ a b xs ys,x=.ref a/\y=.ref b/\gh K H a xs/\gh K H b ys/\xs≠[]/\xs.length+ys.length<=sizeLine /\
  (ys=[]->Q (.ref a) H)/\(ys≠[]->∀ p,H p=none->Q (.ref p) (cA H p (.tup (xs++ys))))
theorem bB.nil_iff {xs:List V} {us:List Value} (r:bB xs us):us=[]<->xs=[]:=by
  cases r with
  | nil=>simp
  | cons _ _=>simp
theorem Ae:jx X (binaryOp .Add) (A0 X.K):=by
  intro pins s σ H x y v u Q I rx ry h;obtain ⟨a,b,xs,ys,rfl,rfl,ha,hb,hx,hz,q1,q2⟩:=h;cases rx;cases ry;obtain ⟨its,r1,p1,_⟩:=I.tuple ha;obtain ⟨its2,r2,p2,_⟩:=I.tuple hb;refine HT.cat_tup p1 p2 (fun z=>hx (r1.nil_iff.mp z)) (fun z=>⟨.ref a,H,I,rfl,q1 (r2.nil_iff.mp z)⟩) (fun z=>?_) (by rw [<- r1.length,<- r2.length];exact hz);refine ⟨.ref s.heap.objs.size,_,I.laid (t':=s.toks) (o:=.tup (xs++ys)) (fun b ob q=>Heap.get?_push_of_some _ q) (Nat.le_refl _) ?_,rfl,q2 (fun w=>z (r2.nil_iff.mpr w)) _ (I.hok.fresh (Nat.le_refl _))⟩;exact ⟨by rw [List.length_append];exact hz,_,r1.append r2,IsTup.new _ _⟩
end
noncomputable def uu (n:Nat) (i:Int):Option Nat:=if 0<=i then (if i < n then some i.toNat else none) else if -(n:Int)<=i then some (i+n).toNat else none
noncomputable def atI {α:Type} (xs:List α) (i:Int):Option α:=(uu xs.length i).bind fun j=>xs[j]?
theorem u4 {n:Nat} {i:Int} {j:Nat} (h:uu n i=some j):seqIndex? i n=some j/\j < n/\-(n:Int)<=i/\i < n:=by
  unfold uu at h;by_cases h0:0<=i
  · rw [if_pos h0] at h;by_cases h1:i < n
    · rw [if_pos h1] at h;have e:i.toNat=j:=Option.some.inj h;exact ⟨by rw [seqIndex_of h0 h1,e],by omega,by omega,h1⟩
    · rw [if_neg h1] at h;cases h
  · rw [if_neg h0] at h;by_cases h1:-(n:Int)<=i
    · rw [if_pos h1] at h;have e:(i+n).toNat=j:=Option.some.inj h;exact ⟨by rw [seqIndex_neg (by omega) h1,e],by omega,h1,by omega⟩
    · rw [if_neg h1] at h;cases h
theorem pM {α:Type} {xs:List α} {i:Int} {v:α} (h:atI xs i=some v):∃ j,seqIndex? i xs.length=some j/\xs[j]?=some v/\j < xs.length/\-(xs.length:Int)<=i/\i < xs.length:=by
  unfold atI at h;cases e:uu xs.length i with
  | none=>rw [e] at h;cases h
  | some j =>
    rw [e] at h;obtain ⟨h1,h2,h3,h4⟩:=u4 e;exact ⟨j,h1,h,h2,h3,h4⟩
theorem qc {α:Type} {xs:List α} {j:Nat} {v:α} (h:xs[j]?=some v):atI xs (j:Int)=some v:=by
  have hj:j < xs.length:=(List.getElem?_eq_some_iff.mp h).1;have e:uu xs.length (j:Int)=some j:=by
    unfold uu;rw [if_pos (by omega),if_pos (by omega)];simp
  unfold atI;rw [e];exact h
noncomputable def uZ (b:Expr):Prop:=∀ o i,subscripted b false o i=operate [o,i] (getItem o i)
noncomputable def Av (X:Cx) (r:R2):Prop :=
  ∀ (value slice:Expr) (pins:List (Addr×Obj)) (s:Shared) (σ:St) (H:Hp) (x y:V) (v u:Value) (Q:VK),aF X pins σ H s->bL x v->bL y u->r x y H Q ->
    subscripted slice false v u=operate [v,u] (getItem v u)->wpAny (model X.prog X.w) X.A (subscriptTail value slice v u) (EP X pins σ Q) X.xe s
noncomputable def Fw (X:Cx) (id:String) (r:V->List V->Hp->VK->Prop):Prop :=
  ∀ (pins:List (Addr×Obj)) (s:Shared) (σ:St) (H:Hp) (x:V) (xs:List V) (v:Value) (us:List Value) (Q:VK),aF X pins σ H s->bL x v->bB xs us->r x xs H Q ->
    wpAny (model X.prog X.w) X.A (call (.builtin id) (v::us)) (EP X pins σ Q) X.xe s
section
variable {X:Cx} {a b:Expr} {ta tb:TE} {pos:Pos}
theorem Av.or {r r':R2} (h:Av X r) (h':Av X r'):Av X (fun x y H Q=>r x y H Q\/r' x y H Q):=by
  intro value slice pins s σ H x y v u Q I rx ry q hs;rcases q with q | q
  · exact h value slice pins s σ H x y v u Q I rx ry q hs
  · exact h' value slice pins s σ H x y v u Q I rx ry q hs
theorem Eo {r:R2} (hr:Av X r) (ha:PE X a ta) (hb:PE X b tb) (hs:uZ b):PE X (.Subscript a b pos) (Ea r ta tb):=by
  intro pins s σ H Q I h;exact Subscript_ (Cp ha hb I h fun v u s2 x y H2 I2 rx ry q=>hr a b pins s2 σ H2 x y v u Q I2 rx ry q (hs _ _))
noncomputable def DT (K:PySem.W.Frag):R2:=fun x y H Q=>∃ p xs i v,x=.ref p/\y=.int i/\kx K H p xs/\atI xs i=some v/\Q v H
noncomputable def DG (K:PySem.W.Frag):R2:=fun x y H Q=>∃ p xs i v,x=.ref p/\y=.int i/\gh K H p xs/\atI xs i=some v/\Q v H
noncomputable def Ek:R2:=fun x y H Q=>∃ z i c,x=.str z/\y=.int i/\z.length<=sizeLine/\atI z.cps.toList i=some c/\Q (.str ⟨#[c]⟩) H
theorem Ao:Av X (DT X.K):=by
  intro value slice pins s σ H x y v u Q I rx ry h hs;obtain ⟨p,xs,i,z,rfl,rfl,hq,he,q⟩:=h;cases rx;obtain ⟨t,rfl⟩:=ry;obtain ⟨its,r,pl,hz⟩:=I.list hq;obtain ⟨j,h1,h2,h3,h4,h5⟩:=pM he;obtain ⟨w,ew,rw'⟩:=r.get h2;have hl:=r.length;have hn:=kZ;have fin:EP X pins σ Q w s:=⟨z,H,I,rw',q⟩
  by_cases h0:0<=i
  · have hj:i.toNat=j:=by
      rw [seqIndex_of h0 h5] at h1;exact Option.some.inj h1
    exact item_listR pl.isList h0 (by omega) (by rw [hj];simpa using ew) fin hs
  · have hj:(i+(its.toArray.size:Int)).toNat=j:=by
      rw [seqIndex_neg (by omega) h4] at h1;rw [List.size_toArray,<- hl];exact Option.some.inj h1
    exact subscriptTail_builtinR (x:=w) pl.isList.typeIs slot_list_getitem.lookup
      (wpAny_getItem_list_neg (Q:=fun r s'=>r=w/\EP X pins σ Q r s') pl.isList (by omega) (by rw [List.size_toArray] <;> omega) (by omega) (by rw [hj];simpa using ew) ⟨rfl,fin⟩) hs
theorem Bz:Av X (DG X.K):=by
  intro value slice pins s σ H x y v u Q I rx ry h hs;obtain ⟨p,xs,i,z,rfl,rfl,hq,he,q⟩:=h;cases rx;obtain ⟨t,rfl⟩:=ry;obtain ⟨its,r,pl,hz⟩:=I.tuple hq;obtain ⟨j,h1,h2,h3,h4,h5⟩:=pM he;obtain ⟨w,ew,rw'⟩:=r.get h2;have hl:=r.length;have hn:=kZ;have fin:EP X pins σ Q w s:=⟨z,H,I,rw',q⟩
  exact subscriptTail_builtinR (x:=w) pl.typeIs slot_tuple_getitem.lookup
    (getItem_tuple (j:=j) (Q:=fun r s'=>r=w/\EP X pins σ Q r s') pl (by omega) (by omega) (by rw [List.size_toArray,<- hl];exact h1) (by simpa using ew) ⟨rfl,fin⟩) hs
theorem Cj:Av X Ek:=by
  intro value slice pins s σ H x y v u Q I rx ry h hs;obtain ⟨z,i,c,rfl,rfl,hz,he,q⟩:=h;obtain ⟨t,rfl⟩:=rx;obtain ⟨t',rfl⟩:=ry;obtain ⟨j,h1,h2,h3,h4,h5⟩:=pM he;have hl:z.cps.toList.length=z.length:=by simp [Str.length]
  rw [hl] at h1 h4 h5;have hn:=kZ;exact tail_any (typeIs_str s z t) slot_str_getitem.lookup (getItem_str (c:=c) (by
    have e1:decide (i < -(2 ^ 63:Int))=false:=decide_eq_false (by omega);have e2:decide (i>=2 ^ 63)=false:=decide_eq_false (by omega);rw [e1,e2,Bool.or_false]) (by rw [h1];simpa using h2) ⟨.str ⟨#[c]⟩,H,I.tok _,⟨_,rfl⟩,q⟩) hs
theorem sX (its:List Value) (n j:Nat) (u:Value):Obj.mapSeq (·.setIfInBounds j u) { cls:=.type "list",data:=.seq its.toArray n }={ cls:=.type "list",data:=.seq (its.set j u).toArray n }:=by
  simp [Obj.mapSeq]
theorem aF.lst {pins:List (Addr×Obj)} {σ:St} {H:Hp} {s:Shared} {p:Addr} {xs:List V} (I:aF X pins σ H s) (h:H p=some (.lst xs)) :
    ∃ (its:List Value) (n:Nat),bB xs its/\s.heap.get? p=some { cls:=.type "list",data:=.seq its.toArray n }/\xs.length<=sizeLine:=by
  obtain ⟨z,its,n,r,e⟩:=I.hok p _ h;exact ⟨its,n,r,e,z⟩
theorem aF.lstUpd {pins:List (Addr×Obj)} {σ:St} {H:Hp} {s:Shared} {p:Addr} {xs ys:List V} {its its':List Value} {n n':Nat} {f:Obj->Obj} (I:aF X pins σ H s) (h:H p=some (.lst xs))
    (ho:s.heap.get? p=some { cls:=.type "list",data:=.seq its.toArray n }) (hf:f { cls:=.type "list",data:=.seq its.toArray n }={ cls:=.type "list",data:=.seq its'.toArray n' }) (r:bB ys its') (hz:ys.length<=sizeLine) (t:Nat) :
    aF X pins σ (cA H p (.lst ys)) { s with heap:=s.heap.update p f,toks:=t }:=by
  have e:(s.heap.update p f).get? p=some { cls:=.type "list",data:=.seq its'.toArray n' }:=by
    rw [Heap.get?_update_self f ho (by rw [hf] <;> rfl),hf]
  refine I.write (x:=p) (e:=p) (by rw [h];trivial) (.inl rfl) (fun b u hb q=>(Heap.get?_update_other _ _ (Ne.symm hb)).trans q) ⟨_,e⟩ ?_;exact ⟨hz,its',n',r,e⟩
noncomputable def Dy:V->V->V->Hp->(Hp->Prop)->Prop:=fun o i v H Q=>∃ p xs k j,o=.ref p/\i=.int k/\H p=some (.lst xs)/\uu xs.length k=some j/\Q (cA H p (.lst (xs.set j v)))
theorem x5:DQ X Dy:=by
  intro pins s σ H o i v ov iv u Q I ro ri rv h;obtain ⟨p,xs,k,j,rfl,rfl,hp,hj,q⟩:=h;cases ro;obtain ⟨t,rfl⟩:=ri;obtain ⟨its,n,r,ho,hz⟩:=I.lst hp;obtain ⟨h1,h2,h3,h4⟩:=u4 hj;have hl:=r.length;have hn:=kZ;have I':aF X pins σ (cA H p (.lst (xs.set j v))) { s with heap:=s.heap.update p (Obj.mapSeq (·.setIfInBounds j u)) } :=
    I.lstUpd hp ho (sX its n j u) (r.set rv j) (by rw [List.length_set];exact hz) s.toks
  by_cases h0:0<=k
  · have hk:k.toNat=j:=by
      rw [seqIndex_of h0 h4] at h1;exact Option.some.inj h1
    exact PySem.W.ki_setAt ho h0 (by omega) (by rw [List.size_toArray,<- hl];exact h4) (by rw [hk];exact ⟨_,I',q⟩)
  · have hk:(k+(its.toArray.size:Int)).toNat=j:=by
      rw [seqIndex_neg (by omega) h3] at h1;rw [List.size_toArray,<- hl];exact Option.some.inj h1
    exact PySem.W.ki_setBack ho (by omega) (by rw [List.size_toArray,<- hl];exact h3) (by omega) (by rw [hk];exact ⟨_,I',q⟩)
theorem pG (lo hi:Option Int) (n:Nat):(sliceBounds lo hi none n).1=((HT.sIx n 0 lo:Nat):Int)/\(sliceBounds lo hi none n).2.1=((HT.sIx n n hi:Nat):Int)/\(sliceBounds lo hi none n).2.2=1:=by
  refine ⟨?_,?_,rfl⟩
  · cases lo with
    | none=>simp [sliceBounds,HT.sIx]
    | some i =>
      simp only [sliceBounds,HT.sIx,Option.getD_none,show (1:Int) > 0 by decide,if_true];by_cases h:i < 0
      · simp only [h,if_true] <;> omega
      · simp only [h,if_false] <;> omega
  · cases hi with
    | none=>simp [sliceBounds,HT.sIx]
    | some i =>
      simp only [sliceBounds,HT.sIx,Option.getD_none,show (1:Int) > 0 by decide,if_true];by_cases h:i < 0
      · simp only [h,if_true] <;> omega
      · simp only [h,if_false] <;> omega
theorem n8 (its:List Value) (lo hi:Option Int):slicePick its.toArray lo hi none=((its.drop (HT.sIx its.length 0 lo)).take (HT.sIx its.length its.length hi-HT.sIx its.length 0 lo)).toArray:=by
  obtain ⟨h1,h2,h3⟩:=pG lo hi its.toArray.size;unfold slicePick;rw [h1,h2,h3];simp only [sliceRange_one,pick_run,List.size_toArray] <;> rfl
noncomputable def EM (K:PySem.W.Frag):V->Option Int->Option Int->Hp->VK->Prop:=fun x lo hi H Q=>∃ a xs,x=.ref a/\kx K H a xs/\∀ p,H p=none->Q (.ref p) (cA H p (.lst (rF xs lo hi)))
theorem AR:Ay X (EM X.K):=by
  intro pins s σ H x v vl vu lo hi sl Q I rx hs pl pu h;obtain ⟨a,xs,rfl,hx,q⟩:=h;cases rx;obtain ⟨its,r,ht,hz⟩:=I.list hx;have hlen:=r.length;refine ⟨"list",_,slot_list_getitem.lookup,ht.isList.typeIs,?_⟩;refine wpAny_getItem_list_slice ht.isList hs pl pu .none (by simp) ?_ (by rw [List.size_toArray] <;> omega);rw [n8,<- hlen];refine ⟨.ref s.heap.objs.size,_,I.laid (t':=s.toks) (o:=.lst (rF xs lo hi)) (fun b ob q=>Heap.get?_push_of_some _ q) (Nat.le_refl _) ?_,rfl,q _ (I.hok.fresh (Nat.le_refl _))⟩;exact ⟨Nat.le_trans (lv xs lo hi) hz,_,0,(r.drop (HT.sIx xs.length 0 lo)).take (HT.sIx xs.length xs.length hi-HT.sIx xs.length 0 lo),Heap.get?_push_size _ rfl⟩
theorem pZ:di X (.builtin "len") (fun xs H Q=>∃ p ys,xs=[.ref p]/\(kx X.K H p ys\/gh X.K H p ys)/\Q (.int ys.length) H):=by
  intro pins s σ H xs us Q I r h;obtain ⟨p,ys,rfl,hq,q⟩:=h;obtain ⟨u,rfl,rx⟩:=fO r;cases rx;have hn:=kZ;rcases hq with hq | hq
  · obtain ⟨its,r',pl,hz⟩:=I.list hq;have hlen:=r'.length;exact Calls.call_len_list pl.isList (by simp only [List.size_toArray] <;> omega) ⟨.int ys.length,H,I.tok _,⟨s.toks+1,by rw [List.size_toArray,hlen]⟩,q⟩
  · obtain ⟨its,r',pl,hz⟩:=I.tuple hq;have hlen:=r'.length;exact len_tuple pl (by simp only [List.size_toArray] <;> omega) ⟨.int ys.length,H,I.tok _,⟨s.toks+1,by rw [List.size_toArray,hlen]⟩,q⟩
theorem pF:di X (.builtin "len") (fun xs H Q=>∃ z,xs=[.str z]/\z.length<=sizeLine/\Q (.int z.length) H):=by
  intro pins s σ H xs us Q I r h;obtain ⟨z,rfl,hz,q⟩:=h;obtain ⟨u,rfl,t,rfl⟩:=fO r;have hn:=kZ;exact len_str (by omega) ⟨.int z.length,H,I.tok _,⟨_,rfl⟩,q⟩
theorem di.or {f:Value} {r r':List V->Hp->VK->Prop} (h:di X f r) (h':di X f r'):di X f (fun xs H Q=>r xs H Q\/r' xs H Q):=by
  intro pins s σ H xs us Q I rs q;rcases q with q | q
  · exact h pins s σ H xs us Q I rs q
  · exact h' pins s σ H xs us Q I rs q
theorem o5:di X (.type "list") (fun xs H Q=>∃ p ys,xs=[.ref p]/\(kx X.K H p ys\/gh X.K H p ys)/\∀ l,H l=none->Q (.ref l) (cA H l (.lst ys))):=by
  intro pins s σ H xs us Q I r h;obtain ⟨p,ys,rfl,hq,q⟩:=h;obtain ⟨u,rfl,rx⟩:=fO r;cases rx;have fin:∀ (its:List Value),bB ys its->ys.length<=sizeLine->∀ (h':Heap) (c':Nat),(∀ b o',s.heap.get? b=some o'->h'.get? b=some o') ->
      h'.get? s.heap.objs.size=some { cls:=.type "list",dict:=none,data:=.seq its.toArray c',slots:=#[] }->EP X pins σ Q (.ref s.heap.objs.size) { s with heap:=h' }:=fun its r' hz h' c' kp e =>
    ⟨.ref s.heap.objs.size,_,I.laid (t':=s.toks) kp (Nat.le_refl _) (show bW X.prog X.w _ h' _ (.lst ys) from ⟨hz,its,c',r',e⟩),rfl,q _ (I.hok.fresh (Nat.le_refl _))⟩
  rcases hq with hq | hq
  · obtain ⟨its,r',pl,hz⟩:=I.list hq;have hlen:=r'.length;obtain ⟨o,ho,hc,n,hd⟩:=pl.isList;exact call_list_seq p (.inl rfl) ho hc hd (fun h' c' kp e=>fin its r' hz h' c' kp e) (by simp only [List.size_toArray] <;> omega)
  · obtain ⟨its,r',pl,hz⟩:=I.tuple hq;have hlen:=r'.length;obtain ⟨o,ho,hc,n,hd⟩:=pl;exact call_list_seq p (.inr rfl) ho hc hd (fun h' c' kp e=>fin its r' hz h' c' kp e) (by simp only [List.size_toArray] <;> omega)
theorem nO:di X (.type "tuple") (fun xs H Q=>∃ p ys,xs=[.ref p]/\((kx X.K H p ys/\∀ l,H l=none->Q (.ref l) (cA H l (.tup ys)))\/(gh X.K H p ys/\Q (.ref p) H))):=by
  intro pins s σ H xs us Q I r h;obtain ⟨p,ys,rfl,h⟩:=h;obtain ⟨u,rfl,rx⟩:=fO r;cases rx;rcases h with ⟨hq,q⟩ | ⟨hq,q⟩
  · obtain ⟨its,r',pl,hz⟩:=I.list hq;have hlen:=r'.length;refine call_tuple_list pl.isList (fun h' kp=>?_) (by simp only [List.size_toArray] <;> omega);have I1:aF X pins σ H { s with heap:=h' }:=I.kept (t':=s.toks) kp;have I2:aF X pins σ (cA H h'.objs.size (.tup ys)) { s with heap:=h'.push { cls:=.type "tuple",data:=.seq its.toArray } } :=
      I1.laid (t':=s.toks) (fun b o e=>Heap.get?_push_of_some _ e) (Nat.le_refl _) (show bW X.prog X.w _ _ _ (.tup ys) from ⟨hz,its,r',IsTup.new _ _⟩)
    exact ⟨.ref h'.objs.size,_,I2,rfl,q _ (I1.hok.fresh (Nat.le_refl _))⟩
  · obtain ⟨its,r',pl,hz⟩:=I.tuple hq;exact call_tuple_same pl ⟨.ref p,H,I,rfl,q⟩
noncomputable def Fz (K:PySem.W.Frag) (T:String) (x:V) (H:Hp):Prop:=match x with
  | .str _=>T = "str"
  | .int _=>T = "int"
  | .ref p=>(T = "list" /\ ∃ xs,kx K H p xs)\/(T = "tuple" /\ ∃ o,K.lookup p=some o/\o.cls=.type "tuple" /\ o.dict=none) \/
      (T = "dict" /\ ((∃ kvs,H p=some (.dK kvs))\/∃ kvs,H p=some (.dT kvs)))\/(T = "set" /\ ∃ S n,H p=some (.set S n))
  | _=>False
theorem Co {pins:List (Addr×Obj)} {σ:St} {H:Hp} {s:Shared} {T:String} {x:V} {v:Value} (I:aF X pins σ H s) (r:bL x v) (ty:Fz X.K T x H) :
    s.TypeIs v T/\∀ a,v=.ref a->∃ ob,s.heap.get? a=some ob/\ob.dict=none:=by
  cases x with
  | str z =>
    obtain ⟨t,rfl⟩:=r;cases (show T = "str" from ty);exact ⟨typeIs_str s z t,fun _ e=>nomatch e⟩
  | int i =>
    obtain ⟨t,rfl⟩:=r;cases (show T = "int" from ty);exact ⟨typeIs_int s i t,fun _ e=>nomatch e⟩
  | ref p =>
    cases r;rcases ty with ⟨rfl,xs,hq⟩ | ⟨rfl,o,hk,hc,hd⟩ | ⟨rfl,hk⟩ | ⟨rfl,S,n,hk⟩
    · obtain ⟨its,_,pl,_⟩:=I.list hq;refine ⟨pl.isList.typeIs,fun a e=>?_⟩;cases e;obtain ⟨o,n,e,c,hd,_⟩:=pl;exact ⟨o,e,hd⟩
    · refine ⟨⟨o,I.kIn p o hk,hc⟩,fun a e=>?_⟩;cases e;exact ⟨o,I.kIn _ o hk,hd⟩
    · have z:∃ o,s.heap.get? p=some o/\o.ExactDict:=by
        rcases hk with ⟨kvs,hk⟩ | ⟨kvs,hk⟩
        · obtain ⟨_,_,_,_,o,_,_,e,ex,_⟩:=I.hok p _ hk;exact ⟨o,e,ex⟩
        · obtain ⟨_,_,_,_,o,_,_,e,ex,_⟩:=I.hok p _ hk;exact ⟨o,e,ex⟩
      obtain ⟨o,e,ex⟩:=z;refine ⟨⟨o,e,ex.1⟩,fun a e2=>?_⟩;cases e2;exact ⟨o,e,ex.2.1⟩
    · obtain ⟨o,_,_,_,e,ex,_⟩:=I.hok p _ hk;refine ⟨⟨o,e,ex.1⟩,fun a e2=>?_⟩;cases e2;exact ⟨o,e,ex.2.1⟩
  | _=>exact False.elim ty
noncomputable def FM (K:PySem.W.Frag) (T:String) (r:V->List V->Hp->VK->Prop) (to:TE) (t:TA):TE:=fun σ H Q=>to σ H fun x H1=>Fz K T x H1/\t σ H1 fun xs H2=>r x xs H2 Q
variable {o e:Expr} {es:List Expr} {to:TE} {t:TA} {name:Str} {apos cpos:Pos} {T id:String} {r:V->List V->Hp->VK->Prop}
theorem A6 (pa:PlainAttrs T) (slot:Slot T name id) (hty:typeOf (.builtin id)=pure (.type "method_descriptor")) (hm:Fw X id r) (ho:PE X o to) (ha:PA X (e::es) t)
    (hbase:attributeBase o name X.env (eval o X.env)=eval o X.env:=by rfl)
    (hfew:((backTo cpos (starEach (e::es) X.env)).all (fun x=>!x.1)&&(backToKw cpos (keywordEach [] X.env)).all (fun x=>x.1.isSome)
      && decide ((e::es).length+([]:List Keyword).length+(if ([]:List Keyword).isEmpty then 0 else 1) < 30))=true:=by rfl)
    (hline:(apos.endLine==cpos.line)=true:=by rfl) (hs:starEach (e::es) X.env=(false,eval e X.env)::starEach es X.env:=by rfl) (hplain:(backTo cpos (starEach es X.env)).any (·.1)=false:=by rfl) :
    PE X (.Call (.Attribute o name apos) (e::es) [] cpos) (FM X.K T r to t):=by
  intro pins s σ H Q I h;refine wpAny_Call_method_late hbase hfew hline rfl (df (ho pins s σ H _ I h) fun v s1 ⟨x,H1,I1,r1,ty,q1⟩=>?_);obtain ⟨h1,h2⟩:=Co I1 r1 ty;refine ⟨T,id,pa,slot,hty,h1,h2,?_⟩;have hA:=ha cpos pins s1 σ H1 _ I1 q1;rw [hs] at hA ⊢;refine Calls.callWith_builtin (by show (false||(backTo cpos (starEach es X.env)).any (·.1))=false;rw [hplain] <;> rfl) (Calls.evalArgs_plain ?_);exact df hA fun us s2 ⟨vs,H2,I2,r2,q2⟩=>hm pins s2 σ H2 x vs v us Q I2 r1 r2 q2
end
noncomputable def FJ (X:Cx) (id:String) (r:V->List V->Hp->VK->Prop):Prop :=
  ∀ (pins:List (Addr×Obj)) (s:Shared) (σ:St) (H:Hp) (x:V) (xs:List V) (v:Value) (us:List Value) (Q:VK),aF X pins σ H s->bL x v->bB xs us->r x xs H Q ->
    wpAny (model X.prog X.w) X.A (call (.builtin id) (v::us)) (EP X pins σ Q) X.xe s
theorem bB.one:∀ {x:V} {us:List Value},bB [x] us->∃ u,us=[u]/\bL x u
  | _,_,.cons r .nil=>⟨_,rfl,r⟩
theorem bB.rep {xs:List V} {us:List Value} (h:bB xs us):∀ k:Nat,bB (List.replicate k xs).flatten (List.replicate k us).flatten
  | 0=>.nil
  | k+1=>by
    rw [List.replicate_succ,List.replicate_succ,List.flatten_cons,List.flatten_cons];exact bB.append h (bB.rep h k)
theorem oI (its:List Value):∀ (k:Nat) (acc:List Value),
    List.foldl (fun x1 x2=>x1++x2) acc.toArray (List.replicate k its.toArray)=(acc++(List.replicate k its).flatten).toArray
  | 0,acc=>by simp
  | k+1,acc=>by
    have e:acc.toArray++its.toArray=(acc++its).toArray:=by simp
    have e2:(acc++its)++(List.replicate k its).flatten=acc++(List.replicate (k+1) its).flatten:=by
      rw [List.replicate_succ,List.flatten_cons,List.append_assoc]
    rw [<- e2,<- oI its k (acc++its),<- e,List.replicate_succ,List.foldl_cons]
section
variable {X:Cx} {pins:List (Addr×Obj)} {σ:St} {H:Hp} {s:Shared} {l b:Addr} {xs ys zs:List V}
theorem aF.lset {its its':List Value} {n:Nat} {f:Array Value->Array Value} {t':Nat} (I:aF X pins σ H s) (hH:H l=some (.lst xs))
    (e:s.heap.get? l=some { cls:=.type "list",data:=.seq its.toArray n }) (hf:f its.toArray=its'.toArray) (hv:bB ys its') (hz:ys.length<=sizeLine) :
    aF X pins σ (cA H l (.lst ys)) { s with heap:=s.heap.update l (Obj.mapSeq f),toks:=t' }:=by
  have q:=PySem.IsL.update e f;rw [hf] at q;refine I.write (x:=l) (e:=l) (by rw [hH];exact trivial) (.inl rfl) (fun b' u hb hu=>(Heap.get?_update_other s.heap (Obj.mapSeq f) (Ne.symm hb)).trans hu) ⟨_,q⟩ ?_;exact ⟨hz,its',_,hv,q⟩
theorem aF.lnew {its:List Value} {t':Nat} (I:aF X pins σ H s) (hv:bB ys its) (hz:ys.length<=sizeLine) :
    aF X pins σ (cA H s.heap.objs.size (.lst ys)) { s with heap:=s.heap.push { cls:=.type "list",data:=.seq its.toArray },toks:=t' } :=
  I.laid (fun _ _ q=>Heap.get?_push_of_some _ q) (Nat.le_refl _) ⟨hz,its,0,hv,Heap.get?_push_size _ rfl⟩
theorem aF.fresh (I:aF X pins σ H s):H s.heap.objs.size=none:=I.hok.fresh (Nat.le_refl _)
theorem aF.lstM (I:aF X pins σ H s) (hH:H l=some (.lst xs)):xs.length<=sizeLine/\∃ (its:List Value) (n:Nat),bB xs its/\xs.length=its.length/\s.heap.get? l=some { cls:=.type "list",data:=.seq its.toArray n }:=by
  obtain ⟨z,its,n,r,e⟩:=I.hok l _ hH;exact ⟨z,its,n,r,r.length,e⟩
end
section
variable {X:Cx}
noncomputable def AI:V->List V->Hp->VK->Prop:=fun x vs H Q=>∃ l xs y,x=.ref l/\vs=[y]/\H l=some (.lst xs)/\xs.length < sizeLine/\Q .non (cA H l (.lst (xs++[y])))
theorem oE:FJ X "list.append" AI:=by
  intro pins s σ H x vs v us Q I rx rv h;obtain ⟨l,xs,y,rfl,rfl,hH,hz,q⟩:=h;cases rx;obtain ⟨u,rfl,ru⟩:=rv.one;obtain ⟨z,its,n,r,hl,e⟩:=I.lstM hH;refine call_meets F.slot_list_append ⟨_,e,rfl⟩ F.entry_list_append (F.args_list_append_2 _ _) (PySem.list_append l its.toArray n u (by rw [List.size_toArray];omega)) ⟨e,?_⟩;refine ⟨.non,_,I.lset (its':=its++[u]) hH e (by simp) (r.append (.cons ru .nil)) ?_,rfl,q⟩;rw [List.length_append,List.length_singleton];omega
theorem uS {α:Type} (xs:List α) (k:Nat):(List.replicate k xs).flatten.length=k*xs.length:=by
  induction k with
  | zero=>simp
  | succ k ih=>rw [List.replicate_succ,List.flatten_cons,List.length_append,ih,Nat.succ_mul,Nat.add_comm]
end
end L2
namespace Att
open PySem PySem.W PySem.Calls PyProof.Rows
theorem lL {P:Params} {h:Heap}:∀ (ns:List Int) (vs:List Value),WellAll P h vs (ns.map WData.int)->IntsAre vs ns:=by
  intro ns;induction ns with
  | nil =>
    intro vs w;rw [List.map_nil] at w;cases w;exact .nil
  | cons n ns ih =>
    intro vs w;rw [List.map_cons] at w;cases w with
    | cons a b =>
      cases a;exact .cons _ _ (ih _ b)
theorem vG {l:OpenLaw} {n:Nat} (hn:l.most=some n) {P:Params} {h:Heap} {args:List WData} {vals:List Value}
    (hpre:l.row.toRowW.claim.pre args=true) (hwl:WellAll P h vals args) :
    ∃ a vs ns,vals=[Value.ref a]/\args=[WData.list (ns.map WData.int)]/\h.get? a=some { cls:=.type "list",data:=.seq vs.toArray }/\IntsAre vs ns/\ns.length<=n:=by
  have hsh:WShape.hasAll [] args [.list .int]=true:=(pre_splitW hpre).1;have hc:l.pre.holds [] { args:=args }=true:=(pre_splitW hpre).2;obtain ⟨d,r,rfl,h1,h2⟩:=hasAllW_cons hsh;obtain rfl:=hasAllW_nil h2;obtain ⟨xs,rfl,h3⟩:=hasW_list h1;obtain ⟨ns,rfl⟩:=items_int h3;have hlen:ns.length<=n:=by
    unfold OpenLaw.pre at hc;have h4:(WTm.not (.lt (.lit (.int (n:Int))) (.len (.arg 0)))).holds [] { args:=[.list (ns.map .int)] }=true:=by
      have h4:=(holds_andW hc).1;rw [hn] at h4;exact h4
    have h5:=condW_of h4 (w_not (w_lt w_lit (w_len_list (w_arg rfl))));rw [List.length_map] at h5;refine Nat.le_of_not_lt fun q=>?_
    have q':(n:Int) < ((ns.length:Nat):Int):=by omega
    first
      | (rw [decide_eq_true q'] at h5;exact absurd h5 (by decide))
      | (simp at h5;omega)
  cases hwl with
  | cons w1 w2 =>
    cases w2;cases w1 with
    | list ho hall=>exact ⟨_,_,ns,rfl,rfl,ho,lL ns _ hall,hlen⟩
theorem vU (l:OpenLaw) (args:List WData):l.row.toRowW.claim.post args (.bool true) args=true :=
  postW_of (r:=l.row.toRowW) (X:=(true==true))
    (show WShape.has [] (.bool true) .bool=true by first | rfl | decide | simp [WShape.has,WShape.arms,WShape.armsAll])
    (show (WTm.eq .res (.lit (.bool true))).value [] { args:=args,res:=some (.bool true),after:=args }=some (.bool (true==true)) from w_eq_bool (w_res rfl) w_lit) rfl
theorem attach_call {l:OpenLaw} {n:Nat} {q:Program} {loose:List Str} {XP:(Str->Option Value)->Heap->Prop} {YP:World->Heap->Prop} {d:DefRec}
    (hn:l.most=some n) (hdf:d.params.defaults=[])
    (call:∀ (w:World) (s₀ s₁:Shared) (mg mb:Str->Option Value) (fa:Addr) (o:Obj) (pm cd doc:Value) (a:Addr) (vs:List Value) (ns:List Int),
      Ground q loose [] XP w s₀ mg mb s₁.heap->YP w s₁.heap ->
      s₁.heap.get? fa=some o->o.data=.func (docDef d.name d.params d.body d.scope pm cd doc)->s₁.heap.CodeRec cd d.name->mg d.name=some (.ref fa) ->
      s₁.heap.get? a=some { cls:=.type "list",data:=.seq vs.toArray }->IntsAre vs ns->ns.length<=n->s₁.gens=#[] ->
      codeAny (model l.prog w) callerA (.call (.ref fa) ⟨[.ref a],[]⟩) (fun r s'=>r=.ok (.ret (.bool true))/\OldK s₁.heap s'.heap/\s'.os=s₁.os/\AllBare s'.gens) s₁) :
    WalkO q loose XP YP l.row.toRowW d [] (fun f vs=>PySem.call f vs):=by
  intro w s₀ s₁ mg mb G Y fa o pm cd doc dV kV ho hd hcd hD hmg hg args vals as hpre hlay hrd hwl hlo;obtain rfl:dV=.none:=Dflts.none hD hdf;obtain rfl:kV=.none:=Dflts.noKw hD;obtain ⟨a,vs,ns,rfl,rfl,hobj,hints,hlen⟩:=vG hn hpre hwl;refine enter_call (codeAny_mono (call w s₀ s₁ mg mb fa o pm cd doc a vs ns G Y ho (fd_plain hd) hcd hmg hobj hints hlen hg) fun r s' hq=>?_);obtain ⟨rfl,h2,h3,h4⟩:=hq;exact ⟨.inl ⟨.bool true,.bool true,[],rfl,fun _=>rfl,.bool true,vU l _,fun _=>⟨List.Pairwise.nil,fun _ hm=>(nomatch hm)⟩⟩,h2,h3,h4⟩
end Att
namespace L2
open PySem PySem.Spec PyProof.Rows
theorem jf:∀ {vs:List Value} {ns:List Int},IntsAre vs ns->bB (ns.map V.int) vs
  | _,_,.nil=>.nil
  | _,_,.cons n t h=>.cons ⟨t,rfl⟩ (jf h)
noncomputable def D1 (H:Hp):Prop:=∀ b,H b=none\/∃ o xs,H b=some (.frz o (.lst xs))
theorem xM {P:Program} {w:World} {K:PySem.W.Frag} {mg mb:Str->Option Value} {CX:wH} {k:Nat} {fa a:Addr} {fd:FuncData} {x:Str} {sp:Sp} {s₁:Shared} {vs:List Value} {ns:List Int}
    (KX:K.In s₁.heap) (hns:s₁.heap.Ns mainGlobals mg) (hb:s₁.heap.Ns builtinsNs mb) (hbb:∀ x:Str,x ≠ "__name__" -> mb x=bootBuiltins x) (hlim:s₁.heap.NoLimit) (hg:s₁.gens=#[])
    (ha:s₁.heap.get? a=some { cls:=.type "list",data:=.seq vs.toArray }) (hi:IntsAre vs ns) (hl:ns.length<=sizeLine) (hr:eJ k callerA)
    (F:∀ base:Heap,K.In base->base.Ns mainGlobals mg->bf P w K mg base CX k fa fd [x] sp) (hbind:∀ (s:Shared) (u:Value),BindsTo s fd ⟨[u],[]⟩ [(x,u)])
    (hsp:∀ H:Hp,D1 H->kx K H a (ns.map V.int)->sp [.ref a] H (fun v _=>v=.bl true) fun _ _ _=>False)
    (hCX:∀ H e s',CX [] H s₁ (fun _ _ _=>False) e s'->False) :
    codeAny (model P w) callerA (.call (.ref fa) ⟨[.ref a],[]⟩) (fun r s'=>r=.ok (.ret (.bool true))/\OldK s₁.heap s'.heap/\s'.os=s₁.os/\AllBare s'.gens) s₁:=by
  have rv:=jf hi;have lenV:=hi.length
  -- from an abstract heap in which nothing but the script may be tracked
  have core:∀ H:Hp,D1 H->kx K H a (ns.map V.int)->gM P w H s₁.heap->(∀ b,H b≠none->b=a)->(H a≠none->K.lookup a=none) ->
      codeAny (model P w) callerA (.call (.ref fa) ⟨[.ref a],[]⟩) (fun r s'=>r=.ok (.ret (.bool true))/\OldK s₁.heap s'.heap/\s'.os=s₁.os/\AllBare s'.gens) s₁:=by
    intro H hO hS hok hA hK;have base_of:∀ {b:Addr} {o:Obj},s₁.heap.get? b=some o->H b=none->(pQ s₁.heap H).get? b=some o:=fun e n=>wZ e n
    have noA:∀ {b:Addr} {o:Obj} {es:Array DictEntry} {ep:Nat},s₁.heap.get? b=some o->o.data=.dict es ep->H b=none:=fun {b o es ep} e d=>by
      cases q:H b with
      | none=>rfl
      | some u =>
        have e':b=a:=hA b (by rw [q];simp);subst e';rw [ha] at e;cases e;have d':Data.seq vs.toArray _=Data.dict es ep:=d;cases d'
    have nsK:∀ {b:Addr} {m:Str->Option Value},s₁.heap.Ns b m->(pQ s₁.heap H).Ns b m:=fun {b m} ⟨o,es,ep,e,d,r⟩=>⟨o,es,ep,base_of e (noA e d),d,r⟩
    have hKb:K.In (pQ s₁.heap H):=fun b o e=>base_of (KX b o e) (by
      cases q:H b with
      | none=>rfl
      | some u =>
        have e':b=a:=hA b (by rw [q];simp);subst e';rw [hK (by rw [q];simp)] at e;cases e)
    have hM:Mod K mg (pQ s₁.heap H):=⟨hKb,nsK hns,⟨mb,nsK hb,hbb⟩,let ⟨mc,h1,h2⟩:=hlim;⟨mc,nsK h1,h2⟩⟩
    have e0:tJ P w K mg (pQ s₁.heap H) callerA [] s₁ H:=⟨rfl,hM,fun b o e=>zL e,Nat.le_of_eq (wu _ _),trivial,fun b hb=>absurd (show b∈([]:List Addr) from hb) (by simp),hok,.of_eq hg⟩
    refine codeAny_mono ((F _ hKb (nsK hns)).run callerA [] s₁ H ⟨[.ref a],[]⟩ [.ref a] [.ref a] _ _ hr e0 (hbind s₁ (.ref a)) (.cons rfl .nil) (hsp H hO hS)) fun r s' h=>?_
    cases r with
    | error e=>exact (hCX H e s' h).elim
    | ok fl =>
      cases fl with
      | next=>exact False.elim h
      | brk=>exact False.elim h
      | cont=>exact False.elim h
      | ret u =>
        obtain ⟨v,H',os,bare,un,hok',r',q⟩:=h;have q':v=.bl true:=q;subst q';obtain rfl:u=Value.bool true:=r';refine ⟨rfl,OldK.of_keep fun b o e=>?_,os,bare⟩;cases q:H b with
        | none=>exact un.keep b o e q (by intro z;exact absurd (show b∈([]:List Addr) from z) (by simp)) (by simp)
        | some u =>
          rcases hO b with z | ⟨ob,xs,z⟩
          · rw [q] at z;cases z
          · have z2:=un.frzs b ob _ z;obtain ⟨e1,_⟩:=hok b _ z;obtain ⟨e2,_⟩:=hok' b _ z2;rw [e] at e1;cases e1;exact e2
  cases hk:K.lookup a with
  | some o =>
    -- the script is one of the module's own objects
    have e:=KX a o hk;rw [ha] at e;cases e;refine core (fun _=>none) (fun _=>.inl rfl) (.inr ⟨_,vs.toArray,_,hk,rfl,rfl,rfl,by rw [List.size_toArray,lenV];exact hl,by simpa using rv⟩) (fun b u z=>by have z':(none:Option HO)=some u:=z;cases z') (fun b z=>absurd rfl z) fun z=>absurd rfl z
  | none =>
    refine core (fun b=>if b=a then some (.frz { cls:=.type "list",data:=.seq vs.toArray } (.lst (ns.map V.int))) else none) (fun b=>?_) (.inl (.inr ⟨{ cls:=.type "list",data:=.seq vs.toArray },if_pos rfl⟩)) (fun b u z=>?_) (fun b z=>?_) fun _=>hk
    · by_cases hb:b=a
      · exact .inr ⟨_,_,if_pos hb⟩
      · exact .inl (if_neg hb)
    · by_cases hb:b=a
      · have z':=(if_pos hb).symm.trans z;cases z';subst hb;exact ⟨ha,by rw [List.length_map];exact hl,vs,_,rv,ha⟩
      · have z':=(if_neg hb).symm.trans z;cases z'
    · by_cases hb:b=a
      · exact hb
      · exact absurd (if_neg hb) z
noncomputable def At (s:Stmt) (j:Nat):Stmt:=match s with
  | .ClassDef _ _ _ body _ _ _ _ _ _ _=>body.getD j (.Pass ⟨0,0,0,0⟩)
  | _=>.Pass ⟨0,0,0,0⟩
noncomputable def dJ (s:Stmt):Arguments:=match s with
  | .FunctionDef _ a _ _ _ _ _ _ _ _=>a
  | _=>{ posonlyargs:=[],args:=[],vararg:=none,kwonlyargs:=[],kw_defaults:=[],kwarg:=none,defaults:=[] }
noncomputable def cN (s:Stmt):List Stmt:=match s with
  | .FunctionDef _ _ b _ _ _ _ _ _ _=>b
  | _=>[]
noncomputable def ai (s:Stmt):Scope:=match s with
  | .FunctionDef _ _ _ _ _ _ sc _ _ _=>sc
  | _=>{ kind:=.function,names:=[],isGenerator:=false,isCoroutine:=false }
noncomputable abbrev FA:wH:=fun _ _ _ _ _ _=>False
structure gI (K:PySem.W.Frag) (x qual:Str) (st:Stmt) (f:Addr) (fd:FuncData):Prop where
  ex:∃ (oc:Value) (od:Option Addr) (kV doc pm:Value) (an:Option Addr) (cdv ct:Value) (osl:Array (Option Value)),
    fd=PySem.W.fnOf x qual (dJ st) (cN st) (ai st) .none kV doc pm an cdv ct/\K.lookup f=some ⟨oc,od,.func fd,osl⟩/\PySem.W.codeIn K cdv qual=true
  kp:PySem.W.keepIn K (.ref f)=true
section
variable {P:Program} {w:World} {K:PySem.W.Frag} {mg:Str->Option Value} {base:Heap}
theorem gI.ok {x qual:Str} {st:Stmt} {f:Addr} {fd:FuncData} {N ps:List Str} {k:Nat} {sp:Sp} (F:gI K x qual st f fd) (S:aY N ps (ai st)) (len:∀ vs H Q E,sp vs H Q E->vs.length=ps.length)
    (hbody:∀ (cdv:Value) (A:Around) (outer:List Env) (s:Shared) (H:Hp) (vs:List V) (Q:VK) (E:XK),eJ k (A.deeper (envOfC qual (ai st) s.heap.objs.size f cdv))->sp vs H Q E ->
      ∃ t,p0 (fx FA P w K mg base N qual (ai st) f cdv A outer s H E).nox (cN st) t/\t { nx:=fun _ H'=>Q .non H',rt:=Q } (iw N vs) H):bf P w K mg base FA (k+1) f fd ps sp:=by
  obtain ⟨oc,od,kV,doc,pm,an,cdv,ct,osl,rfl,lk,hcd⟩:=F.ex;refine xQ lk hcd S len fun A outer s H vs Q E hr hsp=>?_
  obtain ⟨t,h,q⟩:=hbody cdv A outer s H vs Q E hr hsp;exact ⟨t,h.nox,q⟩
theorem gI.binds {x qual:Str} {st:Stmt} {f:Addr} {fd:FuncData} {ps:List Str} (F:gI K x qual st f fd)
    (h:∀ (kV doc pm:Value) (an:Option Addr) (cdv ct:Value) (us:List Value),us.length=ps.length->bindArgs (PySem.W.fnOf x qual (dJ st) (cN st) (ai st) .none kV doc pm an cdv ct) ⟨us,[]⟩=pure (ps.zip us)):bO K fd ps []:=by
  obtain ⟨oc,od,kV,doc,pm,an,cdv,ct,osl,rfl,lk,hcd⟩:=F.ex;exact .all (h kV doc pm an cdv ct)
theorem ss {x qual:Str} {st:Stmt} {f:Addr} {oc:Value} {od an:Option Addr} {osl:Array (Option Value)} {kV doc pm cdv ct:Value} (l:K.lookup f=some ⟨oc,od,.func (PySem.W.fnOf x qual (dJ st) (cN st) (ai st) .none kV doc pm an cdv ct),osl⟩)
    (c:PySem.W.codeIn K cdv qual=true) (k:PySem.W.keepIn K (.ref f)=true):gI K x qual st f (PySem.W.fnOf x qual (dJ st) (cN st) (ai st) .none kV doc pm an cdv ct):=⟨⟨oc,od,kV,doc,pm,an,cdv,ct,osl,rfl,l,c⟩,k⟩
end
section
variable {X:Cx}
theorem pv (i:Nat) {x:Str} {pos:Pos} (hN:X.N[i]?=some x:=by rfl) (hv:CI X.env.scope x:=by first | exact Or.inl rfl | exact Or.inr (Or.inl rfl) | exact Or.inr (Or.inr rfl)) (hd:(x==("__debug__" : Str))=false:=by decide)
    (hcd:(x==("__classdict__" : Str))=false:=by decide):PE X (.Name x pos) (DH i):=kC hN hv hd hcd
end
noncomputable def aB (H H':Hp):Prop:=∀ b o,H b=some o->H' b=some o
theorem aB.refl (H:Hp):aB H H:=fun _ _ h=>h
theorem aB.trans {H H1 H2:Hp} (a:aB H H1) (b:aB H1 H2):aB H H2:=fun c o h=>b c o (a c o h)
theorem aB.free {H H':Hp} (e:aB H H') {l:Addr} (h:H' l=Option.none):H l=Option.none:=by
  cases q:H l with
  | none=>rfl
  | some o =>
    rw [e l o q] at h;cases h
section
variable {κ:Type} [DecidableEq κ]
noncomputable def jo (kvs:List (κ×V)) (k:κ):Option V:=(kvs.find? fun kv=>decide (kv.1=k)).map (·.2)
noncomputable def ku (kvs:List (κ×V)) (k:κ) (v:V):List (κ×V) :=
  if (kvs.any fun kv=>decide (kv.1=k))=true then kvs.map (fun kv=>if kv.1=k then (kv.1,v) else kv) else kvs++[(k,v)]
theorem ml {p:κ×V} {r:List (κ×V)} {k:κ} (e:p.1=k):jo (p::r) k=some p.2:=by simp [jo,List.find?_cons,e]
theorem mB {p:κ×V} {r:List (κ×V)} {k:κ} (e:¬ p.1=k):jo (p::r) k=jo r k:=by simp [jo,List.find?_cons,e]
theorem qQ (k:κ):∀ kvs:List (κ×V),(kvs.any fun kv=>decide (kv.1=k))=(jo kvs k).isSome
  | []=>rfl
  | p::r=>by
    rw [List.any_cons];by_cases e:p.1=k
    · simp only [ml e,decide_eq_true e,Bool.true_or,Option.isSome_some]
    · rw [mB e,decide_eq_false e,Bool.false_or];exact qQ k r
theorem lw (kvs:List (κ×V)) (k:κ) (v:V):(ku kvs k v).length<=kvs.length+1:=by
  unfold ku;split
  · rw [List.length_map];omega
  · rw [List.length_append,List.length_cons,List.length_nil];omega
theorem kU.isSome_eq {o:Option V} {u:Option Value} (r:kU o u):o.isSome=u.isSome:=by
  cases o with
  | none=>cases u with
    | none=>rfl
    | some _=>exact (show False from r).elim
  | some _=>cases u with
    | none=>exact (show False from r).elim
    | some _=>rfl
theorem KV.val {kvs:List (κ×V)} {vs:List (κ×Value)} (r:KV kvs vs) (k:κ):kU (jo kvs k) (valueAt vs k):=by
  unfold KV at r;induction r with
  | nil=>exact True.intro
  | @cons p q ps qs h t ih =>
    obtain ⟨h1,h2⟩:=h;by_cases e:p.1=k
    · have e':q.1=k:=h1.symm.trans e;have b:valueAt (q::qs) k=some q.2:=by simp [valueAt,List.find?_cons,e']
      rw [ml e,b];exact h2
    · have e':¬ q.1=k:=fun z=>e (h1.trans z)
      have b:valueAt (q::qs) k=valueAt qs k:=by simp [valueAt,List.find?_cons,e']
      rw [mB e,b];exact ih
theorem KV.any {kvs:List (κ×V)} {vs:List (κ×Value)} (r:KV kvs vs) (k:κ):(kvs.any fun kv=>decide (kv.1=k))=vs.any fun kv=>decide (kv.1=k):=by
  unfold KV at r;induction r with
  | nil=>rfl
  | cons h t ih=>rw [List.any_cons,List.any_cons,ih,h.1]
theorem KV.repl {kvs:List (κ×V)} {vs:List (κ×Value)} (r:KV kvs vs) (k:κ) {y:V} {u:Value} (ry:bL y u) :
    KV (kvs.map fun kv=>if kv.1=k then (kv.1,y) else kv) (vs.map fun kv=>if kv.1=k then (kv.1,u) else kv):=by
  unfold KV at r ⊢;induction r with
  | nil=>exact .nil
  | @cons p q ps qs h t ih =>
    rw [List.map_cons,List.map_cons];refine .cons ?_ ih;obtain ⟨h1,h2⟩:=h;by_cases e:p.1=k
    · rw [if_pos e,if_pos (h1.symm.trans e)];exact ⟨h1,ry⟩
    · rw [if_neg e,if_neg (fun z=>e (h1.trans z))];exact ⟨h1,h2⟩
theorem KV.put {kvs:List (κ×V)} {vs:List (κ×Value)} (r:KV kvs vs) (k:κ) {y:V} {u:Value} (ry:bL y u):KV (ku kvs k y) (stored vs k u):=by
  unfold ku stored;rw [r.any k];by_cases e:(vs.any fun kv=>decide (kv.1=k))=true
  · rw [if_pos e,if_pos e];exact r.repl k ry
  · rw [if_neg e,if_neg e];exact Paired.snoc r ⟨rfl,ry⟩
theorem KV.keys {kvs:List (κ×V)} {vs:List (κ×Value)} (r:KV kvs vs):kvs.map (·.1)=vs.map (·.1):=by
  unfold KV at r;induction r with
  | nil=>rfl
  | cons h t ih=>rw [List.map_cons,List.map_cons,ih,h.1]
theorem KV.length {kvs:List (κ×V)} {vs:List (κ×Value)} (r:KV kvs vs):kvs.length=vs.length:=Paired.length r
end
theorem qu {P:Program} {w:World} {k:da} {u:Value} (r:bL (kV k) u):(dk P w).is k u=true:=by
  cases k with
  | inl i=>obtain ⟨t,e⟩:=(show ∃ t,u=Value.int i t from r);subst e;exact qv P w i t
  | inr x=>obtain ⟨t,e⟩:=(show ∃ t,u=Value.str x t from r);subst e;exact rJ P w x t
theorem oy {P:Program} {w:World}:∀ {ks:List da} {us:List Value},bB (ks.map kV) us->ItemsAre (dk P w) ks us
  | [],_,r=>by rw [List.map_nil] at r;cases r;exact .nil
  | k::ks,_,r=>by
    rw [List.map_cons] at r;cases r with
    | cons h t=>exact .cons (qu h) (oy t)
noncomputable abbrev KT (H:Hp):List (List da×V)->List (List da×Addr×Value)->Prop:=Paired fun p q=>p.1=q.1/\H q.2.1=some (.tup (p.1.map kV))/\bL p.2 q.2.2
theorem KT.val {H:Hp} {kvs:List (List da×V)} {xs:List (List da×Addr×Value)} (r:KT H kvs xs) (k:List da):kU (jo kvs k) ((atKey xs k).map (·.2)):=by
  induction r with
  | nil=>exact True.intro
  | @cons p q ps qs h t ih =>
    obtain ⟨h1,_,h2⟩:=h;by_cases e:p.1=k
    · have e':q.1=k:=h1.symm.trans e;have b:atKey (q::qs) k=some q.2:=by simp [atKey,List.find?_cons,e']
      rw [ml e,b];exact h2
    · have e':¬ q.1=k:=fun z=>e (h1.trans z)
      have b:atKey (q::qs) k=atKey qs k:=by simp [atKey,List.find?_cons,e']
      rw [mB e,b];exact ih
theorem KT.repl {H:Hp} {kvs:List (List da×V)} {xs:List (List da×Addr×Value)} (r:KT H kvs xs) (k:List da) {y:V} {u:Value} (ry:bL y u) :
    KT H (kvs.map fun kv=>if kv.1=k then (kv.1,y) else kv) (xs.map (putAt k u)):=by
  induction r with
  | nil=>exact .nil
  | @cons p q ps qs h t ih =>
    rw [List.map_cons,List.map_cons];refine .cons ?_ ih;obtain ⟨h1,h2,h3⟩:=h;unfold putAt;by_cases e:p.1=k
    · rw [if_pos e,if_pos (h1.symm.trans e)];exact ⟨h1,h2,ry⟩
    · rw [if_neg e,if_neg (fun z=>e (h1.trans z))];exact ⟨h1,h2,h3⟩
theorem KT.put {H:Hp} {kvs:List (List da×V)} {xs:List (List da×Addr×Value)} (r:KT H kvs xs) (k:List da) {b:Addr} {y:V} {u:Value} (hb:H b=some (.tup (k.map kV))) (ry:bL y u) :
    KT H (ku kvs k y) (storedH xs k b u):=by
  have e:(kvs.any fun kv=>decide (kv.1=k))=(atKey xs k).isSome:=by
    rw [qQ,(r.val k).isSome_eq,Option.isSome_map]
  unfold ku storedH;rw [e];by_cases q:(atKey xs k).isSome=true
  · rw [if_pos q,if_pos q];exact r.repl k ry
  · rw [if_neg q,if_neg q];exact Paired.snoc r ⟨rfl,hb,ry⟩
theorem KT.keeps {H H':Hp} {kvs:List (List da×V)} {xs:List (List da×Addr×Value)} (r:KT H kvs xs) (ht:∀ b ys,H b=some (.tup ys)->H' b=some (.tup ys)):KT H' kvs xs :=
  Paired.mapP r fun _ _ z=>⟨z.1,ht _ _ z.2.1,z.2.2⟩
section
variable {P:Program} {w:World} {H:Hp} {h:Heap} {a:Addr}
theorem Bj {u:HO} (ok:gM P w H h) (e:Rd H a u):bW P w H h a u:=e.ok ok
theorem mG {kvs:List (da×V)} (ok:gM P w H h) (e:Rd H a (.dK kvs)):kvs.length<=sizeLine/\(a==sysModules)=false/\∃ vs,KV kvs vs/\h.DictOf (dk P w) a vs :=
  show bW P w H h a (.dK kvs) from Bj ok e
theorem Em {kvs:List (da×V)} (ok:gM P w H h) (e:H a=some (.dK kvs)):kvs.length<=sizeLine/\(a==sysModules)=false/\∃ vs,KV kvs vs/\h.DictOf (dk P w) a vs:=mG ok (.inl e)
theorem nB {ks:List da} (ok:gM P w H h) (e:H a=some (.tup (ks.map kV))):(tupleKind (dk P w)).is h ks a:=by
  obtain ⟨_,its,r,o,h1,h2,n,h3⟩:=(show bW P w H h a (.tup (ks.map kV)) from ok a _ e)
  exact ⟨o,its.toArray,n,h1,h2,h3,by simpa using oy r⟩
theorem rl {kvs:List (List da×V)} (ok:gM P w H h) (e:Rd H a (.dT kvs)):kvs.length<=sizeLine/\(a==sysModules)=false /\
    ∃ xs,KT H kvs xs/\h.DictOfH (tupleKind (dk P w)) a xs:=by
  obtain ⟨z,y,xs,r,o,es,ep,h1,h2,h3,h4,h5⟩:=(show bW P w H h a (.dT kvs) from Bj ok e)
  refine ⟨z,y,xs,r,o,es,ep,h1,h2,h3,h4,fun x hx=>?_,h5⟩;have all:∀ {l:List (List da×V)} {m:List (List da×Addr×Value)},KT H l m->∀ x∈m,(tupleKind (dk P w)).is h x.1 x.2.1:=by
    intro l m q;induction q with
    | nil=>intro x hx;exact nomatch hx
    | @cons p q ps qs hq t ih =>
      intro x hx;rcases List.mem_cons.mp hx with e | hx
      · subst e;exact nB ok (by rw [<- hq.1];exact hq.2.1)
      · exact ih x hx
  exact all r x hx
theorem D8 {kvs:List (List da×V)} (ok:gM P w H h) (e:H a=some (.dT kvs)):kvs.length<=sizeLine/\(a==sysModules)=false /\
    ∃ xs,KT H kvs xs/\h.DictOfH (tupleKind (dk P w)) a xs:=rl ok (.inl e)
end
noncomputable def mN (H:Hp) (a:Addr) (y:V) (r:Option V):Prop :=
  (∃ kvs k,Rd H a (.dK kvs)/\y=kV k/\r=jo kvs k)\/∃ kvs k b,Rd H a (.dT kvs)/\y=.ref b/\H b=some (.tup (k.map kV))/\r=jo kvs k
noncomputable def sK (H:Hp) (a:Addr) (y v:V) (H':Hp):Prop :=
  (∃ kvs k,H a=some (.dK kvs)/\y=kV k/\kvs.length < sizeLine/\H'=cA H a (.dK (ku kvs k v))) \/
  ∃ kvs k b,H a=some (.dT kvs)/\y=.ref b/\H b=some (.tup (k.map kV))/\kvs.length < sizeLine/\H'=cA H a (.dT (ku kvs k v))
theorem mN.k {H:Hp} {a:Addr} {kvs:List (da×V)} {k:da} (e:H a=some (.dK kvs)):mN H a (kV k) (jo kvs k):=.inl ⟨kvs,k,.inl e,rfl,rfl⟩
theorem mN.t {H:Hp} {a b:Addr} {kvs:List (List da×V)} {k:List da} (e:H a=some (.dT kvs)) (eb:H b=some (.tup (k.map kV))):mN H a (.ref b) (jo kvs k):=.inr ⟨kvs,k,b,.inl e,rfl,eb,rfl⟩
theorem sK.k {H:Hp} {a:Addr} {kvs:List (da×V)} {k:da} {v:V} (e:H a=some (.dK kvs)) (hl:kvs.length < sizeLine):sK H a (kV k) v (cA H a (.dK (ku kvs k v))):=.inl ⟨kvs,k,e,rfl,hl,rfl⟩
theorem sK.t {H:Hp} {a b:Addr} {kvs:List (List da×V)} {k:List da} {v:V} (e:H a=some (.dT kvs)) (eb:H b=some (.tup (k.map kV))) (hl:kvs.length < sizeLine) :
    sK H a (.ref b) v (cA H a (.dT (ku kvs k v))):=.inr ⟨kvs,k,b,e,rfl,eb,hl,rfl⟩
section
variable {X:Cx} {pins:List (Addr×Obj)} {σ:St} {H:Hp} {s:Shared} {a:Addr} {y v:V} {u r:Value} {o:Option V} {A:Around} {E:Value->Shared->Prop}
theorem aF.big (I:aF X pins σ H s):sysModules < s.heap.objs.size:=by
  have h:mainGlobals < s.heap.objs.size:=(I.mod.glob.keeps I.bk).lt;exact Nat.lt_trans (by decide) h
theorem vy {Q:Value->Shared->Prop} (hu:A.units+1 < cLine) (I:aF X pins σ H s) (g:mN H a y (some v)) (ry:bL y u) (h:∀ w' s',aF X pins σ H s'->bL v w'->Q w' s') :
    wpAny (model X.prog X.w) A (getItem (.ref a) u) Q E s:=by
  rcases g with ⟨kvs,k,e,ey,l⟩ | ⟨kvs,k,b,e,ey,eb,l⟩
  · subst ey;obtain ⟨z,hd,vs,rel,dd⟩:=mG I.hok e;obtain ⟨w',hw,rw'⟩:=kU.some_of (v:=v) (o:=valueAt vs k) (by rw [l];exact rel.val k);exact wpAny_getItem_of (qu ry) dd.mapOf hw (h w' _ (I.tok _) rw')
  · subst ey;cases (show u=Value.ref b from ry);obtain ⟨z,hd,xs,rel,dd⟩:=rl I.hok e;obtain ⟨w',hw,rw'⟩:=kU.some_of (v:=v) (o:=(atKey xs k).map (·.2)) (by rw [l];exact rel.val k);obtain ⟨p,hp,hp2⟩:=Option.map_eq_some_iff.mp hw;refine wpAny_getItem_heap (tupleKind_room_in1 hu) (nB I.hok eb) dd hp ?_;rw [hp2];exact h w' _ (I.tok _) rw'
theorem Ff {Q:Value->Shared->Prop} (hu:A.units+1 < cLine) (I:aF X pins σ H s) (g:mN H a y o) (ry:bL y u) (h:∀ s',aF X pins σ H s'->Q (.bool o.isSome) s') :
    wpAny (model X.prog X.w) A (compareOp .In u (.ref a)) Q E s:=by
  rcases g with ⟨kvs,k,e,ey,l⟩ | ⟨kvs,k,b,e,ey,eb,l⟩
  · subst ey;obtain ⟨z,hd,vs,rel,dd⟩:=mG I.hok e;refine wpAny_in_of (qu ry) hd dd.mapOf ?_;rw [<- (rel.val k).isSome_eq,<- l];exact h _ (I.tok _)
  · subst ey;cases (show u=Value.ref b from ry);obtain ⟨z,hd,xs,rel,dd⟩:=rl I.hok e;refine wpAny_in_heap (tupleKind_room_in1 hu) (nB I.hok eb) hd dd ?_;have q:=(rel.val k).isSome_eq;rw [Option.isSome_map] at q;rw [<- q,<- l];exact h _ (I.tok _)
theorem zu {Q:Value->Shared->Prop} (hu:A.units+1 < cLine) (I:aF X pins σ H s) (g:mN H a y o) (ry:bL y u) (h:∀ s',aF X pins σ H s'->Q (.bool (!o.isSome)) s') :
    wpAny (model X.prog X.w) A (compareOp .NotIn u (.ref a)) Q E s:=by
  rcases g with ⟨kvs,k,e,ey,l⟩ | ⟨kvs,k,b,e,ey,eb,l⟩
  · subst ey;obtain ⟨z,hd,vs,rel,dd⟩:=mG I.hok e;refine wpAny_notIn_of (qu ry) hd dd.mapOf ?_;rw [<- (rel.val k).isSome_eq,<- l];exact h _ (I.tok _)
  · subst ey;cases (show u=Value.ref b from ry);obtain ⟨z,hd,xs,rel,dd⟩:=rl I.hok e;refine wpAny_notIn_heap (tupleKind_room_in1 hu) (nB I.hok eb) hd dd ?_;have q:=(rel.val k).isSome_eq;rw [Option.isSome_map] at q;rw [<- q,<- l];exact h _ (I.tok _)
theorem t9 {h':Heap} {t':Nat} {ob:HO} (I:aF X pins σ H s) (mu:DE (H a)) (hs:Heap.SameBut a s.heap h') (he:∃ q,h'.get? a=some q) (new:bW X.prog X.w (cA H a ob) h' a ob) :
    aF X pins σ (cA H a ob) { s with heap:=h',toks:=t' } :=
  I.write (x:=a) (e:=a) mu (.inl rfl) (fun b q hb z=>(hs.2 b hb).trans z) he new
theorem BB {P:Program} {w:World} {H':Hp} {h':Heap} {kvs:List (da×V)} {vs:List (da×Value)} (z:kvs.length<=sizeLine) (hd:(a==sysModules)=false) (rel:KV kvs vs) (dd:h'.DictOf (dk P w) a vs) :
    bW P w H' h' a (.dK kvs):=⟨z,hd,vs,rel,dd⟩
theorem vA {H':Hp} {Q:Unit->Shared->Prop} (hu:A.units+1 < cLine) (I:aF X pins σ H s) (g:sK H a y v H') (ry:bL y u) (rv:bL v r) (h:∀ s',aF X pins σ H' s'->Q () s') :
    wpAny (model X.prog X.w) A (setItem (.ref a) u r) Q E s:=by
  rcases g with ⟨kvs,k,e,ey,l,eH⟩ | ⟨kvs,k,b,e,ey,eb,l,eH⟩
  · subst ey eH;obtain ⟨z,hd,vs,rel,dd⟩:=Em I.hok e;have hz:vs.length<=sizeLine:=by rw [<- rel.length];exact z
    have hl:(ku kvs k v).length<=sizeLine:=by have:=lw kvs k v;omega
    refine wpAny_setItem_pairs (hsz:=hz) (qu ry) dd fun h' dd' hs=>h _ ?_
    have he:∃ q,h'.get? a=some q:=let ⟨q,_,_,hq,_⟩:=dd';⟨q,hq⟩
    exact t9 I (by rw [e];exact True.intro) hs he (BB hl hd (rel.put k rv) dd')
  · subst ey eH;cases (show u=Value.ref b from ry);obtain ⟨z,hd,xs,rel,dd⟩:=D8 I.hok e;have hz:xs.length<=sizeLine:=by rw [<- Paired.length rel];exact z
    have hl:(ku kvs k v).length<=sizeLine:=by have:=lw kvs k v;omega
    refine wpAny_setItem_heap (hsz:=hz) (tupleKind_room_in1 hu) (nB I.hok eb) dd fun h' dd' hs=>h _ ?_
    obtain ⟨q,es,ep,hq,h2,h3,h4,_,h5⟩:=dd';refine t9 I (by rw [e];exact True.intro) hs ⟨q,hq⟩ ⟨hl,hd,_,(rel.put k eb rv).keeps fun c ys ec=>?_,q,es,ep,hq,h2,h3,h4,h5⟩;rw [ar (DO ec e (fun z=>nomatch z))];exact ec
end
section
variable {X:Cx} {pins:List (Addr×Obj)} {σ:St} {H:Hp} {s:Shared} {a:Addr} {kvs:List (da×V)} {k:da} {u:Value} {A:Around} {E:Value->Shared->Prop}
theorem Eh {Q:Value->Shared->Prop} (I:aF X pins σ H s) (e:Rd H a (.dK kvs)) (h:∀ t s',aF X pins σ H s'->Q (.int kvs.length t) s'):wpAny (model X.prog X.w) A (call (.builtin "len") [.ref a]) Q E s:=by
  obtain ⟨z,hd,vs,rel,dd⟩:=mG I.hok e;refine call_len_dict hd dd (by rw [<- rel.length];rw [sizeLine_eq] at z;omega) ?_;rw [<- rel.length];exact h _ _ (I.tok _)
end
theorem qX {X:Cx} {pins:List (Addr×Obj)} {σ:St} {H:Hp} {s:Shared} {a:Addr} {y:V} {o:Option V} (I:aF X pins σ H s) (g:mN H a y o):s.TypeIs (.ref a) "dict" := by
  rcases g with ⟨kvs,k,e,_,_⟩ | ⟨kvs,k,b,e,_,_,_⟩
  · obtain ⟨_,_,vs,_,dd⟩:=mG I.hok e;exact dd.typeIs
  · obtain ⟨_,_,xs,_,dd⟩:=rl I.hok e;exact dd.typeIs
noncomputable def Dk (td ty tv:TE):TS:=fun D σ H=>tv σ H fun v H1=>td σ H1 fun x H2=>ty σ H2 fun y H3=>∃ a H4,x=.ref a/\sK H3 a y v H4/\D.nx σ H4
section
variable {X:Cx} {o i e value:Expr} {pos pos' tpos:Pos} {td ty tv:TE}
theorem zf (hu:X.A.units+1 < cLine) (ho:PE X o td) (hi:PE X i ty) (hv:PE X value tv) (hs:swapsWith value (some (.Subscript o i pos')) pos.line X.env=pure false) :
    PS X (.Assign [.Subscript o i pos'] value pos) (Dk td ty tv):=by
  intro pins s σ H D I h;refine wpAny_Assign_Subscript (df (hv pins s σ H _ I h) fun r s1 ⟨v,H1,I1,rv,q1⟩=>df (ho pins s1 σ H1 _ I1 q1) fun u s2 ⟨x,H2,I2,rx,q2⟩=>df (hi pins s2 σ H2 _ I2 q2) fun iv s3 ⟨y,H3,I3,ry,a,H4,ex,g,q3⟩=>?_) hs;subst ex;obtain rfl:u=Value.ref a:=rx;exact vA hu I3 g ry rv fun s4 I4=>⟨σ,H4,I4,q3⟩
end
theorem yz {P:Program} {w:World} {H:Hp} (h:Heap) (hb:sysModules < h.objs.size):bW P w H (h.push { cls:=.type "dict",data:=.dict #[] }) h.objs.size (.dK []) :=
  ⟨Nat.zero_le _,beq_eq_false_iff_ne.mpr (Ne.symm (Nat.ne_of_lt hb)),[],.nil,Heap.DictOf.new h⟩
noncomputable def Br:TE:=fun _ H Q=>∀ p,H p=none->Q (.ref p) (cA H p (.dK []))
section
variable {X:Cx} {pos:Pos}
theorem xG:PE X (.Dict [] [] pos) Br:=fun pins s σ H Q I h =>
  wpAny_Dict_empty ⟨.ref s.heap.objs.size,_,I.laid (a:=s.heap.objs.size) (o:=.dK []) (t':=s.toks) (fun _ _ q=>Heap.get?_push_of_some _ q) (Nat.le_refl _) (yz s.heap I.big),rfl,h _ (I.hok.fresh (Nat.le_refl _))⟩
end
end L2
set_option maxHeartbeats 4000000
namespace D2
open PySem PySem.Spec PyProof.Rows L2
noncomputable def qB (base:Heap) (l:List Env) (e:Addr) (cls a0:Value) (h:Heap):Prop:=base.StaysIn h/\base.get? e=none/\h.FunFrames base l/\∃ fl,h.TracedAtW base e cls a0 fl
theorem qB.of {base h:Heap} {l:List Env} {e:Addr} {cls a0:Value} (x:Heap.FlyingW base l e cls a0 h):qB base l e cls a0 h:=⟨x.1,x.2.1,x.2.2.1,.none,x.2.2.2⟩
section
variable {M:Model} {A:Around} {E:Value->Shared->Prop} {s:Shared} {base:Heap} {l:List Env} {env:Env} {outer:List Env} {L e:Addr} {cls a0:Value} {Q:Unit->Shared->Prop}
theorem AE {h:Heap}:h.UpToSlots h:=fun b o hb _=>⟨o.slots,hb⟩
theorem qA (hfr:A.frames=some (env::outer)) (hf:env.frame=some L) (t:qB base (env::outer) e cls a0 s.heap)
    (hQ:∀ h',qB base (env::outer) e cls a0 h'->s.heap.UpToSlots h'->Q () { s with heap:=h' }):wpAny M A (noteFrame (.ref e) env) Q E s:=by
  have t':=t;obtain ⟨hkb,hen,hl,fl,oe,vs,T,oT,ts,he,⟨hcls,h0⟩,hd,h1,hnT,hTe,hT,hdT,h3⟩:=t;subst hcls;unfold noteFrame;simp only [hf];refine wpAny_bind (wpAny_field he hd h1 ?_);rw [if_pos (show (Value.ref T != Value.none)=true from by simp)];refine wpAny_bind (wpAny_field hT hdT h3 ?_);by_cases hfl:(fl==rawInt L)=true
  · rw [if_pos hfl];exact wpAny_pure (hQ s.heap t' AE)
  · rw [if_neg hfl];refine wpAny_bind (wpAny_setField hT hdT (Array.getElem?_eq_some_iff.mp h3).1 ?_);have other:∀ b,b≠T->(s.heap.update T (Obj.mapFields (·.setIfInBounds 3 Value.none))).get? b=s.heap.get? b:=fun b hb=>Heap.get?_update_other _ _ (Ne.symm hb)
    have noRecord:∀ b o,s.heap.get? b=some o->(∀ vs,o.data≠.fields vs)->b≠T:=fun b o hb hnf q=>by
      rw [q,hT] at hb;injection hb with hb;subst hb;exact hnf ts hdT
    refine wpAny_entryW hfr (hl.of_keeps fun b o hb hnf=>⟨o,(other b (noRecord b o hb hnf)).trans hb,rfl⟩) hf ((other e (Ne.symm hTe)).trans he)
      (fun b o hbo=>(other b fun q=>by rw [q,hnT] at hbo;cases hbo).trans (hkb b o hbo)) hen hd (Array.getElem?_eq_some_iff.mp h1).1 h0
      fun h' ⟨x1,x2,x3,x4⟩=>hQ h' ⟨x1,hen,x2,_,x3⟩ fun b o hb hnf=>x4 b o ((other b (noRecord b o hb hnf)).trans hb) hnf
theorem tf (f:Option Addr) (t:qB base l e cls a0 s.heap) (hQ:∀ h',qB base l e cls a0 h'->s.heap.UpToSlots h'->Q () { s with heap:=h' }):wpAny M A (setFlight (.ref e) f) Q E s:=by
  obtain ⟨hkb,hen,hl,fl,oe,vs,T,oT,ts,he,hcls,hd,h1,hnT,hTe,hT,hdT,h3⟩:=t;have hsz3:3 < ts.size:=(Array.getElem?_eq_some_iff.mp h3).1;have other:∀ b,b≠T->(s.heap.update T (Obj.mapFields (·.setIfInBounds 3 (f.elim Value.none fun f=>rawInt f)))).get? b=s.heap.get? b :=
    fun b hb=>Heap.get?_update_other _ _ (Ne.symm hb)
  have noRecord:∀ b o,s.heap.get? b=some o->(∀ vs,o.data≠.fields vs)->b≠T:=fun b o hb hnf q=>by
    rw [q,hT] at hb;injection hb with hb;subst hb;exact hnf ts hdT
  unfold setFlight;refine wpAny_bind (wpAny_field he hd h1 ?_);rw [if_pos (show (Value.ref T != Value.none)=true from by simp)];refine wpAny_setField hT hdT hsz3 (hQ _ ⟨fun b o hbo=>(other b fun q=>by rw [q,hnT] at hbo;cases hbo).trans (hkb b o hbo),hen,
    hl.of_keeps fun b o hb hnf=>⟨o,(other b (noRecord b o hb hnf)).trans hb,rfl⟩,(f.elim Value.none fun f=>rawInt f),?_⟩ fun b o hb hnf=>⟨o.slots,(other b (noRecord b o hb hnf)).trans hb⟩)
  exact ⟨oe,vs,T,_,_,(other e (Ne.symm hTe)).trans he,hcls,hd,h1,hnT,hTe,Heap.get?_update_self _ hT (Obj.isFreed_of_fields (Obj.data_mapFields hdT _)),Obj.data_mapFields hdT _,by simp [hsz3]⟩
theorem xP (t:qB base l e cls a0 s.heap) (hQ:∀ h',Heap.FlyingW base l e cls a0 h'->s.heap.UpToSlots h'->Q () { s with heap:=h' }):wpAny M A (setFlight (.ref e) none) Q E s:=by
  obtain ⟨hkb,hen,hl,fl,ht⟩:=t;exact wpAny_setFlight_noneW hkb hl ht fun h' k1 k2 k3 k4=>hQ h' ⟨k1,hen,k2,k3⟩ fun b o hb hn=>⟨o.slots,k4 b o hb hn⟩
theorem wm (hfr:A.frames=some (env::outer)) (hf:env.frame=some L) (t:qB base (env::outer) e cls a0 s.heap)
    (hQ:∀ h',Heap.FlyingW base outer e cls a0 h'->s.heap.UpToSlots h'->Q () { s with heap:=h' }):wpAny M A (leaving env (.ref e)) Q E s:=by
  unfold leaving;refine wpAny_bind (qA hfr hf t fun h1 t1 u1=>?_);refine xP (s:={ s with heap:=h1 }) t1 fun h2 t2 u2=>?_
  obtain ⟨k1,k2,⟨_,_,k3⟩,k4⟩:=t2;exact hQ h2 ⟨k1,k2,k3,k4⟩ (u1.trans u2)
theorem xm {α:Type} {k:Value->Sem α} {Q:α->Shared->Prop} (t:qB base l e cls a0 s.heap) (hQ:∀ T,wpAny M A (k (.ref T)) Q E s):wpAny M A (field (.ref e) 1>>=k) Q E s:=by
  obtain ⟨hkb,hen,hl,fl,oe,vs,T,oT,ts,he,hcls,hd,h1,r⟩:=t;exact wpAny_bind (wpAny_field he hd h1 (hQ T))
theorem xX {α:Type} {what:String} {Q:α->Shared->Prop} (t:qB base l e cls a0 s.heap) (hQ:∀ h',qB base l e cls a0 h'->s.heap.UpToSlots h'->E (.ref e) { s with heap:=h' }):wpAny M A (PySem.passOn what (.ref e) env:Sem α) Q E s:=by
  unfold PySem.passOn;refine xm t fun T=>?_
  rw [if_neg (show ¬ ((Value.ref T==Value.none)=true) from by simp)];refine wpAny_bind (tf _ t fun h' t' u=>?_);exact wpAny_throw (hQ h' t' u)
theorem qB.first {h:Heap} (x:qB base l e cls a0 h):∃ oe vs,h.get? e=some oe/\oe.cls=cls/\oe.data=.fields vs/\vs[0]?=some a0 :=
  let ⟨_,_,_,_,oe,vs,_,_,_,he,hc,hd,_⟩:=x;⟨oe,vs,he,hc.1,hd,hc.2⟩
end
noncomputable abbrev St:=L2.St
noncomputable abbrev aF:=@L2.aF
noncomputable def fG:da->PyData
  | .inl i=>.int i
  | .inr x=>.str x
mutual
noncomputable def Rp (H:Hp):PyData->V->Prop
  | .none,v=>v=.non
  | .bool b,v=>v=.bl b
  | .int i,v=>v=.int i
  | .str x,v=>v=.str x
  | .tuple ds,v=>∃ a vs,v=.ref a/\H a=some (.tup vs)/\bz H ds vs
  | .list ds,v=>∃ a o vs,v=.ref a/\H a=some (.frz o (.lst vs))/\bz H ds vs
  | .dict kvs,v=>(∃ a o ks,v=.ref a/\H a=some (.frz o (.dK ks))/\dQ H kvs ks)\/∃ a o C dx fs,v=.ref a/\H a=some (.frz o (.ins C dx fs))/\wG H C fs kvs
noncomputable def bz (H:Hp):List PyData->List V->Prop
  | [],vs=>vs=[]
  | d::ds,vs=>∃ v r,vs=v::r/\Rp H d v/\bz H ds r
noncomputable def dQ (H:Hp):List (PyData×PyData)->List (da×V)->Prop
  | [],ks=>ks=[]
  | kd::kvs,ks=>∃ x v r,ks=(x,v)::r/\yY H kd x v/\dQ H kvs r
noncomputable def yY (H:Hp):PyData×PyData->da->V->Prop
  | (k,d),x,v=>k=fG x/\Rp H d v
noncomputable def wG (H:Hp) (C:Addr) (fs:List (Str×V)):List (PyData×PyData)->Prop
  | []=>False
  | kd::kvs=>kd=(.none,.int C)/\sf H kvs fs
noncomputable def sf (H:Hp):List (PyData×PyData)->List (Str×V)->Prop
  | [],fs=>fs=[]
  | kd::kvs,fs=>∃ x v r,fs=(x,v)::r/\Bl H kd x v/\sf H kvs r
noncomputable def Bl (H:Hp):PyData×PyData->Str->V->Prop
  | (k,d),x,v=>k=.str x/\Rp H d v
end
noncomputable def oB:List (PyData×PyData)->Bool
  | (.none,_)::_=>true
  | _=>false
noncomputable def Kp (H H':Hp):Prop:=(∀ b xs,H b=some (.tup xs)->H' b=some (.tup xs))/\∀ b o u,H b=some (.frz o u)->H' b=some (.frz o u)
theorem Kp.trans {H H1 H2:Hp} (a:Kp H H1) (b:Kp H1 H2):Kp H H2:=⟨fun c xs h=>b.1 c xs (a.1 c xs h),fun c o u h=>b.2 c o u (a.2 c o u h)⟩
theorem Kp.of {H H':Hp} (s:aB H H'):Kp H H':=⟨fun b xs h=>s b _ h,fun b o u h=>s b _ h⟩
mutual
theorem Rp.kp {H H':Hp} (k:Kp H H'):∀ (d:PyData) (v:V),Rp H d v->Rp H' d v
  | .none,v,h=>by simpa only [Rp] using h
  | .bool b,v,h=>by simpa only [Rp] using h
  | .int i,v,h=>by simpa only [Rp] using h
  | .str x,v,h=>by simpa only [Rp] using h
  | .tuple ds,v,h=>by
    simp only [Rp] at h ⊢;obtain ⟨a,vs,e,ha,r⟩:=h;exact ⟨a,vs,e,k.1 _ _ ha,bz.kp k ds vs r⟩
  | .list ds,v,h=>by
    simp only [Rp] at h ⊢;obtain ⟨a,o,vs,e,ha,r⟩:=h;exact ⟨a,o,vs,e,k.2 _ _ _ ha,bz.kp k ds vs r⟩
  | .dict kvs,v,h=>by
    simp only [Rp] at h ⊢;rcases h with ⟨a,o,ks,e,ha,r⟩ | ⟨a,o,C,dx,fs,e,ha,r⟩
    · exact .inl ⟨a,o,ks,e,k.2 _ _ _ ha,dQ.kp k kvs ks r⟩
    · exact .inr ⟨a,o,C,dx,fs,e,k.2 _ _ _ ha,wG.kp k C fs kvs r⟩
theorem bz.kp {H H':Hp} (k:Kp H H'):∀ (ds:List PyData) (vs:List V),bz H ds vs->bz H' ds vs
  | [],vs,h=>by simpa only [bz] using h
  | d::ds,vs,h=>by
    simp only [bz] at h ⊢;obtain ⟨v,r,e,h1,h2⟩:=h;exact ⟨v,r,e,Rp.kp k d v h1,bz.kp k ds r h2⟩
theorem dQ.kp {H H':Hp} (k:Kp H H'):∀ (kvs:List (PyData×PyData)) (ks:List (da×V)),dQ H kvs ks->dQ H' kvs ks
  | [],ks,h=>by simpa only [dQ] using h
  | kd::kvs,ks,h=>by
    simp only [dQ] at h ⊢;obtain ⟨x,v,r,e,h1,h2⟩:=h;exact ⟨x,v,r,e,yY.kp k kd x v h1,dQ.kp k kvs r h2⟩
theorem yY.kp {H H':Hp} (k:Kp H H'):∀ (kd:PyData×PyData) (x:da) (v:V),yY H kd x v->yY H' kd x v
  | (c,d),x,v,h=>by
    simp only [yY] at h ⊢;exact ⟨h.1,Rp.kp k d v h.2⟩
theorem wG.kp {H H':Hp} (k:Kp H H') (C:Addr) (fs:List (Str×V)):∀ (kvs:List (PyData×PyData)),wG H C fs kvs->wG H' C fs kvs
  | [],h=>by simpa only [wG] using h
  | kd::kvs,h=>by
    simp only [wG] at h ⊢;exact ⟨h.1,sf.kp k kvs fs h.2⟩
theorem sf.kp {H H':Hp} (k:Kp H H'):∀ (kvs:List (PyData×PyData)) (fs:List (Str×V)),sf H kvs fs->sf H' kvs fs
  | [],fs,h=>by simpa only [sf] using h
  | kd::kvs,fs,h=>by
    simp only [sf] at h ⊢;obtain ⟨x,v,r,e,h1,h2⟩:=h;exact ⟨x,v,r,e,Bl.kp k kd x v h1,sf.kp k kvs r h2⟩
theorem Bl.kp {H H':Hp} (k:Kp H H'):∀ (kd:PyData×PyData) (x:Str) (v:V),Bl H kd x v->Bl H' kd x v
  | (c,d),x,v,h=>by
    simp only [Bl] at h ⊢;exact ⟨h.1,Rp.kp k d v h.2⟩
end
theorem Rp.mono {H H':Hp} {d:PyData} {v:V} (h:Rp H d v) (s:aB H H'):Rp H' d v:=Rp.kp (Kp.of s) d v h
theorem bz.mono {H H':Hp} {ds:List PyData} {vs:List V} (h:bz H ds vs) (s:aB H H'):bz H' ds vs:=bz.kp (Kp.of s) ds vs h
noncomputable def iA (H:Hp):PyData->V->Prop
  | .list ds,v=>∃ a vs,v=.ref a/\H a=some (.lst vs)/\bz H ds vs
  | .dict kvs,v=>∃ a ks,v=.ref a/\H a=some (.dK ks)/\dQ H kvs ks
  | _,_=>False
theorem iA.mono {H H':Hp} {d:PyData} {v:V} (h:iA H d v) (s:aB H H'):iA H' d v:=by
  cases d <;> simp only [iA] at h ⊢
  · obtain ⟨a,vs,e,ha,r⟩:=h;exact ⟨a,vs,e,s _ _ ha,bz.mono r s⟩
  · obtain ⟨a,vs,e,ha,r⟩:=h;exact ⟨a,vs,e,s _ _ ha,dQ.kp (Kp.of s) _ _ r⟩
noncomputable def gV (H:Hp) (d:PyData) (v:V):Prop:=Rp H d v\/iA H d v
theorem gV.mono {H H':Hp} {d:PyData} {v:V} (h:gV H d v) (s:aB H H'):gV H' d v:=h.elim (fun h=>.inl (h.mono s)) fun h=>.inr (h.mono s)
noncomputable def Dd (H H':Hp) (d:PyData) (v:V):Prop:=iA H' d v/\∃ a,v=.ref a/\H a=none
inductive bh where
  | non
  | val (d:PyData)
  | own (d:PyData)
  | exc (p:Addr)
noncomputable abbrev aS:=List bh
noncomputable def iT (H:Hp):bh->Option V->Prop
  | .non,_=>True
  | .val d,o=>∃ v,o=some v/\Rp H d v
  | .own d,o=>∃ v,o=some v/\iA H d v
  | .exc p,o=>o=some (.ref p)
noncomputable def Sl (H:Hp) (σ:St) (ρ:aS):Prop:=σ.length=ρ.length/\∀ (i:Nat) (c:bh) (o:Option V),ρ[i]?=some c->σ[i]?=some o->iT H c o
theorem iT.mono {H H':Hp} {c:bh} {o:Option V} (h:iT H c o) (s:aB H H'):iT H' c o:=by
  cases c <;> simp only [iT] at h ⊢
  · obtain ⟨v,e,h⟩:=h;exact ⟨v,e,h.mono s⟩
  · obtain ⟨v,e,h⟩:=h;exact ⟨v,e,h.mono s⟩
  · exact h
theorem Sl.mono {H H':Hp} {σ:St} {ρ:aS} (h:Sl H σ ρ) (s:aB H H'):Sl H' σ ρ:=⟨h.1,fun i c o h1 h2=>(h.2 i c o h1 h2).mono s⟩
inductive R (α:Type) where
  | ok (a:α)
  | ex (c:Str)
  | no
noncomputable def R.bind {α β:Type}:R α->(α->R β)->R β
  | .ok a,f=>f a
  | .ex c,_=>.ex c
  | .no,_=>.no
noncomputable instance:Monad R where
  pure:=.ok
  bind:=R.bind
@[simp] theorem R.ok_bind {α β:Type} (a:α) (f:α->R β):(R.ok a>>=f)=f a:=(rfl)
structure CZ (P:Program) (w:World) (outer:List Env) (H:Hp) (s:Shared) (C:Addr) (H':Hp) (e:Value) (s':Shared):Prop where
  os:s'.os=s.os
  bare:AllBare s'.gens
  same:aB H H'
  ex:∃ (p:Addr) (a0:Value) (B:Heap),e=.ref p/\Heap.FlyingW B outer p (.ref C) a0 s'.heap/\gM P w H' B/\H' p=none/\∀ b o,s.heap.get? b=some o->H b=none->b∉ky outer->B.get? b=some o/\H' b=none
  slot:∀ b o,s.heap.get? b=some o->H b=none->b∈ky outer->(∃ sl,s'.heap.get? b=some { o with slots:=sl })/\H' b=none
structure qe (P:Program) (w:World) (outer:List Env) (H:Hp) (s:Shared) (C:Addr) (H':Hp) (e:Value) (s':Shared):Prop where
  os:s'.os=s.os
  bare:AllBare s'.gens
  same:aB H H'
  ex:∃ (p:Addr) (a0:Value) (B:Heap),e=.ref p/\qB B outer p (.ref C) a0 s'.heap/\gM P w H' B/\H' p=none/\∀ b o,s.heap.get? b=some o->H b=none->b∉ky outer->B.get? b=some o/\H' b=none
  slot:∀ b o,s.heap.get? b=some o->H b=none->b∈ky outer->(∃ sl,s'.heap.get? b=some { o with slots:=sl })/\H' b=none
theorem CZ.hld {P:Program} {w:World} {outer:List Env} {H:Hp} {s:Shared} {C:Addr} {H':Hp} {e:Value} {s':Shared} (f:CZ P w outer H s C H' e s'):qe P w outer H s C H' e s' :=
  ⟨f.os,f.bare,f.same,let ⟨p,a0,B,h1,h2,h3⟩:=f.ex;⟨p,a0,B,h1,qB.of h2,h3⟩,f.slot⟩
noncomputable def cV (P:Program) (w:World) (mg:Str->Option Value):wH:=fun outer H s E e s'=>∃ n C H',mg n=some (.ref C)/\CZ P w outer H s C H' e s'/\E (.str n 0) none H'
noncomputable def EX (X:Cx):XK:=fun v _ H'=>∀ (n:Str) (C:Addr),v=.str n 0->X.mg n=some (.ref C)->∀ (pins:List (Addr×Obj)) (σ:St) (H:Hp) (s:Shared) (e:Value) (s':Shared),aF X pins σ H s->CZ X.prog X.w X.stack H s C H' e s'->X.xe e s'
theorem ur {X:Cx}:nz (cV X.prog X.w X.mg) X (EX X):=fun pins σ H s e s' I ⟨n,C,H',hm,f,q⟩=>q n C rfl hm pins σ H s e s' I f
noncomputable def Xw (X:Cx) (c:Str) (H:Hp):Prop:=∀ H1,aB H H1->∀ (C:Addr),X.mg c=some (.ref C)->∀ (pins:List (Addr×Obj)) (σ:St) (Hc:Hp) (s:Shared) (e:Value) (s':Shared),aF X pins σ Hc s->qe X.prog X.w X.stack Hc s C H1 e s'->X.xe e s'
theorem Xw.mono {X:Cx} {c:Str} {H H':Hp} (h:Xw X c H) (s:aB H H'):Xw X c H':=fun H1 s1=>h H1 (s.trans s1)
theorem Xw.ex {X:Cx} {c:Str} {H:Hp} (h:Xw X c H):∀ H1,aB H H1->EX X (.str c 0) none H1:=fun H1 s1 n C en hm pins σ Hc s e s' I f=>by
  have en':c=n:=by injection en
  subst en';exact h H1 s1 C hm pins σ Hc s e s' I f.hld
noncomputable def DZ (X:Cx) (c:Str) (Fm:Hp):Prop:=∀ C,X.mg c=some (.ref C)->∀ (pins:List (Addr×Obj)) (σ:St) (H:Hp) (s:Shared),aB Fm H->aF X pins σ H s->∀ (h':Heap) (p:Addr) (vs:List Value),Heap.MadeExcOf s.heap h' p (.ref C) vs->X.xe (.ref p) { s with heap:=h' }
theorem DZ.mono {X:Cx} {c:Str} {H H':Hp} (h:DZ X c H) (s:aB H H'):DZ X c H':=fun C hm pins σ H1 s1 e=>h C hm pins σ H1 s1 (s.trans e)
noncomputable def uR (X:Cx) (P:Hp->Hp->PyData->V->Prop) (r:R PyData) (H:Hp) (Q:VK):Prop :=
  match r with
  | .ok d=>∀ v H',aB H H'->P H H' d v->Q v H'
  | .ex c=>Xw X c H
  | .no=>False
noncomputable abbrev iO:Hp->Hp->PyData->V->Prop:=fun _ H' d v=>Rp H' d v
noncomputable abbrev yX:Hp->Hp->PyData->V->Prop:=fun _ H' d v=>gV H' d v
noncomputable abbrev EA:Hp->Hp->PyData->V->Prop:=fun H H' d v=>Rp H' d v\/Dd H H' d v
noncomputable abbrev Fe:=aS->R PyData
noncomputable def jI (X:Cx) (P:Hp->Hp->PyData->V->Prop) (f:Fe):TE:=fun σ H Q=>∃ ρ,Sl H σ ρ/\uR X P (f ρ) H Q
noncomputable def cI (X:Cx) (e:Expr) (f:Fe):Prop:=PE X e (jI X iO f)
structure Z.cI (X:Cx) (e:Expr) (f:Fe):Prop where
  un:D2.cI X e f
noncomputable def dF (X:Cx) (e:Expr) (f:Fe):Prop:=PE X e (jI X yX f)
structure Z.dF (X:Cx) (e:Expr) (f:Fe):Prop where
  un:D2.dF X e f
noncomputable def Ar (X:Cx) (e:Expr) (f:Fe):Prop:=PE X e (jI X EA f)
structure Z.Ar (X:Cx) (e:Expr) (f:Fe):Prop where
  un:D2.Ar X e f
noncomputable def nL (X:Cx) (e:Expr) (f:Fe):Prop:=PE X e (jI X Dd f)
structure Z.nL (X:Cx) (e:Expr) (f:Fe):Prop where
  un:D2.nL X e f
noncomputable def RA (I:Hp->PyData->V->Prop) (H:Hp):List PyData->List V->Prop
  | [],vs=>vs=[]
  | d::ds,vs=>∃ v r,vs=v::r/\I H d v/\RA I H ds r
theorem mO {H:Hp}:∀ {ds:List PyData} {vs:List V},RA Rp H ds vs<->bz H ds vs
  | [],vs=>by simp only [RA,bz]
  | d::ds,vs=>by simp only [RA,bz,mO (ds:=ds)]
noncomputable def zb (X:Cx) (I:Hp->PyData->V->Prop) (f:aS->R (List PyData)):TA:=fun σ H Q=>∃ ρ,Sl H σ ρ/\match f ρ with
  | .ok ds=>∀ vs H',aB H H'->RA I H' ds vs->Q vs H'
  | .ex c=>Xw X c H
  | .no=>False
noncomputable def sg (X:Cx) (es:List Expr) (f:aS->R (List PyData)):Prop:=PA X es (zb X Rp f)
structure Z.sg (X:Cx) (es:List Expr) (f:aS->R (List PyData)):Prop where
  un:D2.sg X es f
noncomputable def Cm (X:Cx) (es:List Expr) (f:aS->R (List PyData)):Prop:=PA X es (zb X gV f)
noncomputable def Ac (X:Cx) (f:aS->R Bool):TT:=fun σ H Q=>∃ ρ,Sl H σ ρ/\match f ρ with
  | .ok b=>∀ H',aB H H'->Q b H'
  | .ex c=>Xw X c H
  | .no=>False
noncomputable def lO (X:Cx) (e:Expr) (f:aS->R Bool):Prop:=PT X e (Ac X f)
structure Z.lO (X:Cx) (e:Expr) (f:aS->R Bool):Prop where
  un:D2.lO X e f
noncomputable def wI (X:Cx) (e:Expr) (f:aS->R Bool):Prop:=PW X e (Ac X f)
structure Z.wI (X:Cx) (e:Expr) (f:aS->R Bool):Prop where
  un:D2.wI X e f
theorem PE.imp {X:Cx} {e:Expr} {t t':TE} (h:PE X e t) (i:∀ σ H Q,t' σ H Q->t σ H Q):PE X e t':=fun pins s σ H Q I q=>h pins s σ H Q I (i σ H Q q)
theorem PT.imp {X:Cx} {e:Expr} {t t':TT} (h:PT X e t) (i:∀ σ H Q,t' σ H Q->t σ H Q):PT X e t':=fun pins s σ H Q I q=>h pins s σ H Q I (i σ H Q q)
theorem PW.imp {X:Cx} {e:Expr} {t t':TT} (h:PW X e t) (i:∀ σ H Q,t' σ H Q->t σ H Q):PW X e t':=fun wh pins s σ H Q I q=>h wh pins s σ H Q I (i σ H Q q)
theorem PA.imp {X:Cx} {e:List Expr} {t t':TA} (h:PA X e t) (i:∀ σ H Q,t' σ H Q->t σ H Q):PA X e t':=fun pos pins s σ H Q I q=>h pos pins s σ H Q I (i σ H Q q)
theorem jI.post {X:Cx} {P:Hp->Hp->PyData->V->Prop} {f:Fe} {σ:St} {H:Hp} {Q Q':VK} (h:jI X P f σ H Q) (i:∀ v H',Q v H'->Q' v H'):jI X P f σ H Q':=by
  obtain ⟨ρ,sl,q⟩:=h;refine ⟨ρ,sl,?_⟩;cases e:f ρ with
  | ok d=>rw [e] at q;exact fun v H' s p=>i _ _ (q v H' s p)
  | ex c=>rw [e] at q;exact q
  | no=>rw [e] at q;exact q
theorem Ac.post {X:Cx} {f:aS->R Bool} {σ:St} {H:Hp} {Q Q':Bool->Hp->Prop} (h:Ac X f σ H Q) (i:∀ b H',Q b H'->Q' b H'):Ac X f σ H Q':=by
  obtain ⟨ρ,sl,q⟩:=h;refine ⟨ρ,sl,?_⟩;cases e:f ρ with
  | ok d=>rw [e] at q;exact fun H' s=>i _ _ (q H' s)
  | ex c=>rw [e] at q;exact q
  | no=>rw [e] at q;exact q
theorem zb.post {X:Cx} {I:Hp->PyData->V->Prop} {f:aS->R (List PyData)} {σ:St} {H:Hp} {Q Q':List V->Hp->Prop} (h:zb X I f σ H Q) (i:∀ vs H',Q vs H'->Q' vs H'):zb X I f σ H Q':=by
  obtain ⟨ρ,sl,q⟩:=h;refine ⟨ρ,sl,?_⟩;cases e:f ρ with
  | ok d=>rw [e] at q;exact fun vs H' s p=>i _ _ (q vs H' s p)
  | ex c=>rw [e] at q;exact q
  | no=>rw [e] at q;exact q
theorem jI.weaken {X:Cx} {P P':Hp->Hp->PyData->V->Prop} {f:Fe} (h:∀ H H' d v,P H H' d v->P' H H' d v) (σ:St) (H:Hp) (Q:VK) (q:jI X P' f σ H Q):jI X P f σ H Q:=by
  obtain ⟨ρ,sl,q⟩:=q;refine ⟨ρ,sl,?_⟩;cases e:f ρ with
  | ok d=>rw [e] at q;exact fun v H' s p=>q v H' s (h _ _ _ _ p)
  | ex c=>rw [e] at q;exact q
  | no=>rw [e] at q;exact q
section
variable {X:Cx} {e:Expr} {f:Fe}
theorem cI.b (h:cI X e f):dF X e f:=PE.imp h (jI.weaken fun _ _ _ _ p=>Or.inl p)
theorem ad (h:Z.cI X e f):Z.dF X e f :=
  ⟨D2.cI.b h.un⟩
theorem nL.b (h:nL X e f):dF X e f:=PE.imp h (jI.weaken fun _ _ _ _ p=>Or.inr p.1)
theorem cU (h:Z.nL X e f):Z.dF X e f :=
  ⟨D2.nL.b h.un⟩
theorem nL.toF (h:nL X e f):Ar X e f:=PE.imp h (jI.weaken fun _ _ _ _ p=>Or.inr p)
end
section
variable {X:Cx} {pins:List (Addr×Obj)} {σ:St} {H:Hp} {s:Shared} {a:Addr} {u:HO}
theorem ge (I:aF X pins σ H s) (h:H a=some u) (hm:(∃ xs,u=.lst xs)\/∃ ks,u=.dK ks):∃ o,aF X pins σ (cA H a (.frz o u)) s:=by
  have ob:=I.hok a u h;have hg:∃ o,s.heap.get? a=some o:=by
    rcases hm with ⟨xs,rfl⟩ | ⟨ks,rfl⟩
    · obtain ⟨_,_,_,_,e⟩:=ob;exact ⟨_,e⟩
    · obtain ⟨_,_,_,_,o,_,_,e,_⟩:=ob;exact ⟨_,e⟩
  obtain ⟨o,hg⟩:=hg;have nt:∀ b xs,H b=some (.tup xs)->b≠a:=fun b xs q z=>by subst z;rw [h] at q;rcases hm with ⟨_,rfl⟩ | ⟨_,rfl⟩ <;> cases q
  have nf:∀ b o' u',H b=some (.frz o' u')->b≠a:=fun b o' u' q z=>by subst z;rw [h] at q;rcases hm with ⟨_,rfl⟩ | ⟨_,rfl⟩ <;> cases q
  have nb:∀ b ps,H b=some (.tbl ps)->b≠a:=fun b ps q z=>by subst z;rw [h] at q;rcases hm with ⟨_,rfl⟩ | ⟨_,rfl⟩ <;> cases q
  have nw:∀ b y,H b=some (.own y)->b≠a:=fun b y q z=>by subst z;rw [h] at q;rcases hm with ⟨_,rfl⟩ | ⟨_,rfl⟩ <;> cases q
  have nn:∀ b,H b=none->b≠a:=fun b q z=>by subst z;rw [h] at q;cases q
  have st:∀ b x,bW X.prog X.w H s.heap b x->bW X.prog X.w (cA H a (.frz o u)) s.heap b x:=fun b x q =>
    q.stay (fun c v _ e=>e) (fun c e=>by rw [ar (nw _ _ e)];exact e) fun c xs e=>by rw [ar (nt _ _ e)];exact e
  refine ⟨o,⟨I.ok,I.os,I.bare,⟨I.base.keep,I.base.slot,fun b ob' e n hx=>?_,I.base.there,fun b xs e=>?_,fun b ob' v e=>?_,fun b ps e=>?_⟩,I.loc,I.cell,?_,fun x c e=>?_,fun p hp=>?_,fun b x e=>?_,I.len⟩⟩
  · have:=I.base.free b ob' e n hx;rw [ar (nn _ this)];exact this
  · have:=I.base.tups b xs e;rw [ar (nt _ _ this)];exact this
  · have:=I.base.frzs b ob' v e;rw [ar (nf _ _ _ this)];exact this
  · obtain ⟨m,q⟩:=I.base.tbls b ps e;exact ⟨m,by rw [ar (nb _ _ q)];exact q⟩
  · rw [ar (nn _ I.free)];exact I.free
  · rw [ar (nn _ (I.freeC x c e))];exact I.freeC x c e
  · obtain ⟨p1,p2,p3⟩:=I.pin p hp;exact ⟨p1,by rw [ar (nn _ p2)];exact p2,p3⟩
  · by_cases hb:b=a
    · subst hb;rw [ba] at e;cases e;exact ⟨hg,st b u ob⟩
    · rw [ar hb] at e;exact st b x (I.hok b x e)
theorem fX {o':HO} (h:H a=some u) (hm:(∃ xs,u=.lst xs)\/∃ ks,u=.dK ks):Kp H (cA H a o'):=by
  refine ⟨fun b xs e=>?_,fun b o v e=>?_⟩
  · rw [ar];exact e;rintro rfl;rw [h] at e;rcases hm with ⟨_,rfl⟩ | ⟨_,rfl⟩ <;> cases e
  · rw [ar];exact e;rintro rfl;rw [h] at e;rcases hm with ⟨_,rfl⟩ | ⟨_,rfl⟩ <;> cases e
theorem Cv {H0:Hp} {d:PyData} {v:V} (I:aF X pins σ H s) (hs:aB H0 H) (n:Dd H0 H d v):∃ H',aF X pins σ H' s/\aB H0 H'/\Rp H' d v:=by
  obtain ⟨n,a,rfl,h0⟩:=n;have go:∀ u:HO,H a=some u->((∃ xs,u=.lst xs)\/∃ ks,u=.dK ks)->∃ o,aF X pins σ (cA H a (.frz o u)) s/\aB H0 (cA H a (.frz o u))/\Kp H (cA H a (.frz o u)):=fun u hu hm=>by
    obtain ⟨o,J⟩:=ge I hu hm;refine ⟨o,J,fun b x e=>?_,fX hu hm⟩;rw [ar (aR e h0)];exact hs b x e
  cases d <;> simp only [iA] at n
  · obtain ⟨a',vs,e,ha,r⟩:=n;cases e;obtain ⟨o,J,S,K⟩:=go _ ha (.inl ⟨_,rfl⟩);refine ⟨_,J,S,?_⟩;simp only [Rp];exact ⟨a,o,vs,rfl,ba,bz.kp K _ _ r⟩
  · obtain ⟨a',vs,e,ha,r⟩:=n;cases e;obtain ⟨o,J,S,K⟩:=go _ ha (.inr ⟨_,rfl⟩);refine ⟨_,J,S,?_⟩;simp only [Rp];exact .inl ⟨a,o,vs,rfl,ba,dQ.kp K _ _ r⟩
end
theorem Ar.e {X:Cx} {e:Expr} {f:Fe} (h:Ar X e f):cI X e f:=by
  intro pins s σ H Q I q;obtain ⟨ρ,sl,q⟩:=q;cases ef:f ρ with
  | ok d =>
    rw [ef] at q;refine df (h pins s σ H (fun v H'=>aB H H'/\EA H H' d v) I ⟨ρ,sl,by rw [ef];exact fun v H' hs p=>⟨hs,p⟩⟩) fun u s' ⟨v,H',I',r,hs,p⟩=>?_
    rcases p with p | p
    · exact ⟨v,H',I',r,q v H' hs p⟩
    · obtain ⟨H2,I2,S2,p2⟩:=Cv I' hs p;exact ⟨v,H2,I2,r,q v H2 S2 p2⟩
  | ex c=>rw [ef] at q;exact df (h pins s σ H (fun _ _=>False) I ⟨ρ,sl,by rw [ef];exact q⟩) fun u s' ⟨v,H',I',r,z⟩=>z.elim
  | no=>rw [ef] at q;exact q.elim
theorem Et {X:Cx} {e:Expr} {f:Fe} (h:Z.Ar X e f):Z.cI X e f :=
  ⟨D2.Ar.e h.un⟩
theorem nL.e {X:Cx} {e:Expr} {f:Fe} (h:nL X e f):cI X e f:=(nL.toF h).e
theorem o2 {X:Cx} {e:Expr} {f:Fe} (h:Z.nL X e f):Z.cI X e f :=
  ⟨D2.nL.e h.un⟩
structure AH {β:Type} (X:Cx) (T:R β->Hp->Prop):Prop where
  mono:∀ r H H',T r H->aB H H'->T r H'
  ex:∀ c H,T (.ex c) H->Xw X c H
  no:∀ H,¬ T .no H
noncomputable def Dn (P:Hp->Hp->PyData->V->Prop):Prop:=∀ H H1 H' d v,aB H H1->P H1 H' d v->P H H' d v
theorem fE:Dn iO:=fun _ _ _ _ _ _ p=>p
theorem zt:Dn Dd:=fun _ _ _ _ _ s p=>⟨p.1,let ⟨a,e,h⟩:=p.2;⟨a,e,s.free h⟩⟩
theorem Au:Dn EA:=fun _ _ _ _ _ s p=>p.elim .inl fun p=>.inr (zt _ _ _ _ _ s p)
section
variable {X:Cx} {σ:St} {H:Hp}
theorem fM {P:Hp->Hp->PyData->V->Prop} (hP:Dn P) (Q:VK):AH X (fun r H=>uR X P r H Q) where
  mono:=fun r H H' h s=>by
    cases r with
    | ok d=>exact fun v H2 s2 p=>h v H2 (s.trans s2) (hP _ _ _ _ _ s p)
    | ex c=>exact Xw.mono h s
    | no=>exact h
  ex:=fun c H h=>h
  no:=fun H h=>h
theorem ug (Q:Bool->Hp->Prop):AH X (fun (r:R Bool) H=>match r with | .ok b=>∀ H',aB H H'->Q b H' | .ex c=>Xw X c H | .no=>False) where
  mono:=fun r H H' h s=>by
    cases r with
    | ok d=>exact fun H2 s2=>h H2 (s.trans s2)
    | ex c=>exact Xw.mono h s
    | no=>exact h
  ex:=fun c H h=>h
  no:=fun H h=>h
theorem Bi (I:Hp->PyData->V->Prop) (Q:List V->Hp->Prop):AH X (fun (r:R (List PyData)) H=>match r with | .ok ds=>∀ vs H',aB H H'->RA I H' ds vs->Q vs H' | .ex c=>Xw X c H | .no=>False) where
  mono:=fun r H H' h s=>by
    cases r with
    | ok d=>exact fun vs H2 s2=>h vs H2 (s.trans s2)
    | ex c=>exact Xw.mono h s
    | no=>exact h
  ex:=fun c H h=>h
  no:=fun H h=>h
theorem fy {β:Type} {T:R β->Hp->Prop} (t:AH X T) {P:Hp->Hp->PyData->V->Prop} {f:Fe} {k:aS->PyData->R β} (h:∃ ρ,Sl H σ ρ/\T (f ρ>>=k ρ) H) :
    jI X P f σ H (fun v H1=>∃ ρ d,Sl H1 σ ρ/\aB H H1/\P H H1 d v/\T (k ρ d) H1):=by
  obtain ⟨ρ,sl,q⟩:=h;refine ⟨ρ,sl,?_⟩;cases e:f ρ with
  | ok d=>rw [e] at q;exact fun v H1 s p=>⟨ρ,d,sl.mono s,s,p,t.mono _ _ _ q s⟩
  | ex c=>rw [e] at q;exact t.ex _ _ q
  | no=>rw [e] at q;exact (t.no _ q).elim
theorem pV {β:Type} {T:R β->Hp->Prop} (t:AH X T) {f:aS->R Bool} {k:aS->Bool->R β} (h:∃ ρ,Sl H σ ρ/\T (f ρ>>=k ρ) H) :
    Ac X f σ H (fun b H1=>∃ ρ,Sl H1 σ ρ/\aB H H1/\T (k ρ b) H1):=by
  obtain ⟨ρ,sl,q⟩:=h;refine ⟨ρ,sl,?_⟩;cases e:f ρ with
  | ok d=>rw [e] at q;exact fun H1 s=>⟨ρ,sl.mono s,s,t.mono _ _ _ q s⟩
  | ex c=>rw [e] at q;exact t.ex _ _ q
  | no=>rw [e] at q;exact (t.no _ q).elim
theorem kD {β:Type} {T:R β->Hp->Prop} (t:AH X T) {I:Hp->PyData->V->Prop} {f:aS->R (List PyData)} {k:aS->List PyData->R β} (h:∃ ρ,Sl H σ ρ/\T (f ρ>>=k ρ) H) :
    zb X I f σ H (fun vs H1=>∃ ρ ds,Sl H1 σ ρ/\aB H H1/\RA I H1 ds vs/\T (k ρ ds) H1):=by
  obtain ⟨ρ,sl,q⟩:=h;refine ⟨ρ,sl,?_⟩;cases e:f ρ with
  | ok d=>rw [e] at q;exact fun vs H1 s p=>⟨ρ,d,sl.mono s,s,p,t.mono _ _ _ q s⟩
  | ex c=>rw [e] at q;exact t.ex _ _ q
  | no=>rw [e] at q;exact (t.no _ q).elim
end
noncomputable def ae (i:Nat):Fe:=fun ρ=>match ρ[i]? with
  | some (.val d)=>.ok d
  | _=>.no
noncomputable def fw (i:Nat):Fe:=fun ρ=>match ρ[i]? with
  | some (.val d)=>.ok d
  | some (.own d)=>.ok d
  | _=>.no
noncomputable def eC (d:PyData):Fe:=fun _=>.ok d
structure Tb (X:Cx) (nl:Nat) (G:List Str):Prop where
  hu:X.A.units+64 < cLine
  calm:X.calm=true
  nd:X.N.Nodup
  vis:∀ x∈X.N,CI X.env.scope x/\(x==("__debug__" : Str))=false/\(x==("__classdict__" : Str))=false
  loc:∀ x∈X.N.take nl,A8 X.env.scope x/\(X.fn x=true\/X.env.scope.names.lookup x=some .local)
  gl:∀ x∈G,Gl X x/\(x==("__debug__" : Str))=false/\x≠("__name__" : Str)
section
variable {X:Cx} {nl:Nat} {G:List Str} {x:Str} {pos:Pos}
theorem Sl.at {H:Hp} {σ:St} {ρ:aS} {i:Nat} {c:bh} (h:Sl H σ ρ) (e:ρ[i]?=some c):∃ o,σ[i]?=some o/\iT H c o:=by
  have hi:i < σ.length:=by rw [h.1];exact (List.getElem?_eq_some_iff.mp e).1
  exact ⟨σ[i],List.getElem?_eq_getElem hi,h.2 i c _ e (List.getElem?_eq_getElem hi)⟩
theorem aa (T:Tb X nl G) (i:Nat) (hN:X.N[i]?=some x):Z.cI X (.Name x pos) (ae i):=⟨by
  have hm:=T.vis x (List.mem_of_getElem? hN);refine PE.imp (kC hN hm.1 hm.2.1 hm.2.2) fun σ H Q ⟨ρ,sl,q⟩=>?_
  unfold ae at q;split at q
  · rename_i d e;obtain ⟨o,h1,v,rfl,h2⟩:=sl.at e;exact ⟨v,h1,q v H (aB.refl H) h2⟩
  · exact q.elim⟩
theorem dB (T:Tb X nl G) (i:Nat) (hN:X.N[i]?=some x):Z.dF X (.Name x pos) (fw i):=⟨by
  have hm:=T.vis x (List.mem_of_getElem? hN);refine PE.imp (kC hN hm.1 hm.2.1 hm.2.2) fun σ H Q ⟨ρ,sl,q⟩=>?_
  unfold fw at q;split at q
  · rename_i d e;obtain ⟨o,h1,v,rfl,h2⟩:=sl.at e;exact ⟨v,h1,q v H (aB.refl H) (.inl h2)⟩
  · rename_i d e;obtain ⟨o,h1,v,rfl,h2⟩:=sl.at e;exact ⟨v,h1,q v H (aB.refl H) (.inr h2)⟩
  · exact q.elim⟩
theorem pU {e:Expr} {d:PyData} {v:V} (h:PE X e (tC v)) (r:∀ H,Rp H d v):cI X e (eC d) :=
  PE.imp h fun σ H Q ⟨ρ,sl,q⟩=>q v H (aB.refl H) (r H)
theorem aj {i j}:Z.cI X (.Constant (.int i) j pos) (eC (.int i)):=⟨pU CQ fun H=>by simp only [Rp]⟩
theorem fV {b j}:Z.cI X (.Constant (.bool b) j pos) (eC (.bool b)):=⟨pU Dw fun H=>by simp only [Rp]⟩
theorem dL {j}:Z.cI X (.Constant .none j pos) (eC .none):=⟨pU BX fun H=>by simp only [Rp]⟩
theorem cy {i:Int} {t:Tok} (T:Tb X nl G) (j:Nat) (hG:G[j]?=some x) (hm:X.mg x=some (.int i t)):Z.cI X (.Name x pos) (eC (.int i)):=⟨by
  have g:=T.gl x (List.mem_of_getElem? hG);exact pU (zY g.1 hm (v:=.int i) ⟨t,rfl⟩ g.2.1) fun H=>by simp only [Rp]⟩
end
section
variable {X:Cx} {a b c:Expr} {fa fb fc:Fe} {pos:Pos}
noncomputable def e2 (g:PyData->PyData->R PyData) (fa fb:Fe):Fe:=fun ρ=>fa ρ>>=fun x=>fb ρ>>=fun y=>g x y
noncomputable def e1 (g:PyData->R PyData) (fa:Fe):Fe:=fun ρ=>fa ρ>>=fun x=>g x
noncomputable def cW (X:Cx) (P:Hp->Hp->PyData->V->Prop) (r:R2) (g:PyData->PyData->R PyData):Prop :=
  ∀ H x y dx dy Q,gV H dx x->gV H dy y->uR X P (g dx dy) H Q->r x y H Q
theorem two {P:Hp->Hp->PyData->V->Prop} {r:R2} {g:PyData->PyData->R PyData} (hP:Dn P) (hg:cW X P r g) (σ:St) (H:Hp) (Q:VK) (h:jI X P (e2 g fa fb) σ H Q) :
    Ea r (jI X yX fa) (jI X yX fb) σ H Q :=
  (fy (P:=yX) (fM (X:=X) hP Q) h).post fun v H1 ⟨ρ1,d1,sl1,_,p1,q1⟩ =>
    (fy (P:=yX) (f:=fb) (k:=fun _ y=>g d1 y) (fM (X:=X) hP Q) ⟨ρ1,sl1,q1⟩).post fun u H2 ⟨_,d2,_,s2,p2,q2⟩=>hg H2 v u d1 d2 Q (gV.mono p1 s2) p2 q2
theorem mS {op:Operator} {P:Hp->Hp->PyData->V->Prop} {r:R2} {g:PyData->PyData->R PyData} (hP:Dn P) (ho:jx X (binaryOp op) r) (hg:cW X P r g) (ha:dF X a fa) (hb:dF X b fb) :
    PE X (.BinOp a op b pos) (jI X P (e2 g fa fb)):=PE.imp (Dg ho ha hb) (two hP hg)
theorem xy {op:CmpOp} {r:R2} {g:PyData->PyData->R PyData} (ho:jx X (compareOp op) r) (hg:cW X iO r g) (ha:dF X a fa) (hb:dF X b fb) (hm:behindInMarks op b=false) :
    cI X (.Compare a [op] [b] pos) (e2 g fa fb):=PE.imp (zj ho ha hb hm) (two fE hg)
end
noncomputable def AB:PyData->R Bool
  | .bool b=>.ok b
  | _=>.no
noncomputable def tE (f:Fe):aS->R Bool:=fun ρ=>f ρ>>=AB
theorem uv {X:Cx} {f:Fe} {σ:St} {H:Hp} {Q:Bool->Hp->Prop} (h:Ac X (tE f) σ H Q):jI X iO f σ H (fun x H'=>∃ k,x=.bl k/\Q k H') :=
  (fy (P:=iO) (f:=f) (k:=fun _=>AB) (ug (X:=X) Q) h).post fun v H1 ⟨ρ1,d1,_,_,p1,q1⟩=>by
    cases d1 with
    | bool b =>
      have p2:v=.bl b:=by simpa only [Rp] using p1
      exact ⟨b,p2,q1 H1 (aB.refl _)⟩
    | _=>exact q1.elim
section
variable {X:Cx} {a b c:Expr} {fa fb fc:Fe} {pos:Pos}
theorem gz {op:CmpOp} {r:R2} {g:PyData->PyData->R PyData} (ho:jx X (compareOp op) r) (hg:cW X iO r g) (ha:dF X a fa) (hb:dF X b fb) (hm:behindInMarks op b=false) :
    lO X (.Compare a [op] [b] pos) (tE (e2 g fa fb)) :=
  PT.imp (zq ho ha hb hm) fun σ H Q h=>two fE hg σ H _ (uv h)
theorem gR {e:Expr} {f:Fe} (h:Z.cI X e f) (he:∀ whole,isTrue e X.env whole=(do let v <- whole;standAt e.pos;holding [v] (truthy v)):=by intro _;rfl):Z.lO X e (tE f):=⟨have h:=h.un;PT.imp (B9 h he) fun σ H Q h=>uv h⟩
noncomputable def rR (f g:aS->R Bool):aS->R Bool:=fun ρ=>f ρ>>=fun b=>if b=true then g ρ else .ok false
noncomputable def CK (f g:aS->R Bool):aS->R Bool:=fun ρ=>f ρ>>=fun b=>if b=true then .ok true else g ρ
noncomputable def rN (f:aS->R Bool):aS->R Bool:=fun ρ=>f ρ>>=fun b=>.ok (!b)
variable {ga gb:aS->R Bool} {dW:List Expr}
theorem tK (ha:Z.lO X a ga):Z.wI X (.BoolOp .And [a] pos) ga:=⟨have ha:=ha.un;pw_and1 ha⟩
theorem wl (ha:Z.lO X a ga):Z.wI X (.BoolOp .Or [a] pos) ga:=⟨have ha:=ha.un;pw_or1 ha⟩
theorem wt (ha:Z.lO X a ga) (hb:Z.wI X (.BoolOp .And (b::dW) pos) gb):Z.wI X (.BoolOp .And (a::b::dW) pos) (rR ga gb):=⟨have ha:=ha.un;have hb:=hb.un;PW.imp (pw_and ha hb) fun σ H Q h=>(pV (f:=ga) (k:=fun ρ b=>if b=true then gb ρ else .ok false) (ug (X:=X) Q) h).post fun d H1 ⟨ρ1,sl1,_,q1⟩=>by
    cases d with
    | true=>exact ⟨ρ1,sl1,q1⟩
    | false=>exact q1 H1 (aB.refl _)⟩
theorem yN (ha:Z.lO X a ga) (hb:Z.wI X (.BoolOp .Or (b::dW) pos) gb):Z.wI X (.BoolOp .Or (a::b::dW) pos) (CK ga gb):=⟨have ha:=ha.un;have hb:=hb.un;PW.imp (pw_or ha hb) fun σ H Q h=>(pV (f:=ga) (k:=fun ρ b=>if b=true then .ok true else gb ρ) (ug (X:=X) Q) h).post fun d H1 ⟨ρ1,sl1,_,q1⟩=>by
    cases d with
    | false=>exact ⟨ρ1,sl1,q1⟩
    | true=>exact q1 H1 (aB.refl _)⟩
theorem wI.t {e:Expr} (h:wI X e ga):lO X e ga:=PW.pt h
theorem uy {e:Expr} (h:Z.wI X e ga):Z.lO X e ga :=
  ⟨D2.wI.t h.un⟩
theorem k7 (ha:Z.lO X a ga):Z.lO X (.UnaryOp .Not a pos) (rN ga):=⟨have ha:=ha.un;PT.imp (BQ ha) fun σ H Q h=>(pV (f:=ga) (k:=fun _ b=>.ok (!b)) (ug (X:=X) Q) h).post fun d H1 ⟨ρ1,sl1,_,q1⟩=>q1 H1 (aB.refl _)⟩
noncomputable def Cz (f g:Fe):Fe:=fun ρ=>f ρ>>=fun d=>AB d>>=fun b=>if b=true then g ρ else .ok (.bool false)
noncomputable def CG (f:Fe):Fe:=fun ρ=>f ρ>>=fun d=>AB d>>=fun b=>.ok (.bool (!b))
theorem ud {k:aS->Bool->R PyData} {f:Fe} {σ:St} {H:Hp} {Q:VK} (h:jI X iO (fun ρ=>f ρ>>=fun d=>AB d>>=fun b=>k ρ b) σ H Q) :
    jI X iO f σ H (fun x H'=>∃ c,x=.bl c/\jI X iO (fun ρ=>k ρ c) σ H' Q) :=
  (fy (P:=iO) (f:=f) (k:=fun ρ d=>AB d>>=fun b=>k ρ b) (fM (X:=X) fE Q) h).post fun v H1 ⟨ρ1,d1,sl1,_,p1,q1⟩=>by
    cases d1 with
    | bool b =>
      have p2:v=.bl b:=by simpa only [Rp] using p1
      exact ⟨b,p2,ρ1,sl1,q1⟩
    | _=>exact q1.elim
theorem yh {op} (h:Z.cI X a fa):Z.cI X (.BoolOp op [a] pos) fa:=⟨have h:=h.un;CD h⟩
theorem x8 (ha:Z.cI X a fa) (hb:Z.cI X (.BoolOp .And (b::dW) pos) fb):Z.cI X (.BoolOp .And (a::b::dW) pos) (Cz fa fb):=⟨have ha:=ha.un;have hb:=hb.un;PE.imp (BM ha hb) fun σ H Q h=>(ud (k:=fun ρ b=>if b=true then fb ρ else .ok (.bool false)) h).post fun v H1 ⟨c,e1,q1⟩=>by
    refine ⟨c,e1,?_⟩;cases c with
    | true=>exact q1
    | false =>
      obtain ⟨_,_,q2⟩:=q1;exact q2 _ H1 (aB.refl _) (by simp only [Rp])⟩
theorem yk (ha:Z.cI X a fa):Z.cI X (.UnaryOp .Not a pos) (CG fa):=⟨have ha:=ha.un;PE.imp (CJ ha) fun σ H Q h=>(ud (k:=fun ρ b=>.ok (.bool (!b))) h).post fun v H1 ⟨c,e1,_,_,q2⟩=>⟨c,e1,q2 _ H1 (aB.refl _) (by simp only [Rp])⟩⟩
noncomputable def wE (t:aS->R Bool) (f g:Fe):Fe:=fun ρ=>t ρ>>=fun b=>if b=true then f ρ else g ρ
theorem fY {e:Expr} (hc:Z.lO X e ga) (ha:Z.cI X a fa) (hb:Z.cI X b fb):Z.cI X (.IfExp e a b pos) (wE ga fa fb):=⟨have hc:=hc.un;have ha:=ha.un;have hb:=hb.un;PE.imp (xt hc ha hb) fun σ H Q h=>(pV (f:=ga) (k:=fun ρ b=>if b=true then fa ρ else fb ρ) (fM (X:=X) fE Q) h).post fun d H1 ⟨ρ1,sl1,_,q1⟩=>by
    cases d with
    | true=>exact ⟨ρ1,sl1,q1⟩
    | false=>exact ⟨ρ1,sl1,q1⟩⟩
end
noncomputable def aO:Expr->Bool
  | .Starred ..=>false
  | _=>true
theorem bo {e:Expr} {es:List Expr} {env:Env} (h:aO e=true):starEach (e::es) env=(false,eval e env)::starEach es env:=by
  cases e <;> first | rfl | (cases h)
theorem l6 {es:List Expr} {env:Env} {pos:Pos} (h:es.all aO=true):(backTo pos (starEach es env)).any (·.1)=false:=by
  induction es with
  | nil=>rfl
  | cons e es ih =>
    rw [List.all_cons,Bool.and_eq_true] at h;rw [bo h.1];have:=ih h.2;simpa [backTo] using this
noncomputable def aJ:aS->R (List PyData):=fun _=>.ok []
noncomputable def ah (f:Fe) (g:aS->R (List PyData)):aS->R (List PyData):=fun ρ=>f ρ>>=fun d=>g ρ>>=fun ds=>.ok (d::ds)
section
variable {X:Cx} {e:Expr} {es:List Expr} {f:Fe} {g:aS->R (List PyData)}
theorem ux {I:Hp->PyData->V->Prop}:PA X [] (zb X I aJ):=PA.imp yR fun σ H Q ⟨ρ,sl,q⟩=>q [] H (aB.refl _) (by simp only [RA])
theorem ni:sg X [] aJ:=ux
theorem aq  : Z.sg X [] aJ :=
  ⟨D2.ni⟩
theorem sF:Cm X [] aJ:=ux
theorem ql {I:Hp->PyData->V->Prop} (hI:∀ H H' d v,I H d v->aB H H'->I H' d v) (ha:PE X e (jI X (fun _ H' d v=>I H' d v) f)) (hr:PA X es (zb X I g))
    (hs:starEach (e::es) X.env=(false,eval e X.env)::starEach es X.env:=by rfl):PA X (e::es) (zb X I (ah f g)) :=
  PA.imp (pE ha hr hs) fun σ H Q h =>
    (fy (P:=fun _ H' d v=>I H' d v) (f:=f) (k:=fun ρ d=>g ρ>>=fun ds=>.ok (d::ds)) (Bi (X:=X) I Q) h).post fun v H1 ⟨ρ1,d1,sl1,_,p1,q1⟩ =>
      (kD (I:=I) (f:=g) (k:=fun _ ds=>.ok (d1::ds)) (Bi (X:=X) I Q) ⟨ρ1,sl1,q1⟩).post fun vs H2 ⟨_,ds1,_,s2,p3,q3⟩ =>
        q3 (v::vs) H2 (aB.refl _) (by simp only [RA];exact ⟨v,vs,rfl,hI _ _ _ _ p1 s2,p3⟩)
theorem jd (ha:cI X e f) (hr:sg X es g) (hs:aO e=true:=by rfl):sg X (e::es) (ah f g):=ql (fun _ _ _ _ h s=>h.mono s) ha hr (bo hs)
theorem af (ha:Z.cI X e f) (hr:Z.sg X es g) (hs:aO e=true:=by rfl):Z.sg X (e::es) (ah f g) :=
  ⟨D2.jd ha.un hr.un hs⟩
theorem lM (ha:dF X e f) (hr:Cm X es g) (hs:aO e=true:=by rfl):Cm X (e::es) (ah f g):=ql (fun _ _ _ _ h s=>h.mono s) ha hr (bo hs)
end
section
variable {K:PySem.W.Frag} {H:Hp} {x:V}
theorem kg (h:gV H .none x):x=.non:=by
  rcases h with h | h
  · simpa only [Rp] using h
  · simp only [iA] at h
theorem mo {b:Bool} (h:gV H (.bool b) x):x=.bl b:=by
  rcases h with h | h
  · simpa only [Rp] using h
  · simp only [iA] at h
theorem bP {i:Int} (h:gV H (.int i) x):x=.int i:=by
  rcases h with h | h
  · simpa only [Rp] using h
  · simp only [iA] at h
theorem gv {y:Str} (h:gV H (.str y) x):x=.str y:=by
  rcases h with h | h
  · simpa only [Rp] using h
  · simp only [iA] at h
theorem cJ {ds:List PyData} (h:gV H (.tuple ds) x):∃ a vs,x=.ref a/\H a=some (.tup vs)/\bz H ds vs:=by
  rcases h with h | h
  · simpa only [Rp] using h
  · simp only [iA] at h
theorem dc {ds:List PyData} (h:gV H (.list ds) x):∃ a vs,x=.ref a/\kx K H a vs/\bz H ds vs:=by
  rcases h with h | h
  · simp only [Rp] at h;obtain ⟨a,o,vs,e,ha,r⟩:=h;exact ⟨a,vs,e,.inl (.inr ⟨o,ha⟩),r⟩
  · simp only [iA] at h;obtain ⟨a,vs,e,ha,r⟩:=h;exact ⟨a,vs,e,.inl (.inl ha),r⟩
theorem An {C:Addr} {fs:List (Str×V)} {kvs:List (PyData×PyData)} (h:wG H C fs kvs):oB kvs=true:=by
  cases kvs with
  | nil=>simp only [wG] at h
  | cons kd kvs=>simp only [wG] at h;rw [h.1];rfl
theorem yM {kvs:List (PyData×PyData)} (h:gV H (.dict kvs) x):∃ a,x=.ref a:=by
  rcases h with h | h
  · simp only [Rp] at h;rcases h with ⟨a,o,vs,e,_⟩ | ⟨a,o,C,dx,fs,e,_⟩
    · exact ⟨a,e⟩
    · exact ⟨a,e⟩
  · simp only [iA] at h;obtain ⟨a,vs,e,_⟩:=h;exact ⟨a,e⟩
theorem j6 {kvs:List (PyData×PyData)} (hi:oB kvs=false) (h:gV H (.dict kvs) x):∃ a ks,x=.ref a/\Rd H a (.dK ks)/\dQ H kvs ks:=by
  rcases h with h | h
  · simp only [Rp] at h;rcases h with ⟨a,o,vs,e,ha,r⟩ | ⟨a,o,C,dx,fs,e,ha,r⟩
    · exact ⟨a,vs,e,.inr ⟨o,ha⟩,r⟩
    · rw [An r] at hi;cases hi
  · simp only [iA] at h;obtain ⟨a,vs,e,ha,r⟩:=h;exact ⟨a,vs,e,.inl ha,r⟩
end
theorem bz.nil {H:Hp}:bz H [] []:=by simp only [bz]
theorem bz.cons {H:Hp} {d:PyData} {ds:List PyData} {v:V} {vs:List V} (h:Rp H d v) (t:bz H ds vs):bz H (d::ds) (v::vs):=by simp only [bz];exact ⟨v,vs,rfl,h,t⟩
theorem bz.nil_inv {H:Hp} {vs:List V} (h:bz H [] vs):vs=[]:=by simpa only [bz] using h
theorem bz.cons_inv {H:Hp} {d:PyData} {ds:List PyData} {vs:List V} (h:bz H (d::ds) vs):∃ v r,vs=v::r/\Rp H d v/\bz H ds r:=by simpa only [bz] using h
theorem bz.length {H:Hp}:∀ {ds:List PyData} {vs:List V},bz H ds vs->vs.length=ds.length
  | [],vs,h=>by rw [h.nil_inv];rfl
  | d::ds,vs,h=>by
    obtain ⟨v,r,rfl,_,t⟩:=h.cons_inv;rw [List.length_cons,List.length_cons,bz.length t]
theorem bz.get {H:Hp}:∀ {ds:List PyData} {vs:List V} {i:Nat} {d:PyData},bz H ds vs->ds[i]?=some d->∃ v,vs[i]?=some v/\Rp H d v
  | [],vs,i,d,h,e=>by simp at e
  | d0::ds,vs,0,d,h,e=>by
    obtain ⟨v,r,rfl,p,_⟩:=h.cons_inv;simp at e;subst e;exact ⟨v,rfl,p⟩
  | d0::ds,vs,i+1,d,h,e=>by
    obtain ⟨v,r,rfl,_,t⟩:=h.cons_inv;obtain ⟨u,e1,p⟩:=bz.get (i:=i) t (by simpa using e);exact ⟨u,by simpa using e1,p⟩
theorem bz.append {H:Hp}:∀ {ds es:List PyData} {vs us:List V},bz H ds vs->bz H es us->bz H (ds++es) (vs++us)
  | [],es,vs,us,h,g=>by rw [h.nil_inv];exact g
  | d::ds,es,vs,us,h,g=>by
    obtain ⟨v,r,rfl,p,t⟩:=h.cons_inv;exact bz.cons p (bz.append t g)
theorem bz.take {H:Hp}:∀ {ds:List PyData} {vs:List V} (n:Nat),bz H ds vs->bz H (ds.take n) (vs.take n)
  | ds,vs,0,h=>by simp only [List.take_zero];exact bz.nil
  | [],vs,n+1,h=>by rw [h.nil_inv];exact bz.nil
  | d::ds,vs,n+1,h=>by
    obtain ⟨v,r,rfl,p,t⟩:=h.cons_inv;exact bz.cons p (bz.take n t)
theorem bz.drop {H:Hp}:∀ {ds:List PyData} {vs:List V} (n:Nat),bz H ds vs->bz H (ds.drop n) (vs.drop n)
  | ds,vs,0,h=>h
  | [],vs,n+1,h=>by rw [h.nil_inv];exact bz.nil
  | d::ds,vs,n+1,h=>by
    obtain ⟨v,r,rfl,p,t⟩:=h.cons_inv;exact bz.drop n t
theorem bz.rep {H:Hp} {ds:List PyData} {vs:List V} (h:bz H ds vs):∀ k:Nat,bz H (List.replicate k ds).flatten (List.replicate k vs).flatten
  | 0=>bz.nil
  | k+1=>by rw [List.replicate_succ,List.replicate_succ,List.flatten_cons,List.flatten_cons];exact bz.append h (bz.rep h k)
theorem bz.ints {H:Hp}:∀ ns:List Int,bz H (ns.map PyData.int) (ns.map V.int)
  | []=>bz.nil
  | n::ns=>bz.cons (by simp only [Rp]) (bz.ints ns)
theorem cq {H:Hp} {p:Addr} (h:H p=none) (o:HO):aB H (cA H p o):=fun b u q=>by rw [ar (aR q h)];exact q
theorem dA {H:Hp} {p:Addr} {ds:List PyData} {vs:List V} (h:H p=none) (r:bz H ds vs):Rp (cA H p (.tup vs)) (.tuple ds) (.ref p):=by
  simp only [Rp];exact ⟨p,vs,rfl,ba,r.mono (cq h _)⟩
theorem dE {H:Hp} {p:Addr} {ds:List PyData} {vs:List V} (h:H p=none) (r:bz H ds vs):Dd H (cA H p (.lst vs)) (.list ds) (.ref p):=by
  refine ⟨?_,p,rfl,h⟩;simp only [iA];exact ⟨p,vs,rfl,ba,r.mono (cq h _)⟩
section
variable {P:Program} {w:World} {H:Hp} {h:Heap}
mutual
theorem qN (ok:gM P w H h):∀ (d:PyData) (v:V) (u:Value),d.canLay0=true->Rp H d v->bL v u->∃ as,Reads h u d as
  | .none,v,u,_,r,e=>by simp only [Rp] at r;subst r;cases e;exact ⟨_,.none⟩
  | .bool b,v,u,_,r,e=>by simp only [Rp] at r;subst r;cases e;exact ⟨_,.bool b⟩
  | .int i,v,u,_,r,e=>by simp only [Rp] at r;subst r;obtain ⟨t,rfl⟩:=e;exact ⟨_,.int i t⟩
  | .str x,v,u,_,r,e=>by simp only [Rp] at r;subst r;obtain ⟨t,rfl⟩:=e;exact ⟨_,.str x t⟩
  | .tuple ds,v,u,c,r,e=>by
    simp only [Rp] at r;obtain ⟨a,vs,rfl,ha,r⟩:=r;cases e;obtain ⟨_,its,rv,o,h1,h2,n,h3⟩:=(show bW P w H h a (.tup vs) from ok a _ ha)
    obtain ⟨as,q⟩:=gm ok ds vs its (by simpa only [PyData.canLay0] using c) r rv;exact ⟨as,.tuple h1 h2 h3 (by simpa using q)⟩
  | .list ds,v,u,c,r,e=>by
    simp only [Rp] at r;obtain ⟨a,ob,vs,rfl,ha,r⟩:=r;cases e;obtain ⟨_,_,its,n,rv,h1⟩:=(show bW P w H h a (.frz ob (.lst vs)) from ok a _ ha)
    obtain ⟨as,q⟩:=gm ok ds vs its (by simpa only [PyData.canLay0] using c) r rv;exact ⟨a::as,.list h1 rfl rfl (by simpa using q)⟩
  | .dict kvs,v,u,c,r,e=>by simp [PyData.canLay0] at c
theorem gm (ok:gM P w H h):∀ (ds:List PyData) (vs:List V) (us:List Value),PyData.canLayAll0 ds=true->bz H ds vs->bB vs us->∃ as,ReadsAll h us ds as
  | [],vs,us,_,r,e=>by rw [r.nil_inv] at e;cases e;exact ⟨_,.nil⟩
  | d::ds,vs,us,c,r,e=>by
    obtain ⟨v,r',rfl,p,t⟩:=r.cons_inv;have c':d.canLay0=true/\PyData.canLayAll0 ds=true:=by simpa [PyData.canLayAll0] using c
    cases e with
    | cons e1 e2 =>
      obtain ⟨as,q1⟩:=qN ok d v _ c'.1 p e1;obtain ⟨bs,q2⟩:=gm ok ds r' _ c'.2 t e2;exact ⟨as++bs,.cons q1 q2⟩
end
theorem ez (ok:gM P w H h) {d:PyData} {v:V} {u:Value} (c:d.canLay0=true) (r:gV H d v) (e:bL v u):∃ as,Reads h u d as:=by
  rcases r with r | r
  · exact qN ok d v u c r e
  · cases d <;> simp only [iA] at r
    · rename_i ds;obtain ⟨a,vs,rfl,ha,r⟩:=r;cases e;obtain ⟨_,its,n,rv,h1⟩:=(show bW P w H h a (.lst vs) from ok a _ ha)
      obtain ⟨as,q⟩:=gm ok ds vs its (by simpa only [PyData.canLay0] using c) r rv;exact ⟨a::as,.list h1 rfl rfl (by simpa using q)⟩
    · simp [PyData.canLay0] at c
end
noncomputable def gS:PyData->Option da
  | .int i=>some (.inl i)
  | .str y=>some (.inr y)
  | _=>none
noncomputable def gt:PyData->PyData->Bool
  | .int i,.int j=>decide (i=j)
  | .str i,.str j=>decide (i=j)
  | _,_=>false
noncomputable def sJ (kvs:List (PyData×PyData)) (k v:PyData):List (PyData×PyData) :=
  if (kvs.any fun kv=>gt kv.1 k)=true then kvs.map (fun kv=>if gt kv.1 k=true then (kv.1,v) else kv) else kvs++[(k,v)]
theorem jc (κ κ':da):gt (fG κ) (fG κ')=decide (κ=κ'):=by
  cases κ with
  | inl i =>
    cases κ' with
    | inl j=>simp [fG,gt]
    | inr j=>simp [fG,gt]
  | inr i =>
    cases κ' with
    | inl j=>simp [fG,gt]
    | inr j=>simp [fG,gt]
theorem dQ.cons {H:Hp} {k d:PyData} {kvs:List (PyData×PyData)} {κ:da} {v:V} {ks:List (da×V)} (e:k=fG κ) (h:Rp H d v) (t:dQ H kvs ks):dQ H ((k,d)::kvs) ((κ,v)::ks):=by
  simp only [dQ,yY];exact ⟨κ,v,ks,rfl,⟨e,h⟩,t⟩
theorem dQ.cons_inv {H:Hp} {k d:PyData} {kvs:List (PyData×PyData)} {ks:List (da×V)} (h:dQ H ((k,d)::kvs) ks):∃ κ v r,ks=(κ,v)::r/\k=fG κ/\Rp H d v/\dQ H kvs r:=by
  simp only [dQ,yY] at h;obtain ⟨κ,v,r,e,⟨e1,p⟩,t⟩:=h;exact ⟨κ,v,r,e,e1,p,t⟩
theorem dQ.nil_inv {H:Hp} {ks:List (da×V)} (h:dQ H [] ks):ks=[]:=by simpa only [dQ] using h
theorem dQ.any {H:Hp} (κ:da):∀ {kvs:List (PyData×PyData)} {ks:List (da×V)},dQ H kvs ks->(kvs.any fun kv=>gt kv.1 (fG κ))=ks.any fun kv=>decide (kv.1=κ)
  | [],ks,h=>by rw [h.nil_inv];rfl
  | (k,d)::kvs,ks,h=>by
    obtain ⟨κ',v,r,rfl,rfl,p,t⟩:=h.cons_inv;rw [List.any_cons,List.any_cons,dQ.any κ t,jc]
theorem dQ.repl {H:Hp} (κ:da) {d:PyData} {v:V} (hv:Rp H d v):∀ {kvs:List (PyData×PyData)} {ks:List (da×V)},dQ H kvs ks ->
    dQ H (kvs.map fun kv=>if gt kv.1 (fG κ)=true then (kv.1,d) else kv) (ks.map fun kv=>if kv.1=κ then (kv.1,v) else kv)
  | [],ks,h=>by rw [h.nil_inv];simp only [List.map_nil,dQ]
  | (k,d')::kvs,ks,h=>by
    obtain ⟨κ',v',r,rfl,rfl,p,t⟩:=h.cons_inv;rw [List.map_cons,List.map_cons];dsimp only;rw [jc];by_cases e:κ'=κ
    · rw [if_pos (decide_eq_true e),if_pos e];exact dQ.cons rfl hv (dQ.repl κ hv t)
    · rw [if_neg (by rw [decide_eq_false e];exact Bool.false_ne_true),if_neg e];exact dQ.cons rfl p (dQ.repl κ hv t)
theorem dQ.snoc {H:Hp} {κ:da} {d:PyData} {v:V} (hv:Rp H d v):∀ {kvs:List (PyData×PyData)} {ks:List (da×V)},dQ H kvs ks->dQ H (kvs++[(fG κ,d)]) (ks++[(κ,v)])
  | [],ks,h=>by rw [h.nil_inv];exact dQ.cons rfl hv (by simp only [dQ])
  | (k,d')::kvs,ks,h=>by
    obtain ⟨κ',v',r,rfl,rfl,p,t⟩:=h.cons_inv;exact dQ.cons rfl p (dQ.snoc hv t)
theorem dQ.put {H:Hp} (κ:da) {d:PyData} {v:V} (hv:Rp H d v) {kvs:List (PyData×PyData)} {ks:List (da×V)} (h:dQ H kvs ks):dQ H (sJ kvs (fG κ) d) (ku ks κ v):=by
  unfold sJ ku;rw [h.any κ];split
  · exact h.repl κ hv
  · exact h.snoc hv
noncomputable def lb (kvs:List (PyData×PyData)) (k:PyData):Option PyData:=(kvs.find? fun kv=>gt kv.1 k).map (·.2)
theorem dQ.look {H:Hp} (κ:da):∀ {kvs:List (PyData×PyData)} {ks:List (da×V)},dQ H kvs ks->(lb kvs (fG κ)=none/\jo ks κ=none)\/∃ d v,lb kvs (fG κ)=some d/\jo ks κ=some v/\Rp H d v
  | [],ks,h=>.inl (by rw [h.nil_inv];exact ⟨rfl,rfl⟩)
  | (k,d)::kvs,ks,h=>by
    obtain ⟨κ',v,r,rfl,rfl,p,t⟩:=h.cons_inv;unfold lb jo;by_cases e:κ'=κ
    · rw [List.find?_cons_of_pos (by rw [jc];exact decide_eq_true e),List.find?_cons_of_pos (by exact decide_eq_true e)];exact .inr ⟨d,v,rfl,rfl,p⟩
    · rw [List.find?_cons_of_neg (by rw [jc,decide_eq_false e];exact Bool.false_ne_true),List.find?_cons_of_neg (by rw [decide_eq_false e];exact Bool.false_ne_true)];exact dQ.look κ t
theorem qL {d:PyData} {κ:da} (h:gS d=some κ):d=fG κ:=by
  cases d <;> simp only [gS] at h <;> cases h <;> rfl
theorem um {H:Hp} {d:PyData} {x:V} {κ:da} (h:gV H d x) (e:gS d=some κ):x=kV κ:=by
  cases d <;> simp only [gS] at e <;> cases e
  · exact bP h
  · exact gv h
theorem t5 {H:Hp} {a:Addr} {kvs:List (PyData×PyData)} {ks:List (da×V)} {κ:da} (h:Rd H a (.dK ks)) (r:dQ H kvs ks):∃ o,mN H a (kV κ) o/\o.isSome=(lb kvs (fG κ)).isSome/\∀ d,lb kvs (fG κ)=some d->∃ v,o=some v/\Rp H d v:=by
  refine ⟨jo ks κ,.inl ⟨ks,κ,h,rfl,rfl⟩,?_⟩;rcases r.look κ with ⟨e1,e2⟩ | ⟨d,v,e1,e2,p⟩
  · rw [e1,e2];exact ⟨rfl,fun d z=>by cases z⟩
  · rw [e1,e2];exact ⟨rfl,fun d z=>by cases z;exact ⟨v,rfl,p⟩⟩
noncomputable def k6:PyData->PyData->R PyData
  | .int i,.int j=>.ok (.int (i-j))
  | _,_=>.no
noncomputable def fS:PyData->PyData->R PyData
  | .int i,.int j=>if 0 < j then .ok (.int (i%j)) else .no
  | _,_=>.no
noncomputable def mD:PyData->PyData->R PyData
  | .int i,.int j=>if 0 < j/\j < 1073741824 then .ok (.int (i / j)) else .no
  | _,_=>.no
noncomputable def gi (p:Int->Int->Bool):PyData->PyData->R PyData
  | .int i,.int j=>.ok (.bool (p i j))
  | _,_=>.no
noncomputable def wv (x y:PyData):Bool:=x.canLay0&&y.canLay0&&decide (min x.depth y.depth<=60)
noncomputable def gW (x y:PyData):R PyData:=if wv x y=true then .ok (.bool (PyData.eqv x y)) else .no
noncomputable def ig:PyData->Bool
  | .none=>true
  | _=>false
noncomputable def pN (x y:PyData):R PyData:=if ig y=true then .ok (.bool (ig x)) else .no
noncomputable def lx (x y:PyData):R PyData:=if ig y=true then .ok (.bool (!ig x)) else .no
noncomputable def pk (xs:List PyData) (d:PyData):Bool:=PyData.canLayAll0 xs&&d.canLay0&&decide (min (PyData.depthAll xs) d.depth<=60)
noncomputable def tN (neg:Bool) (d:PyData):PyData->R PyData
  | .list xs=>if pk xs d=true then .ok (.bool (if neg then !(xs.any fun y=>PyData.eqv y d) else xs.any fun y=>PyData.eqv y d)) else .no
  | .tuple xs=>if pk xs d=true then .ok (.bool (if neg then !(xs.any fun y=>PyData.eqv y d) else xs.any fun y=>PyData.eqv y d)) else .no
  | .dict kvs=>if oB kvs=true then .no else match gS d with
    | some _=>.ok (.bool (if neg then !(lb kvs d).isSome else (lb kvs d).isSome))
    | none=>.no
  | _=>.no
section
variable {X:Cx} {a b c:Expr} {fa fb fc:Fe} {pos:Pos}
theorem cF {H:Hp} {i:Int}:Rp H (.int i) (.int i):=by simp only [Rp]
theorem e9 {H:Hp} {i:Bool}:Rp H (.bool i) (.bl i):=by simp only [Rp]
theorem xO {H:Hp} {i:Str}:Rp H (.str i) (.str i):=by simp only [Rp]
theorem BO:cW X iO (zr fun i j=>.int (i-j)) k6:=fun H x y dx dy Q hx hy q=>by
  unfold k6 at q;split at q
  · exact ⟨_,_,bP hx,bP hy,q _ H (aB.refl _) cF⟩
  · exact q.elim
theorem B8:cW X iO (rI (fun _ j=>0 < j) fun i j=>.int (i%j)) fS:=fun H x y dx dy Q hx hy q=>by
  unfold fS at q;split at q
  · split at q
    · rename_i h;exact ⟨_,_,bP hx,bP hy,h,q _ H (aB.refl _) cF⟩
    · exact q.elim
  · exact q.elim
theorem BT:cW X iO (rI DW fun i j=>.int (i / j)) mD:=fun H x y dx dy Q hx hy q=>by
  unfold mD at q;split at q
  · split at q
    · rename_i h;exact ⟨_,_,bP hx,bP hy,h,q _ H (aB.refl _) cF⟩
    · exact q.elim
  · exact q.elim
theorem sx {p:Int->Int->Bool}:cW X iO (zr fun i j=>.bl (p i j)) (gi p):=fun H x y dx dy Q hx hy q=>by
  unfold gi at q;split at q
  · exact ⟨_,_,bP hx,bP hy,q _ H (aB.refl _) e9⟩
  · exact q.elim
theorem gT (ha:Z.dF X a fa) (hb:Z.dF X b fb):Z.cI X (.BinOp a .Sub b pos) (e2 k6 fa fb):=⟨have ha:=ha.un;have hb:=hb.un;mS fE CV BO ha hb⟩
theorem cg (ha:Z.dF X a fa) (hb:Z.dF X b fb):Z.cI X (.BinOp a .Mod b pos) (e2 fS fa fb):=⟨have ha:=ha.un;have hb:=hb.un;mS fE BN B8 ha hb⟩
theorem fW (ha:Z.dF X a fa) (hb:Z.dF X b fb):Z.cI X (.BinOp a .FloorDiv b pos) (e2 mD fa fb):=⟨have ha:=ha.un;have hb:=hb.un;mS fE AY BT ha hb⟩
noncomputable abbrev Dp:Int->Int->Bool:=fun i j=>decide (i < j)
noncomputable abbrev tt:Int->Int->Bool:=fun i j=>decide (j < i)
theorem zN (ha:Z.dF X a fa) (hb:Z.dF X b fb):Z.cI X (.Compare a [.Gt] [b] pos) (e2 (gi tt) fa fb):=⟨have ha:=ha.un;have hb:=hb.un;xy Bk sx ha hb (iB _)⟩
theorem rL (ha:Z.dF X a fa) (hb:Z.dF X b fb):Z.lO X (.Compare a [.Lt] [b] pos) (tE (e2 (gi Dp) fa fb)):=⟨have ha:=ha.un;have hb:=hb.un;gz DX sx ha hb (iB _)⟩
theorem nA (ha:Z.dF X a fa) (hb:Z.dF X b fb):Z.lO X (.Compare a [.Gt] [b] pos) (tE (e2 (gi tt) fa fb)):=⟨have ha:=ha.un;have hb:=hb.un;gz Bk sx ha hb (iB _)⟩
noncomputable def Ef (X:Cx) (neg:Bool):R2:=fun x y H Q=>∃ dx dy,gV H dx x/\gV H dy y/\wv dx dy=true/\Q (.bl (if neg then !PyData.eqv dx dy else PyData.eqv dx dy)) H
theorem sC {x y:PyData} (h:wv x y=true):x.canLay0=true/\y.canLay0=true/\min x.depth y.depth<=60:=by
  unfold wv at h;rw [Bool.and_eq_true,Bool.and_eq_true,decide_eq_true_eq] at h;exact ⟨h.1.1,h.1.2,h.2⟩
theorem xh (hu:X.A.units+64 < cLine):jx X (compareOp .Eq) (Ef X false):=by
  intro pins s σ H x y v u Q I rx ry h;obtain ⟨dx,dy,hx,hy,ho,q⟩:=h;obtain ⟨c1,c2,c3⟩:=sC ho;obtain ⟨as,r1⟩:=ez I.hok c1 hx rx;obtain ⟨bs,r2⟩:=ez I.hok c2 hy ry;exact PySem.SeqAt.compareEq_reads r1 r2 c1 c2 (by omega) ⟨.bl _,H,I,rfl,q⟩
theorem A5:cW X iO (Ef X false) gW:=fun H x y dx dy Q hx hy q=>by
  unfold gW at q;split at q
  · rename_i h;exact ⟨dx,dy,hx,hy,h,q _ H (aB.refl _) e9⟩
  · exact q.elim
theorem lU (hu:X.A.units+64 < cLine) (ha:Z.dF X a fa) (hb:Z.dF X b fb):Z.cI X (.Compare a [.Eq] [b] pos) (e2 gW fa fb):=⟨have ha:=ha.un;have hb:=hb.un;xy (xh hu) A5 ha hb (iB _)⟩
theorem cZ (hu:X.A.units+64 < cLine) (ha:Z.dF X a fa) (hb:Z.dF X b fb):Z.lO X (.Compare a [.Eq] [b] pos) (tE (e2 gW fa fb)):=⟨have ha:=ha.un;have hb:=hb.un;gz (xh hu) A5 ha hb (iB _)⟩
theorem tU {H:Hp} {d:PyData} {x:V} (h:gV H d x):decide (x=.non)=ig d:=by
  cases d with
  | none=>rw [kg h];rfl
  | bool b=>rw [mo h];rfl
  | int i=>rw [bP h];rfl
  | str y=>rw [gv h];rfl
  | tuple ds=>obtain ⟨a,vs,rfl,_⟩:=cJ h;rfl
  | list ds=>obtain ⟨a,vs,rfl,_⟩:=dc (K:=default) h;rfl
  | dict kvs=>obtain ⟨a,rfl⟩:=yM h;rfl
theorem CT:cW X iO (fun x y H Q=>y=.non/\Q (.bl (decide (x=.non))) H) pN:=fun H x y dx dy Q hx hy q=>by
  unfold pN at q;split at q
  · rename_i h;cases dy <;> simp only [ig,Bool.false_eq_true] at h;exact ⟨kg hy,by rw [tU hx];exact q _ H (aB.refl _) e9⟩
  · exact q.elim
theorem AV:cW X iO (fun x y H Q=>y=.non/\Q (.bl (!decide (x=.non))) H) lx:=fun H x y dx dy Q hx hy q=>by
  unfold lx at q;split at q
  · rename_i h;cases dy <;> simp only [ig,Bool.false_eq_true] at h;exact ⟨kg hy,by rw [tU hx];exact q _ H (aB.refl _) e9⟩
  · exact q.elim
theorem oC (ha:Z.dF X a fa) (hb:Z.dF X b fb):Z.lO X (.Compare a [.Is] [b] pos) (tE (e2 pN fa fb)):=⟨have ha:=ha.un;have hb:=hb.un;gz Bq CT ha hb (iB _)⟩
theorem lY (ha:Z.dF X a fa) (hb:Z.dF X b fb):Z.lO X (.Compare a [.IsNot] [b] pos) (tE (e2 lx fa fb)):=⟨have ha:=ha.un;have hb:=hb.un;gz Af AV ha hb (iB _)⟩
noncomputable def Fp (X:Cx) (neg:Bool):R2:=fun x y H Q=>∃ d xs,gV H d x/\(gV H (.list xs) y\/gV H (.tuple xs) y)/\pk xs d=true/\Q (.bl (if neg then !(xs.any fun z=>PyData.eqv z d) else xs.any fun z=>PyData.eqv z d)) H
noncomputable def BU (X:Cx) (neg:Bool):R2:=fun x y H Q=>Fp X neg x y H Q\/∃ a o,y=.ref a/\mN H a x o/\Q (.bl (if neg then !o.isSome else o.isSome)) H
theorem mw {xs:List PyData} {d:PyData} (h:pk xs d=true):PyData.canLayAll0 xs=true/\d.canLay0=true/\min (PyData.depthAll xs) d.depth<=60:=by
  unfold pk at h;rw [Bool.and_eq_true,Bool.and_eq_true,decide_eq_true_eq] at h;exact ⟨h.1.1,h.1.2,h.2⟩
theorem Ci (hu:X.A.units+64 < cLine):jx X (compareOp .In) (BU X false):=by
  intro pins s σ H x y v u Q I rx ry h;rcases h with h | ⟨a,o,rfl,g,q⟩
  case inr =>
    cases ry;exact Ff (by omega) I g rx fun s' I'=>⟨.bl _,H,I',rfl,q⟩
  obtain ⟨d,xs,hx,hy,ho,q⟩:=h;obtain ⟨c1,c2,c3⟩:=mw ho;obtain ⟨as,r1⟩:=ez I.hok c2 hx rx;rcases hy with hy | hy
  · obtain ⟨bs,r2⟩:=ez I.hok (d:=.list xs) (by simpa only [PyData.canLay0] using c1) hy ry;exact PySem.SeqAt.in_list_reads r2 r1 c1 c2 (by omega) ⟨.bl _,H,I,rfl,q⟩
  · obtain ⟨bs,r2⟩:=ez I.hok (d:=.tuple xs) (by simpa only [PyData.canLay0] using c1) hy ry;exact PySem.SeqAt.in_tuple_reads r2 r1 c1 c2 (by omega) ⟨.bl _,H,I,rfl,q⟩
theorem vn (hu:X.A.units+64 < cLine):jx X (compareOp .NotIn) (BU X true):=by
  intro pins s σ H x y v u Q I rx ry h;rcases h with h | ⟨a,o,rfl,g,q⟩
  case inr =>
    cases ry;exact zu (by omega) I g rx fun s' I'=>⟨.bl _,H,I',rfl,q⟩
  obtain ⟨d,xs,hx,hy,ho,q⟩:=h;obtain ⟨c1,c2,c3⟩:=mw ho;obtain ⟨as,r1⟩:=ez I.hok c2 hx rx;rcases hy with hy | hy
  · obtain ⟨bs,r2⟩:=ez I.hok (d:=.list xs) (by simpa only [PyData.canLay0] using c1) hy ry;exact PySem.SeqAt.notIn_list_reads r2 r1 c1 c2 (by omega) ⟨.bl _,H,I,rfl,q⟩
  · obtain ⟨bs,r2⟩:=ez I.hok (d:=.tuple xs) (by simpa only [PyData.canLay0] using c1) hy ry;exact PySem.SeqAt.notIn_tuple_reads r2 r1 c1 c2 (by omega) ⟨.bl _,H,I,rfl,q⟩
theorem Bf {neg:Bool}:cW X iO (BU X neg) (tN neg):=fun H x y dx dy Q hx hy q=>by
  unfold tN at q;split at q
  · split at q
    · rename_i h;exact .inl ⟨dx,_,hx,.inl hy,h,q _ H (aB.refl _) e9⟩
    · exact q.elim
  · split at q
    · rename_i h;exact .inl ⟨dx,_,hx,.inr hy,h,q _ H (aB.refl _) e9⟩
    · exact q.elim
  · split at q
    · exact q.elim
    rename_i hi;split at q
    · rename_i κ e;obtain ⟨a,ks,rfl,h,r⟩:=j6 (Bool.not_eq_true _ ▸ hi) hy;obtain ⟨o,g,e1,_⟩:=t5 (κ:=κ) h r;rw [<- um hx e] at g;rw [<- qL e] at e1;exact .inr ⟨a,o,rfl,g,by rw [e1];exact q _ H (aB.refl _) e9⟩
    · exact q.elim
  · exact q.elim
theorem ny (hu:X.A.units+64 < cLine) (ha:Z.dF X a fa) (hb:Z.dF X b fb) (hm:behindInMarks .In b=false):Z.lO X (.Compare a [.In] [b] pos) (tE (e2 (tN false) fa fb)):=⟨have ha:=ha.un;have hb:=hb.un;gz (Ci hu) Bf ha hb hm⟩
theorem qU (hu:X.A.units+64 < cLine) (ha:Z.dF X a fa) (hb:Z.dF X b fb) (hm:behindInMarks .NotIn b=false):Z.lO X (.Compare a [.NotIn] [b] pos) (tE (e2 (tN true) fa fb)):=⟨have ha:=ha.un;have hb:=hb.un;gz (vn hu) Bf ha hb hm⟩
end
inductive wY where
  | nx (ρ:aS)
  | rt (d:PyData)
  | bk (ρ:aS)
  | ct (ρ:aS)
noncomputable abbrev Fs:=aS->R wY
structure ir (Fm H:Hp) (σ:St) (ρ:aS):Prop where
  fm:aB Fm H
  sl:Sl H σ ρ
  own:∀ (i:Nat) (d:PyData) (a:Addr),ρ[i]?=some (.own d)->σ[i]?=some (some (.ref a))->Fm a=none
  apart:∀ (i j:Nat) (d e:PyData) (a:Addr),ρ[i]?=some (.own d)->ρ[j]?=some (.own e)->σ[i]?=some (some (.ref a))->σ[j]?=some (some (.ref a))->i=j
theorem ir.mono {Fm H H':Hp} {σ:St} {ρ:aS} (h:ir Fm H σ ρ) (s:aB H H'):ir Fm H' σ ρ:=⟨h.fm.trans s,h.sl.mono s,h.own,h.apart⟩
noncomputable def zP (X:Cx) (Fm:Hp) (r:R wY) (D:s9):Prop :=
  match r with
  | .ok (.nx ρ)=>∀ σ H,ir Fm H σ ρ->D.nx σ H
  | .ok (.rt d)=>∀ v H,aB Fm H->Rp H d v->D.rt v H
  | .ok (.bk ρ)=>∀ σ H,ir Fm H σ ρ->D.bk σ H
  | .ok (.ct ρ)=>∀ σ H,ir Fm H σ ρ->D.ct σ H
  | .ex c=>Xw X c Fm/\DZ X c Fm
  | .no=>False
noncomputable def Bb (X:Cx) (Fm:Hp) (g:Fs):TS:=fun D σ H=>∃ ρ,ir Fm H σ ρ/\zP X Fm (g ρ) D
noncomputable def kA (X:Cx) (st:Stmt) (g:Fs):Prop:=∀ Fm,PS X st (Bb X Fm g)
structure Z.kA (X:Cx) (st:Stmt) (g:Fs):Prop where
  un:D2.kA X st g
noncomputable def kO (X:Cx) (st:List Stmt) (g:Fs):Prop:=∀ Fm,p0 X st (Bb X Fm g)
structure Z.kO (X:Cx) (st:List Stmt) (g:Fs):Prop where
  un:D2.kO X st g
theorem PS.imp {X:Cx} {e:Stmt} {t t':TS} (h:PS X e t) (i:∀ D σ H,t' D σ H->t D σ H):PS X e t':=fun pins s σ H D I q=>h pins s σ H D I (i D σ H q)
theorem p0.imp {X:Cx} {e:List Stmt} {t t':TS} (h:p0 X e t) (i:∀ D σ H,t' D σ H->t D σ H):p0 X e t':=fun pins s σ H D I q=>h pins s σ H D I (i D σ H q)
section
variable {X:Cx} {Fm:Hp} {σ:St} {H:Hp} {D:s9}
theorem my {P:Hp->Hp->PyData->V->Prop} {f:Fe} {k:aS->PyData->R wY} (h:Bb X Fm (fun ρ=>f ρ>>=k ρ) D σ H) :
    jI X P f σ H (fun v H1=>∃ ρ d,ir Fm H1 σ ρ/\aB H H1/\P H H1 d v/\zP X Fm (k ρ d) D):=by
  obtain ⟨ρ,sl,q⟩:=h;refine ⟨ρ,sl.sl,?_⟩;dsimp only at q;cases e:f ρ with
  | ok d=>rw [e] at q;exact fun v H1 s p=>⟨ρ,d,sl.mono s,s,p,q⟩
  | ex c=>rw [e] at q;exact q.1.mono sl.fm
  | no=>rw [e] at q;exact q
theorem u5 {f:aS->R Bool} {k:aS->Bool->R wY} (h:Bb X Fm (fun ρ=>f ρ>>=k ρ) D σ H):Ac X f σ H (fun b H1=>∃ ρ,ir Fm H1 σ ρ/\aB H H1/\zP X Fm (k ρ b) D):=by
  obtain ⟨ρ,sl,q⟩:=h;refine ⟨ρ,sl.sl,?_⟩;dsimp only at q;cases e:f ρ with
  | ok d=>rw [e] at q;exact fun H1 s=>⟨ρ,sl.mono s,s,q⟩
  | ex c=>rw [e] at q;exact q.1.mono sl.fm
  | no=>rw [e] at q;exact q
end
noncomputable def eG:Fs:=fun ρ=>.ok (.nx ρ)
noncomputable def uz (h:Fs):wY->R wY
  | .nx ρ=>h ρ
  | o=>.ok o
noncomputable def bi (g h:Fs):Fs:=fun ρ=>g ρ>>=uz h
noncomputable def pf (t:aS->R Bool) (g h:Fs):Fs:=fun ρ=>t ρ>>=fun b=>if b=true then g ρ else h ρ
noncomputable def cR (f:Fe):Fs:=fun ρ=>f ρ>>=fun d=>.ok (.rt d)
noncomputable def bY (i:Nat) (f:Fe):Fs:=fun ρ=>f ρ>>=fun d=>.ok (.nx (ρ.set i (.val d)))
noncomputable def ib (i:Nat) (f:Fe):Fs:=fun ρ=>f ρ>>=fun d=>.ok (.nx (ρ.set i (.own d)))
section
variable {X:Cx} {nl:Nat} {G:List Str} {st:Stmt} {sts:List Stmt} {g h:Fs} {f:Fe} {e:Expr} {pos pos':Pos} {x:Str}
theorem dq  : Z.kO X [] eG:=⟨fun Fm=>p0.imp AS fun D σ H ⟨ρ,sl,q⟩=>q σ H sl⟩
theorem ak (h1:Z.kA X st g) (h2:Z.kO X sts h):Z.kO X (st::sts) (bi g h):=⟨have h1:=h1.un;have h2:=h2.un;fun Fm=>by
  refine p0.imp (l7 (h1 Fm) (h2 Fm)) fun D σ H ⟨ρ,sl,q⟩=>⟨ρ,sl,?_⟩
  unfold bi at q;cases e:g ρ with
  | ex c=>rw [e] at q;exact q
  | no=>rw [e] at q;exact q
  | ok o =>
    rw [e] at q;cases o with
    | nx ρ'=>exact fun σ' H' s'=>⟨ρ',s',q⟩
    | rt d=>exact q
    | bk ρ'=>exact q
    | ct ρ'=>exact q⟩
theorem aw (h1:Z.kA X st g):Z.kO X [st] g:=⟨have h1:=h1.un;fun Fm=>uU (h1 Fm)⟩
theorem aH (he:Z.cI X e f):Z.kA X (.Return (some e) pos) (cR f):=⟨have he:=he.un;fun Fm =>
  PS.imp (Cg he) fun D σ H h=>(my (P:=iO) (f:=f) (k:=fun _ d=>.ok (.rt d)) h).post fun v H1 ⟨ρ,d,sl,_,p,q⟩=>q v H1 sl.fm p⟩
theorem dZ {c:Expr} {a b:List Stmt} {t:aS->R Bool} (hc:Z.lO X c t) (ha:Z.kO X a g) (hb:Z.kO X b h):Z.kA X (.If c a b pos) (pf t g h):=⟨have hc:=hc.un;have ha:=ha.un;have hb:=hb.un;fun Fm =>
  PS.imp (El hc (ha Fm) (hb Fm)) fun D σ H q=>(u5 (f:=t) (k:=fun ρ b=>if b=true then g ρ else h ρ) q).post fun b H1 ⟨ρ,sl,_,q⟩=>by
    cases b with
    | true=>exact ⟨ρ,sl,q⟩
    | false=>exact ⟨ρ,sl,q⟩⟩
theorem Sl.set {H:Hp} {σ:St} {ρ:aS} {c:bh} {o:Option V} (h:Sl H σ ρ) (i:Nat) (hc:iT H c o):Sl H (σ.set i o) (ρ.set i c):=by
  refine ⟨by rw [List.length_set,List.length_set];exact h.1,fun j c' o' h1 h2=>?_⟩;rw [List.getElem?_set] at h1 h2;by_cases hij:i=j
  · rw [if_pos hij] at h1 h2;by_cases hi:i < ρ.length
    · rw [if_pos hi] at h1;rw [if_pos (by rw [h.1];exact hi)] at h2;cases h1;cases h2;exact hc
    · rw [if_neg hi] at h1;cases h1
  · rw [if_neg hij] at h1 h2;exact h.2 j c' o' h1 h2
theorem cQ {ρ:aS} {i j:Nat} {c:bh} {d:PyData} (hc:∀ e,c≠.own e) (h:(ρ.set i c)[j]?=some (.own d)):i≠j/\ρ[j]?=some (.own d):=by
  rw [List.getElem?_set] at h;by_cases hij:i=j
  · rw [if_pos hij] at h;split at h
    · exact absurd (Option.some.inj h) (hc d)
    · cases h
  · rw [if_neg hij] at h;exact ⟨hij,h⟩
theorem ir.set {Fm H:Hp} {σ:St} {ρ:aS} {c:bh} {o:Option V} (h:ir Fm H σ ρ) (i:Nat) (hn:∀ e,c≠.own e) (hc:iT H c o):ir Fm H (σ.set i o) (ρ.set i c):=by
  refine ⟨h.fm,h.sl.set i hc,fun j d a h1 h2=>?_,fun j k d e a h1 h2 h3 h4=>?_⟩
  · obtain ⟨ne,h1⟩:=cQ hn h1;rw [List.getElem?_set,if_neg ne] at h2;exact h.own j d a h1 h2
  · obtain ⟨ne,h1⟩:=cQ hn h1;obtain ⟨ne',h2⟩:=cQ hn h2;rw [List.getElem?_set,if_neg ne] at h3;rw [List.getElem?_set,if_neg ne'] at h4;exact h.apart j k d e a h1 h2 h3 h4
theorem o7 {H:Hp} {d:PyData} {v:V} (h:iA H d v):∃ a o,v=.ref a/\H a=some o:=by
  cases d <;> simp only [iA] at h
  · obtain ⟨a,vs,e,ha,_⟩:=h;exact ⟨a,_,e,ha⟩
  · obtain ⟨a,vs,e,ha,_⟩:=h;exact ⟨a,_,e,ha⟩
theorem ir.setOwn {Fm H0 H:Hp} {σ:St} {ρ:aS} {d:PyData} {v:V} (h0:ir Fm H0 σ ρ) (h:ir Fm H σ ρ) (hs:aB H0 H) (i:Nat) (hn:Dd H0 H d v):ir Fm H (σ.set i (some v)) (ρ.set i (.own d)):=by
  obtain ⟨p,a,rfl,ha⟩:=hn;have old:∀ (j:Nat) (e:PyData) (b:Addr),i≠j->(ρ.set i (.own d))[j]?=some (.own e)->(σ.set i (some (.ref a)))[j]?=some (some (.ref b))->ρ[j]?=some (.own e)/\σ[j]?=some (some (.ref b)):=fun j e b ne h1 h2=>by
    rw [List.getElem?_set,if_neg ne] at h1 h2;exact ⟨h1,h2⟩
  have notA:∀ (j:Nat) (e:PyData),ρ[j]?=some (.own e)->σ[j]?=some (some (.ref a))->False:=fun j e h1 h2=>by
    obtain ⟨u,e1,q⟩:=h0.sl.2 j _ _ h1 h2;cases e1;obtain ⟨b,o,e2,hb⟩:=o7 q;cases e2;rw [ha] at hb;cases hb
  have here:∀ (b:Addr),(σ.set i (some (.ref a)))[i]?=some (some (.ref b))->b=a:=fun b h2=>by
    rw [List.getElem?_set,if_pos rfl] at h2;split at h2
    · cases h2;rfl
    · cases h2
  refine ⟨h.fm,h.sl.set i ⟨_,rfl,p⟩,fun j e b h1 h2=>?_,fun j k e f b h1 h2 h3 h4=>?_⟩
  · by_cases hij:i=j
    · subst hij;rw [here b h2];exact (h0.fm).free ha
    · obtain ⟨h1,h2⟩:=old j e b hij h1 h2;exact h.own j e b h1 h2
  · by_cases hij:i=j
    · subst hij;have eb:=here b h3;by_cases hik:i=k
      · exact hik
      · obtain ⟨h2,h4⟩:=old k f b hik h2 h4;rw [eb] at h4;exact (notA k f h2 h4).elim
    · obtain ⟨h1,h3⟩:=old j e b hij h1 h3;by_cases hik:i=k
      · subst hik;have eb:=here b h4;rw [eb] at h3;exact (notA j e h1 h3).elim
      · obtain ⟨h2,h4⟩:=old k f b hik h2 h4;exact h.apart j k e f b h1 h2 h3 h4
theorem aM (T:Tb X nl G) (i:Nat) (hN:(X.N.take nl)[i]?=some x) (he:Z.cI X e f) (hs:swapsWith e (some (.Name x pos')) pos.line X.env=pure false:=by rfl):Z.kA X (.Assign [.Name x pos'] e pos) (bY i f):=⟨have he:=he.un;fun Fm=>by
  have hm:=T.loc x (List.mem_of_getElem? hN);have hi:X.N[i]?=some x:=by
    rw [List.getElem?_take] at hN;split at hN
    · exact hN
    · cases hN
  exact PS.imp (wV T.nd hi hm.1 he hs hm.2) fun D σ H h=>(my (P:=iO) (f:=f) (k:=fun ρ d=>.ok (.nx (ρ.set i (.val d)))) h).post fun v H1 ⟨ρ,d,sl,_,p,q⟩ =>
    q _ H1 (sl.set i (fun e z=>by cases z) ⟨v,rfl,p⟩)⟩
theorem kl (T:Tb X nl G) (i:Nat) (hN:(X.N.take nl)[i]?=some x) (he:Z.nL X e f) (hs:swapsWith e (some (.Name x pos')) pos.line X.env=pure false:=by rfl):Z.kA X (.Assign [.Name x pos'] e pos) (ib i f):=⟨have he:=he.un;fun Fm=>by
  have hm:=T.loc x (List.mem_of_getElem? hN);have hi:X.N[i]?=some x:=by
    rw [List.getElem?_take] at hN;split at hN
    · exact hN
    · cases hN
  refine PS.imp (wV T.nd hi hm.1 he hs hm.2) fun D σ H h=>?_
  obtain ⟨ρ0,sl0,q0⟩:=h;refine ⟨ρ0,sl0.sl,?_⟩;unfold ib at q0;cases ef:f ρ0 with
  | ex c=>rw [ef] at q0;exact q0.1.mono sl0.fm
  | no=>rw [ef] at q0;exact q0
  | ok d =>
    rw [ef] at q0;exact fun v H1 s p=>q0 _ H1 (ir.setOwn sl0 (sl0.mono s) s i p)⟩
end
structure zc (J:It) (Gd:Hp->Prop) (ds:List PyData):Prop where
  go:∀ i H,Gd H->i < ds.length->J.go i H
  yld:∀ i H x H' d,Gd H->ds[i]?=some d->J.yld i H x H'->aB H H'/\Rp H' d x
  stop:∀ i H,Gd H->ds.length<=i->J.stop i H
noncomputable def EG (H0:Hp) (B:Addr->Prop) (Gd:Hp->Prop):Prop:=∀ H,Kp H0 H->(∀ b o,B b->H0 b=some o->H b=some o)->Gd H
noncomputable def Fr (X:Cx) (f:aS->R (List PyData)):TI:=fun σ H Rk=>∃ ρ,Sl H σ ρ/\match f ρ with
  | .ok ds=>∀ J H',aB H H'->(∃ Gd,zc J Gd ds/\EG H' (fun _=>False) Gd)->Rk J H'
  | .ex c=>Xw X c H
  | .no=>False
noncomputable def sh (X:Cx) (tg iter:Expr) (f:aS->R (List PyData)):Prop:=PI X tg iter (Fr X f)
structure Z.sh (X:Cx) (tg iter:Expr) (f:aS->R (List PyData)):Prop where
  un:D2.sh X tg iter f
noncomputable def Ft (X:Cx) (b:PyData->aS->Option aS):TG:=fun v σ H Q=>∃ ρ d,Sl H σ ρ/\Rp H d v/\match b d ρ with
  | some ρ'=>∀ σ',Sl H σ' ρ'->(∀ (i:Nat) (e:PyData),ρ'[i]?=some (.own e)->ρ[i]?=some (.own e)/\σ'[i]?=σ[i]?)->Q σ' H
  | none=>False
noncomputable def u6 (X:Cx) (tg:Expr) (b:PyData->aS->Option aS):Prop:=PG X tg (Ft X b)
structure Z.u6 (X:Cx) (tg:Expr) (b:PyData->aS->Option aS):Prop where
  un:D2.u6 X tg b
noncomputable def aP (i:Nat):PyData->aS->Option aS:=fun d ρ=>some (ρ.set i (.val d))
theorem PG.imp {X:Cx} {e:Expr} {t t':TG} (h:PG X e t) (i:∀ v σ H Q,t' v σ H Q->t v σ H Q):PG X e t':=fun pins s σ H v u Q I r q=>h pins s σ H v u Q I r (i v σ H Q q)
theorem PI.imp {X:Cx} {tg e:Expr} {t t':TI} (h:PI X tg e t) (i:∀ σ H Q,t' σ H Q->t σ H Q):PI X tg e t':=fun pins s σ H Q I q=>h pins s σ H Q I (i σ H Q q)
section
variable {X:Cx} {nl:Nat} {G:List Str} {x:Str} {pos:Pos}
theorem Tb.nm (T:Tb X nl G) {i:Nat} (hN:(X.N.take nl)[i]?=some x):X.N[i]?=some x/\A8 X.env.scope x/\(X.fn x=true\/X.env.scope.names.lookup x=some .local):=by
  have hm:=T.loc x (List.mem_of_getElem? hN);have hi:X.N[i]?=some x:=by
    rw [List.getElem?_take] at hN;split at hN
    · exact hN
    · cases hN
  exact ⟨hi,hm⟩
theorem aN (T:Tb X nl G) (i:Nat) (hN:(X.N.take nl)[i]?=some x):Z.u6 X (.Name x pos) (aP i):=⟨by
  obtain ⟨hi,h1,h2⟩:=T.nm hN;refine PG.imp (pC T.nd hi h1 h2) fun v σ H Q ⟨ρ,d,sl,p,q⟩=>?_
  refine q _ (sl.set i ⟨v,rfl,p⟩) fun j e h=>?_
  obtain ⟨ne,h⟩:=cQ (fun e z=>by cases z) h;exact ⟨h,by rw [List.getElem?_set,if_neg ne]⟩⟩
end
noncomputable def eS (b:PyData->aS->Option aS) (g:Fs):List PyData->Fs
  | [],ρ=>.ok (.nx ρ)
  | d::ds,ρ=>match b d ρ with
    | none=>.no
    | some ρ1=>g ρ1>>=fun o=>match o with
      | .nx ρ2=>eS b g ds ρ2
      | .ct ρ2=>eS b g ds ρ2
      | .bk ρ2=>.ok (.nx ρ2)
      | .rt r=>.ok (.rt r)
noncomputable def jL (it:aS->R (List PyData)) (b:PyData->aS->Option aS) (g:Fs):Fs:=fun ρ=>it ρ>>=fun ds=>eS b g ds ρ
noncomputable def stab (Fm H:Hp):Hp:=fun b=>match H b with
  | some (.tup xs)=>some (.tup xs)
  | some (.frz o u)=>some (.frz o u)
  | _=>Fm b
theorem wc {Fm H:Hp} (h:aB Fm H):aB (stab Fm H) H:=fun b o e=>by
  unfold stab at e;split at e
  · rename_i q;rw [q];exact e
  · rename_i q;rw [q];exact e
  · exact h b o e
theorem zo {Fm H:Hp}:Kp H (stab Fm H):=⟨fun b xs e=>by unfold stab;rw [e],fun b o u e=>by unfold stab;rw [e]⟩
theorem z0 {Fm H:Hp} (h:aB Fm H):aB Fm (stab Fm H):=fun b o e=>by
  have:=h b o e;unfold stab;split
  · rename_i q;rw [this] at q;exact q.symm
  · rename_i q;rw [this] at q;exact q.symm
  · exact e
theorem ir.stab {Fm H:Hp} {σ:St} {ρ:aS} (h:ir Fm H σ ρ):ir (stab Fm H) H σ ρ:=by
  refine ⟨wc h.fm,h.sl,fun i d a h1 h2=>?_,h.apart⟩;have f:=h.own i d a h1 h2;obtain ⟨u,e1,q⟩:=h.sl.2 i _ _ h1 h2;cases e1;unfold D2.stab;cases d <;> simp only [iA] at q
  · obtain ⟨b,vs,e,hb,_⟩:=q;cases e;rw [hb];exact f
  · obtain ⟨b,vs,e,hb,_⟩:=q;cases e;rw [hb];exact f
theorem ir.unstab {Fm F H:Hp} {σ:St} {ρ:aS} (hF:aB Fm F) (h:ir F H σ ρ):ir Fm H σ ρ:=⟨hF.trans h.fm,h.sl,fun i d a h1 h2=>hF.free (h.own i d a h1 h2),h.apart⟩
theorem fq {X:Cx} {tg iter:Expr} {body:List Stmt} {it:aS->R (List PyData)} {b:PyData->aS->Option aS} {g:Fs} {pos:Pos} (hp:PassesOwn (model X.prog X.w) X.A X.env X.xe) (hc:X.calm=true) (hi:Z.sh X tg iter it) (hg:Z.u6 X tg b) (hb:Z.kO X body g) (hs:∀ x,foldedSetIterable iter X.env x=pure x:=by intro _;rfl):Z.kA X (.For tg iter body [] pos) (jL it b g):=⟨have hi:=hi.un;have hg:=hg.un;have hb:=hb.un;fun Fm=>by
  intro pins s σ H D I h;obtain ⟨ρ,sl,q⟩:=h;unfold jL at q
  -- the frame: what is stable at the loop's iw is only known behind the iterator's making: the body is taken at every frame
  refine BA (wi:=Fr X it) (g:=Ft X b) (tb:=fun D' σ' H'=>∃ F,Bb X F g D' σ' H') hp hc hi hg (fun pins' s' σ' H' D' I' ⟨F,q'⟩=>hb F pins' s' σ' H' D' I' q') hs pins s σ H D I ?_;refine ⟨ρ,sl.sl,?_⟩;cases ei:it ρ with
  | ex c=>rw [ei] at q;exact q.1.mono sl.fm
  | no=>rw [ei] at q;exact q
  | ok ds =>
    rw [ei] at q;intro J H1 s1 ⟨Gd,idt,sta⟩;have sl1:=sl.mono s1;let F:=stab Fm H1
    have hF:aB Fm F:=z0 sl1.fm
    -- the word: so many items are taken,and the dW gives what the whole gives
    refine ⟨fun i m σ' H'=>m=ds.length-i/\i<=ds.length/\∃ ρ',ir F H' σ' ρ'/\zP X Fm (eS b g (ds.drop i) ρ') D,⟨ds.length,by simp,Nat.zero_le _,ρ,sl1.stab,by simpa using q⟩,?_⟩;rintro i m σ2 H2 ⟨rfl,hi',ρ2,sl2,q2⟩;have gd:Gd H2:=sta H2 (Kp.trans zo (Kp.of sl2.fm)) fun _ _ z=>z.elim
    by_cases hlt:i < ds.length
    · refine .inr ⟨idt.go i H2 gd hlt,fun σ' H'=>i+1<=ds.length/\∃ ρ',ir F H' σ' ρ'/\zP X Fm (eS b g (ds.drop (i+1)) ρ') D,fun σ' H' ⟨z,p⟩=>⟨ds.length-(i+1),by omega,rfl,z,p⟩,fun x H3 y=>?_⟩;obtain ⟨d,hd⟩:∃ d,ds[i]?=some d:=⟨ds[i],List.getElem?_eq_getElem hlt⟩
      obtain ⟨s3,p3⟩:=idt.yld i H2 x H3 d gd hd y;have hdrop:ds.drop i=d::ds.drop (i+1):=by
        rw [List.drop_eq_getElem_cons hlt];congr 1;exact Option.some.inj ((List.getElem?_eq_getElem hlt).symm.trans hd)
      rw [hdrop] at q2;unfold eS at q2;have sl3:=sl2.mono s3;refine ⟨ρ2,d,sl3.sl,p3,?_⟩;cases eb:b d ρ2 with
      | none=>rw [eb] at q2;exact q2
      | some ρ3 =>
        rw [eb] at q2;intro σ4 sl4 hown;refine ⟨F,ρ3,⟨sl3.fm,sl4,fun j e a h1 h2=>?_,fun j k e f a h1 h2 h3 h4=>?_⟩,?_⟩
        · obtain ⟨z1,z2⟩:=hown j e h1;exact sl3.own j e a z1 (by rw [<- z2];exact h2)
        · obtain ⟨z1,z2⟩:=hown j e h1;obtain ⟨z3,z4⟩:=hown k f h2;exact sl3.apart j k e f a z1 z3 (by rw [<- z2];exact h3) (by rw [<- z4];exact h4)
        · have q3:zP X Fm (g ρ3>>=fun o=>match o with
            | .nx ρ2=>eS b g (ds.drop (i+1)) ρ2
            | .ct ρ2=>eS b g (ds.drop (i+1)) ρ2
            | .bk ρ2=>.ok (.nx ρ2)
            | .rt r=>.ok (.rt r)) D:=q2
          cases eg:g ρ3 with
          | ex c=>rw [eg] at q3;exact ⟨q3.1.mono hF,q3.2.mono hF⟩
          | no=>rw [eg] at q3;exact q3
          | ok o =>
            rw [eg] at q3;cases o with
            | nx ρ4=>exact fun σ' H' s'=>⟨hlt,ρ4,s',q3⟩
            | ct ρ4=>exact fun σ' H' s'=>⟨hlt,ρ4,s',q3⟩
            | bk ρ4=>exact fun σ' H' s'=>q3 σ' H' (s'.unstab hF)
            | rt r=>exact fun v H' s' p'=>q3 v H' (hF.trans s') p'
    · have e:i=ds.length:=by omega
      subst e;refine .inl ⟨idt.stop _ H2 gd (Nat.le_refl _),?_⟩;rw [List.drop_length] at q2;exact q2 σ2 H2 (sl2.unstab hF)⟩
noncomputable def dP (n:Nat) (g:Fs):List PyData->R PyData:=fun ds=>g (ds.map bh.val++List.replicate (n-ds.length) .non)>>=fun o=>match o with
  | .rt d=>.ok d
  | .nx _=>.ok .none
  | _=>.no
noncomputable def dz (F:List PyData->R PyData) (n:Nat):Sp:=fun vs H Q E=>∃ ds,bz H ds vs/\ds.length=n/\match F ds with
  | .ok d=>∀ v H',aB H H'->Rp H' d v->Q v H'
  | .ex c=>∀ H',aB H H'->E (.str c 0) none H'
  | .no=>False
theorem wM {H:Hp} {N:List Str}:∀ {ds:List PyData} {vs:List V},bz H ds vs->Sl H (L2.iw N vs) (ds.map bh.val++List.replicate (N.length-ds.length) .non):=fun {ds vs} r=>by
  have hl:=r.length;refine ⟨by unfold L2.iw;rw [List.length_append,List.length_append,List.length_map,List.length_map,List.length_replicate,List.length_replicate,hl],fun i c o h1 h2=>?_⟩;by_cases hi:i < ds.length
  · rw [List.getElem?_append_left (by simpa using hi),List.getElem?_map] at h1;cases e:ds[i]? with
    | none=>rw [e] at h1;cases h1
    | some d =>
      rw [e] at h1;cases h1;obtain ⟨v,e1,p⟩:=r.get e;unfold L2.iw at h2;rw [List.getElem?_append_left (by rw [List.length_map,hl];exact hi),List.getElem?_map,e1] at h2;cases h2;exact ⟨v,rfl,p⟩
  · rw [List.getElem?_append_right (by simpa using hi),List.getElem?_replicate] at h1;split at h1
    · cases h1;exact True.intro
    · cases h1
section
variable {P:Program} {w:World} {H:Hp} {h:Heap} {a:Addr}
theorem pY:∀ {o:HO},bW P w H h a o->∃ u,h.get? a=some u
  | .lst xs,x=>by obtain ⟨_,_,_,_,e⟩:=x;exact ⟨_,e⟩
  | .tup xs,x=>by obtain ⟨_,_,_,o,e,_⟩:=x;exact ⟨_,e⟩
  | .dK kvs,x=>by obtain ⟨_,_,_,_,o,_,_,e,_⟩:=x;exact ⟨_,e⟩
  | .dT kvs,x=>by obtain ⟨_,_,_,_,o,_,_,e,_⟩:=x;exact ⟨_,e⟩
  | .set S n,x=>by obtain ⟨o,_,_,_,e,_⟩:=x;exact ⟨_,e⟩
  | .ins C dx fs,x=>by obtain ⟨_,_,_,e,_⟩:=x;exact ⟨_,e⟩
  | .own y,x=>by obtain ⟨_,e⟩:=x;exact ⟨_,e⟩
  | .xd fs,x=>by obtain ⟨_,⟨_,_,_,e,_⟩,_⟩:=x;exact ⟨_,e⟩
  | .rng lo hi,x=>by obtain ⟨_,_,_,e⟩:=x;exact ⟨_,e⟩
  | .frz ob u,x=>by obtain ⟨e,_⟩:=x;exact ⟨_,e⟩
  | .tbl ps,x=>⟨_,(show h.get? a=some _ from x)⟩
  | .met f y,x=>⟨_,(show h.get? a=some _ from x)⟩
  | .ext φ,x=>by obtain ⟨_,⟨_,e⟩,_⟩:=x;exact ⟨_,e⟩
end
theorem qe.un {P:Program} {w:World} {outer:List Env} {H H':Hp} {s s':Shared} {C:Addr} {e:Value} (f:qe P w outer H s C H' e s'):Un (ky outer) [] H H' s.heap s'.heap:=by
  obtain ⟨p,a0,B,_,fl,ok,_,cov⟩:=f.ex;refine ⟨fun b o q n hb _=>fl.1 _ _ (cov b o q n hb).1,fun b o q n hb _=>(f.slot b o q n hb).1,fun b o q n _=>?_,fun b o q _=>?_,fun b xs q=>f.same _ _ q,fun b o u q=>f.same _ _ q,fun b ps q=>⟨#[],by rw [f.same _ _ q];simp⟩⟩
  · by_cases hb:b∈ky outer
    · exact (f.slot b o q n hb).2
    · exact (cov b o q n hb).2
  · cases n:H b with
    | none =>
      by_cases hb:b∈ky outer
      · obtain ⟨sl,z⟩:=(f.slot b o q n hb).1;exact ⟨_,z⟩
      · exact ⟨o,fl.1 _ _ (cov b o q n hb).1⟩
    | some u =>
      obtain ⟨o',z⟩:=pY (ok b u (f.same _ _ n));exact ⟨o',fl.1 _ _ z⟩
theorem qe.hok {P:Program} {w:World} {outer:List Env} {H H':Hp} {s s':Shared} {C:Addr} {e:Value} (f:qe P w outer H s C H' e s'):gM P w H' s'.heap:=by
  obtain ⟨p,a0,B,_,fl,ok,_,_⟩:=f.ex;exact ok.kept fun b u q=>fl.1 b u q
theorem CZ.un {P:Program} {w:World} {outer:List Env} {H H':Hp} {s s':Shared} {C:Addr} {e:Value} (f:CZ P w outer H s C H' e s'):Un (ky outer) [] H H' s.heap s'.heap:=f.hld.un
theorem qe.inv {X:Cx} {pins:List (Addr×Obj)} {σ:St} {Hc H1:Hp} {sc s':Shared} {C:Addr} {e:Value} (f:qe X.prog X.w X.stack Hc sc C H1 e s') (I:aF X pins σ Hc sc):aF X pins σ H1 s' :=
  I.call' f.os f.un f.hok f.bare fun b z=>absurd z (by simp)
section
variable {P:Program} {w:World} {l:List Env} {H H':Hp} {s s':Shared} {C p:Addr} {e:Value}
theorem qe.again {a0:Value} {B h':Heap} (f:qe P w l H s C H' e s') (t:qB B l p (.ref C) a0 s'.heap) (t':qB B l p (.ref C) a0 h') (up:s'.heap.UpToSlots h') (okB:gM P w H' B) (hp:H' p=none)
    (cov:∀ b o,s.heap.get? b=some o->H b=none->b∉ky l->B.get? b=some o/\H' b=none):qe P w l H s C H' (.ref p) { s' with heap:=h' }:=by
  refine ⟨f.os,f.bare,f.same,⟨p,a0,B,rfl,t',okB,hp,cov⟩,fun b o q n hb=>?_⟩;obtain ⟨⟨sl,q2⟩,n2⟩:=f.slot b o q n hb;obtain ⟨_,o3,q3,nf⟩:=t.2.2.1.mem hb;rw [q2] at q3;cases q3;obtain ⟨sl3,q4⟩:=up b _ q2 nf;exact ⟨⟨sl3,q4⟩,n2⟩
theorem yW {x:Value} {env env0:Env} (h:env.frame=env0.frame):noteFrame x env=noteFrame x env0:=by
  unfold noteFrame PySem.frameOf;rw [h]
theorem qe.note {M:Model} {A:Around} {E:Value->Shared->Prop} {Q:Unit->Shared->Prop} {env env0:Env} {outer:List Env} {L:Addr} (f:qe P w l H s C H' e s') (hl:l=env0::outer) (hfr:A.frames=some l) (h0:env0.frame=some L) (h1:env.frame=some L)
    (k:∀ h',qe P w l H s C H' e { s' with heap:=h' }->s'.heap.UpToSlots h'->Q () { s' with heap:=h' }):wpAny M A (noteFrame e env) Q E s':=by
  subst hl;obtain ⟨p,a0,B,rfl,t,okB,hp,cov⟩:=f.ex;rw [yW (h1.trans h0.symm)];exact qA hfr h0 t fun h' t' up=>k h' (f.again t t' up okB hp cov) up
theorem qe.pass {α:Type} {M:Model} {A:Around} {E:Value->Shared->Prop} {Q:α->Shared->Prop} {env:Env} {what:String} (f:qe P w l H s C H' e s') (k:∀ h',qe P w l H s C H' e { s' with heap:=h' }->E e { s' with heap:=h' }):wpAny M A (PySem.passOn what e env:Sem α) Q E s':=by
  obtain ⟨p,a0,B,rfl,t,okB,hp,cov⟩:=f.ex;exact xX t fun h' t' up=>k h' (f.again t t' up okB hp cov)
end
section
variable {P:Program} {w:World} {K:PySem.W.Frag} {mg:Str->Option Value} {base:Heap} {N:List Str} {qual:Str} {sc:Scope} {f:Addr} {cdv:Value} {A:Around} {outer:List Env} {s:Shared} {H:Hp} {E:XK} {c:Str}
theorem B7 (h:∀ H',aB H H'->E (.str c 0) none H'):Xw (fx (cV P w mg) P w K mg base N qual sc f cdv A outer s H E) c H:=by
  intro H1 s1 C hm pins σ Hc sc' e s' I fl;obtain ⟨p,a0,B,rfl,fly,okB,hp,cov⟩:=fl.ex;have old:∀ b o,s.heap.get? b=some o->b≠s.heap.objs.size:=fun b o q=>Nat.ne_of_lt (Heap.lt_size q)
  refine wm I.ok.frames rfl fly fun h' fl' up=>⟨c,C,H1,hm,⟨fl.os.trans I.os,fl.bare,s1,⟨p,a0,B,rfl,fl',okB,hp,fun b o q n hb=>?_⟩,fun b o q n hb=>?_⟩,h H1 s1⟩
  · have q1:=I.base.keep b o q n hb (by simp [fx]);have n1:=I.base.free b o q n (by simp [fx]);refine cov b o q1 n1 fun z=>?_
    have z':b∈(s.heap.objs.size::ky outer):=z;rcases List.mem_cons.mp z' with z2 | z2
    · exact old b o q z2
    · exact hb z2
  · obtain ⟨sl,q1⟩:=I.base.slot b o q n hb (by simp [fx]);have n1:=I.base.free b o q n (by simp [fx]);have hb':b∈ky (fx (cV P w mg) P w K mg base N qual sc f cdv A outer s H E).stack:=List.mem_cons_of_mem _ hb;obtain ⟨⟨sl',q2⟩,n2⟩:=fl.slot b _ q1 n1 hb';obtain ⟨_,o3,q3,nf⟩:=fly.2.2.1.mem hb';rw [q2] at q3;cases q3;obtain ⟨sl3,q4⟩:=up b _ q2 nf;exact ⟨⟨sl3,q4⟩,n2⟩
theorem zh (h:∀ H',aB H H'->E (.str c 0) none H'):DZ (fx (cV P w mg) P w K mg base N qual sc f cdv A outer s H E) c H:=by
  intro C hm pins σ Hm sm sH I h' p vs hx;have hin:∀ env∈(fx (cV P w mg) P w K mg base N qual sc f cdv A outer s H E).stack,∀ b,env.frame=some b->b∈ky (fx (cV P w mg) P w K mg base N qual sc f cdv A outer s H E).stack:=fun env he b hb=>List.mem_filterMap.mpr ⟨env,he,hb⟩
  have old:∀ b o,s.heap.get? b=some o->b≠s.heap.objs.size:=fun b o q=>Nat.ne_of_lt (Heap.lt_size q)
  refine wpAny_leaves_madeW (s:={ sm with heap:=h' }) (base:=PySem.W.hideAll sm.heap (ky (fx (cV P w mg) P w K mg base N qual sc f cdv A outer s H E).stack)) I.ok.frames rfl (fun b o q=>PySem.W.of_hideAll _ q) (PySem.W.funFrames_hide I.stack hin) hx fun h'' t fl' _ _ up =>
    ⟨c,C,Hm,hm,⟨I.os,I.bare,sH,⟨p,.ref t,_,rfl,fl',fun b u q=>?_,?_,fun b o q n hb=>?_⟩,fun b o q n hb=>?_⟩,h Hm sH⟩
  · refine (I.hok b u q).stay (fun c' v hc z=>PySem.W.hideAll_get _ z fun m=>?_) (fun _ z=>z) fun _ _ z=>z
    have hn:=I.stkFree c' m;rcases hc with rfl | hc
    · rw [hn] at q;cases q
    · rw [hn] at hc;cases hc
  · cases q:Hm p with
    | none=>rfl
    | some u =>
      obtain ⟨o',z⟩:=pY (I.hok p u q);rw [hx.new] at z;cases z
  · have q1:=I.base.keep b o q n hb (by simp [fx]);have n1:=I.base.free b o q n (by simp [fx]);refine ⟨PySem.W.hideAll_get _ q1 fun z=>?_,n1⟩;have z':b∈(s.heap.objs.size::ky outer):=z;rcases List.mem_cons.mp z' with z2 | z2
    · exact old b o q z2
    · exact hb z2
  · obtain ⟨sl,q1⟩:=I.base.slot b o q n hb (by simp [fx]);have n1:=I.base.free b o q n (by simp [fx]);have hb':b∈ky (fx (cV P w mg) P w K mg base N qual sc f cdv A outer s H E).stack:=List.mem_cons_of_mem _ hb;obtain ⟨_,o3,q3,nf⟩:=I.stack.mem hb';rw [q1] at q3;cases q3;obtain ⟨sl3,q4⟩:=up b _ (hx.keeps _ _ q1) nf;exact ⟨⟨sl3,q4⟩,n1⟩
end
theorem zB {P:Program} {w:World} {K:PySem.W.Frag} {mg:Str->Option Value} {base:Heap} {x qual:Str} {st:Stmt} {f:Addr} {fd:FuncData} {N ps:List Str} {k:Nat} {g:Fs} (F:gI K x qual st f fd) (S:aY N ps (ai st))
    (body:∀ (cdv:Value) (A:Around) (outer:List Env) (s:Shared) (H:Hp) (E:XK),eJ k (A.deeper (envOfC qual (ai st) s.heap.objs.size f cdv)) ->
      kO (fx (cV P w mg) P w K mg base N qual (ai st) f cdv A outer s H E) (cN st) g):bf P w K mg base (cV P w mg) (k+1) f fd ps (dz (dP N.length g) ps.length):=by
  obtain ⟨oc,od,kV,doc,pm,an,cdv,ct,osl,rfl,lk,hcd⟩:=F.ex;refine xQ lk hcd S (fun vs H Q E ⟨ds,r,hl,_⟩=>by rw [r.length];exact hl) fun A outer s H vs Q E hr h=>?_
  obtain ⟨ds,r,hl,q⟩:=h;have noOwn:∀ (i:Nat) (d:PyData),(ds.map bh.val++List.replicate (N.length-ds.length) bh.non)[i]?=some (.own d)->False:=fun i d h1=>by
    by_cases hi:i < ds.length
    · rw [List.getElem?_append_left (by simpa using hi),List.getElem?_map] at h1;cases e:ds[i]? with
      | none=>rw [e] at h1;cases h1
      | some d=>rw [e] at h1;cases h1
    · rw [List.getElem?_append_right (by simpa using hi),List.getElem?_replicate] at h1;split at h1
      · cases h1
      · cases h1
  refine ⟨_,body cdv A outer s H E hr H,_,⟨aB.refl _,wM r,fun i d a h1 h2=>(noOwn i d h1).elim,fun i j d e a h1 h2 h3 h4=>(noOwn i d h1).elim⟩,?_⟩;unfold dP at q;cases eg:g (ds.map bh.val++List.replicate (N.length-ds.length) .non) with
  | ex c=>rw [eg] at q;exact ⟨B7 q,zh q⟩
  | no=>rw [eg] at q;exact q.elim
  | ok o =>
    rw [eg] at q;cases o with
    | rt d=>exact fun v H' s' p=>q v H' s' p
    | nx ρ=>exact fun σ' H' s'=>q .non H' s'.fm (by simp only [Rp])
    | bk ρ=>exact q.elim
    | ct ρ=>exact q.elim
noncomputable def aG (F:List PyData->R PyData) (fs:aS->R (List PyData)):Fe:=fun ρ=>fs ρ>>=F
theorem zn {X:Cx} {k n:Nat} {f:Addr} {fd:FuncData} {ps:List Str} {F:List PyData->R PyData} {x:Str} {p pos:Pos} {e:Expr} {es:List Expr} {fs:aS->R (List PyData)} {nl:Nat} {G:List Str}
    (C:bf X.prog X.w X.K X.mg X.base (cV X.prog X.w X.mg) k f fd ps (dz F n)) (hr:eJ k X.A) (T:Tb X nl G) (j:Nat) (hG:G[j]?=some x) (hm:X.mg x=some (.ref f)) (hk:PySem.W.keepIn X.K (.ref f)=true) (hb:bO X.K fd ps []) (ha:sg X (e::es) fs)
    (hlen:(e::es).length=n) (hfs:∀ ρ ds,fs ρ=.ok ds->ds.length=n)
    (he:(e::es).all aO=true:=by rfl):cI X (.Call (.Name x p) (e::es) [] pos) (aG F fs):=by
  rw [List.all_cons,Bool.and_eq_true] at he;have g:=T.gl x (List.mem_of_getElem? hG);refine PE.imp (Am C hr g.1 hm hk hb .nil ur ha g.2.1 (bo he.1) (l6 he.2)) fun σ H Q ⟨ρ,sl,q⟩=>?_
  refine ⟨ρ,sl,?_⟩;unfold aG at q;cases e1:fs ρ with
  | ex c=>rw [e1] at q;exact q
  | no=>rw [e1] at q;exact q
  | ok ds =>
    rw [e1] at q;intro vs H1 s1 r1;rw [List.append_nil];refine ⟨ds,mO.mp r1,hfs ρ ds e1,?_⟩;have q':uR X iO (F ds) H Q:=q;cases e2:F ds with
    | ok d=>rw [e2] at q';exact fun v H' s' p'=>q' v H' (s1.trans s') p'
    | ex c=>rw [e2] at q';exact fun H' s'=>Xw.ex q' H' (s1.trans s')
    | no=>rw [e2] at q';exact q'
theorem ay:∀ ρ ds,aJ ρ=.ok ds->ds.length=0:=fun ρ ds e=>by cases e;rfl
theorem ag {f:Fe} {g:aS->R (List PyData)} {n:Nat} (h:∀ ρ ds,g ρ=.ok ds->ds.length=n):∀ ρ ds,ah f g ρ=.ok ds->ds.length=n+1:=fun ρ ds e=>by
  unfold ah at e;cases e1:f ρ with
  | ex c=>rw [e1] at e;cases e
  | no=>rw [e1] at e;cases e
  | ok d =>
    rw [e1] at e;cases e2:g ρ with
    | ex c=>rw [e2] at e;cases e
    | no=>rw [e2] at e;cases e
    | ok ds'=>rw [e2] at e;cases e;rw [List.length_cons,h ρ ds' e2]
theorem sS {scope:Scope} {env:Env} (h:∀ x∈scope.names,x.2=.free->∃ c,env.cells.lookup x.1=some c) :
    ∃ cl,closureFor scope env=pure cl/\(∀ x c,cl.lookup x=some c->env.cells.lookup x=some c)/\∀ x∈scope.names,x.2=.free->∃ c,cl.lookup x.1=some c:=by
  suffices gen:∀ (names:List (Str×NameKind)) (acc:List (Str×Addr)),(∀ x∈names,x.2=.free->∃ c,env.cells.lookup x.1=some c)->(∀ x c,acc.lookup x=some c->env.cells.lookup x=some c) ->
      ∃ cl,(forIn names acc fun x r=>if (x.snd==NameKind.free)=true then do let a <- cellOf env x.fst;pure (ForInStep.yield ((x.fst,a)::r)) else pure (ForInStep.yield r):Sem (List (Str×Addr)))=pure cl /\
        (∀ x c,cl.lookup x=some c->env.cells.lookup x=some c)/\(∀ x c,acc.lookup x=some c->∃ c',cl.lookup x=some c')/\∀ x∈names,x.2=.free->∃ c,cl.lookup x.1=some c by
    obtain ⟨cl,h1,h2,_,h4⟩:=gen scope.names [] h fun x c e=>by simp at e
    refine ⟨cl,?_,h2,h4⟩;simp only [closureFor];rw [h1];rfl
  intro names;induction names with
  | nil=>intro acc _ ha;exact ⟨acc,rfl,ha,fun x c e=>⟨c,e⟩,fun x hx=>by cases hx⟩
  | cons y r ih =>
    intro acc hn ha;obtain ⟨n,k⟩:=y;by_cases hk:k=.free
    · subst hk;obtain ⟨c,hc⟩:=hn (n,.free) List.mem_cons_self rfl;obtain ⟨cl,e1,e2,e3,e4⟩:=ih ((n,c)::acc) (fun x hx=>hn x (List.mem_cons_of_mem _ hx)) (fun x c' e=>by
        rw [List.lookup_cons] at e;split at e
        · rename_i q;have:x=n:=by simpa using q
          subst this;cases e;exact hc
        · exact ha x c' e)
      refine ⟨cl,?_,e2,fun x c' e=>?_,fun x hx hf=>?_⟩
      · rw [List.forIn_cons];have:cellOf env n=pure c:=by unfold cellOf;rw [hc]
        simp only [beq_self_eq_true,if_true,this,pure_bind];exact e1
      · by_cases hx:x=n
        · subst hx;exact e3 x c (by rw [List.lookup_cons];simp)
        · have hb:(x==n)=false:=by simpa using hx
          exact e3 x c' (by rw [List.lookup_cons,hb];exact e)
      · rcases List.mem_cons.mp hx with rfl | hx
        · exact e3 n c (by rw [List.lookup_cons];simp)
        · exact e4 x hx hf
    · obtain ⟨cl,e1,e2,e3,e4⟩:=ih acc (fun x hx=>hn x (List.mem_cons_of_mem _ hx)) ha;refine ⟨cl,?_,e2,e3,fun x hx hf=>?_⟩
      · rw [List.forIn_cons];have:(k==NameKind.free)=false:=by simpa using hk
        simp only [this,Bool.false_eq_true,if_false,pure_bind];exact e1
      · rcases List.mem_cons.mp hx with rfl | hx
        · exact absurd hf hk
        · exact e4 x hx hf
noncomputable def DK (env:Env) (p:Str×NameKind):NameKind:=if (p.2==.free&&env.scope.kind==.function&&env.kindOf p.1==some .cell)=true then .cell else p.2
theorem n5 (scope:Scope) (env:Env):(relabel scope env).names=scope.names.map fun p=>(p.1,DK env p):=by
  unfold relabel;refine List.map_congr_left fun p _=>?_
  obtain ⟨n,k⟩:=p;unfold DK;dsimp only;split <;> rfl
theorem lf (g:Str×NameKind->NameKind) (x:Str):∀ l:List (Str×NameKind),(l.map fun p=>(p.1,g p)).lookup x=(l.lookup x).map fun k=>g (x,k)
  | []=>rfl
  | (n,k)::r=>by
    rw [List.map_cons];cases hx:x==n with
    | true =>
      have e:x=n:=by simpa using hx
      subst e;simp
    | false =>
      have ne:¬ x=n:=by simpa using hx
      simp only [List.lookup_cons,hx];exact lf g x r
theorem jB (scope:Scope) (env:Env) (x:Str):(relabel scope env).names.lookup x=(scope.names.lookup x).map fun k=>DK env (x,k):=by
  rw [n5];exact lf _ _ _
theorem eP {scope:Scope} {env:Env} {x:Str} {k:NameKind} (h:scope.names.lookup x=some k) (hk:k≠.free):(relabel scope env).names.lookup x=some k:=by
  rw [jB,h];have:(k==NameKind.free)=false:=by simpa using hk
  simp only [DK,this,Bool.false_and,Bool.false_eq_true,if_false,Option.map_some]
theorem kc {scope:Scope} {env:Env} {x:Str} (h:scope.names.lookup x=some .free):(relabel scope env).names.lookup x=some .free\/(relabel scope env).names.lookup x=some .cell:=by
  rw [jB,h];unfold DK;dsimp only [Option.map_some];split
  · exact .inr rfl
  · exact .inl rfl
theorem qF {scope:Scope} {env:Env} {x:Str} (hc:∀ y∈scope.names,y.2≠.cell) (h:(relabel scope env).names.lookup x=some .free\/(relabel scope env).names.lookup x=some .cell):(x,NameKind.free)∈scope.names:=by
  cases e:scope.names.lookup x with
  | none =>
    rw [jB,e] at h;rcases h with h | h <;> cases h
  | some k =>
    by_cases hk:k=.free
    · subst hk;exact PySem.mem_of_lookup e
    · exfalso;have:=eP (env:=env) e hk;rw [this] at h;rcases h with h | h
      · cases h;exact hk rfl
      · cases h;exact hc _ (PySem.mem_of_lookup e) rfl
noncomputable def bc (X:Cx) (N:List Str) (scope:Scope) (cl:List (Str×Addr)) (C:Addr) (s:Shared) (H:Hp) (fp:List Addr) (E:Value->Shared->Prop:=fun _ _=>False):Cx :=
  { X with N:=N,s₀:=s,H₀:=H,env:=compEnvC scope cl C X.env,outer:=X.stack,stack:=X.stack,ex:=fp,fn:=fun _=>false,pn:=[],xe:=E }
noncomputable def eV (sc:Scope) (N:List Str) (own:Nat) (G:List Str) (oN:List Str) (fr:List Nat):Prop :=
  sc.kind=.function/\(∀ y∈sc.names,y.2≠.cell)/\(∀ y∈sc.names,y.2=.local->sc.names.lookup y.1=some .local)/\N.Nodup/\(∀ x∈N.take own,sc.names.lookup x=some .local)/\(∀ x∈N.drop own,sc.names.lookup x=some .free) /\
  (∀ x∈N,(x==("__debug__" : Str))=false/\(x==("__classdict__" : Str))=false)/\(∀ x∈G,sc.names.lookup x=some .globalImplicit/\(x==("__debug__" : Str))=false/\x≠("__name__" : Str)) /\
  own<=N.length/\(N.drop own).map some=fr.map fun i=>oN[i]?
noncomputable instance {sc:Scope} {N:List Str} {own:Nat} {G oN:List Str} {fr:List Nat}:Decidable (eV sc N own G oN fr):=by unfold eV;infer_instance
theorem AN {X:Cx} {nl:Nat} {G0:List Str} (T:Tb X nl G0) {sc:Scope} {N:List Str} {own:Nat} {G oN:List Str} {fr:List Nat} (ck:eV sc N own G oN fr) (cl:List (Str×Addr)) (C:Addr) (s:Shared) (H:Hp) (fp:List Addr) :
    Tb (bc X N sc cl C s H fp) own G:=by
  obtain ⟨_,_,_,nd,l,f,db,g,_,_⟩:=ck;refine ⟨T.hu,T.calm,nd,fun x hx=>?_,fun x hx=>?_,fun x hx=>?_⟩
  · refine ⟨?_,db x hx⟩;have hx':x∈N.take own++N.drop own:=by rw [List.take_append_drop];exact hx
    rcases List.mem_append.mp hx' with z | z
    · exact .inl (eP (l x z) (by decide))
    · rcases kc (env:=X.env) (f x z) with q | q
      · exact .inr (.inr q)
      · exact .inr (.inl q)
  · have q:=eP (env:=X.env) (l x hx) (by decide);exact ⟨.inl q,.inr q⟩
  · obtain ⟨g1,g2,g3⟩:=g x hx;exact ⟨eP (env:=X.env) g1 (by decide),g2,g3⟩
theorem yi {X:Cx} {nl:Nat} {G0:List Str} (T:Tb X nl G0) {sc:Scope} {N:List Str} {own:Nat} {G oN:List Str} {fr:List Nat} (ck:eV sc N own G oN fr) (cl:List (Str×Addr)) (C:Addr) (s:Shared) (H:Hp) (fp:List Addr) (E:Value->Shared->Prop) :
    Tb (bc X N sc cl C s H fp E) own G:=let T1:=AN T ck cl C s H fp;⟨T1.hu,T1.calm,T1.nd,T1.vis,T1.loc,T1.gl⟩
noncomputable def FE (X:Cx) (ifs:List Expr) (t:TT):Prop :=
  ∀ (pins:List (Addr×Obj)) (s:Shared) (σ:St) (H:Hp) (Q:Bool->Hp->Prop),aF X pins σ H s->t σ H Q->wpAny (model X.prog X.w) X.A (forIn ifs true fun c r=>if r=true then do let ok <- isTrue c X.env (eval c X.env);pure (ForInStep.yield ok) else pure (ForInStep.yield r))
    (TP X pins σ Q) X.xe s
noncomputable def wd (X:Cx) (ifs:List Expr) (t:aS->R Bool):Prop:=FE X ifs (Ac X t)
structure Z.wd (X:Cx) (ifs:List Expr) (t:aS->R Bool):Prop where
  un:D2.wd X ifs t
theorem cs {X:Cx}:Z.wd X [] (fun _=>.ok true):=⟨fun pins s σ H Q I ⟨ρ,sl,q⟩=>wpAny_tests_nil ⟨H,I,q H (aB.refl _)⟩⟩
theorem dY {X:Cx} {c:Expr} {t:aS->R Bool} (h:Z.lO X c t):Z.wd X [c] t:=⟨have h:=h.un;fun pins s σ H Q I q=>wpAny_tests_one (h pins s σ H Q I q)⟩
noncomputable def bF (b:PyData->aS->Option aS) (t:aS->R Bool) (f:Fe) (ρ:aS):List PyData->R (List PyData)
  | []=>.ok []
  | d::ds=>match b d ρ with
    | none=>.no
    | some ρ1=>t ρ1>>=fun k=>if k=true then f ρ1>>=fun x=>bF b t f ρ ds>>=fun xs=>.ok (x::xs) else bF b t f ρ ds
noncomputable def az (own:Nat) (fr:List Nat) (ρ:aS):aS:=List.replicate own .non++fr.map fun i=>ρ.getD i .non
noncomputable def lS {α:Type}:R α->R α
  | .ex _=>.no
  | r=>r
noncomputable def bV (it:aS->R (List PyData)) (own:Nat) (fr:List Nat) (b:PyData->aS->Option aS) (t:aS->R Bool) (f:Fe):Fe:=fun ρ =>
  lS (it ρ)>>=fun ds=>if ds.length<=sizeLine then match bF b t f (az own fr ρ) ds with
    | .ok xs=>.ok (.list xs)
    | .ex c=>.ex c
    | .no=>.no
  else .no
noncomputable def gK (own:Nat) (fr:List Nat) (σ:St):St:=List.replicate own none++fr.map fun i=>(σ[i]?).join
theorem Ak {H:Hp} {σ:St} {ρ:aS} (h:Sl H σ ρ) (own:Nat) (fr:List Nat) (hin:∀ i∈fr,i < ρ.length):Sl H (gK own fr σ) (az own fr ρ):=by
  refine ⟨by simp [gK,az],fun i c o h1 h2=>?_⟩;unfold az at h1;unfold gK at h2;by_cases hi:i < own
  · rw [List.getElem?_append_left (by simpa using hi),List.getElem?_replicate,if_pos hi] at h1;cases h1;exact True.intro
  · rw [List.getElem?_append_right (by simpa using hi),List.getElem?_map,List.length_replicate] at h1 h2;cases e:fr[i-own]? with
    | none=>rw [e] at h1;cases h1
    | some j =>
      rw [e] at h1 h2;have hj:=hin j (List.mem_of_getElem? e);have hj':j < σ.length:=by rw [h.1];exact hj
      cases h1;cases h2;refine h.2 j _ _ ?_ ?_
      · show ρ[j]?=some (ρ.getD j .non);rw [List.getD_eq_getElem?_getD,List.getElem?_eq_getElem hj];rfl
      · show σ[j]?=some ((σ[j]?).join);rw [List.getElem?_eq_getElem hj'];rfl
section
variable {X:Cx} {pins:List (Addr×Obj)} {σ:St} {H:Hp} {s:Shared} {nl:Nat} {G0:List Str} {sc:Scope} {N:List Str} {own:Nat} {G:List Str} {fr:List Nat} {cl:List (Str×Addr)} {fp:List Addr} {a C:Addr} {h4:Heap} {t4:Nat} {m:Str->Option Value}
theorem w8 (I:aF X pins σ H s) (ck:eV sc N own G X.N fr) (hf:∀ b∈fp,lK X pins H b) (hob:∀ b∈fp,b < s.heap.objs.size) (hcl1:∀ x c,cl.lookup x=some c->X.env.cells.lookup x=some c) (hcl2:∀ x∈sc.names,x.2=.free->∃ c,cl.lookup x.1=some c)
    (vis:∀ x∈X.N,CI X.env.scope x) (hout:∀ y∈sc.names,y.2=.free->X.env.kindOf y.1=some .cell\/X.env.kindOf y.1=some .free)
    (ha:s.heap.objs.size<=a) (hC:s.heap.objs.size<=C) (hac:a≠C) (keep:∀ b o,s.heap.get? b=some o->h4.get? b=some o) (hl:h4.get? a=some { cls:=.type "list",data:=.seq #[] 0 }) (hn:h4.Ns C m) :
    aF (bc X N sc cl C s H fp) [] (gK own fr σ) (cA H a (.lst [])) { s with heap:=h4,toks:=t4 }:=by
  obtain ⟨ck1,ck2,ck3,nd,l,f,db,g,ol,ofr⟩:=ck;have hHa:H a=none:=I.hok.fresh ha;have hHC:H C=none:=I.hok.fresh hC;have lt:∀ {b:Addr} {o:Obj},s.heap.get? b=some o->b < s.heap.objs.size:=fun e=>Heap.lt_size e
  have cellLt:∀ x c,cl.lookup x=some c->c < s.heap.objs.size:=fun x c e=>by
    obtain ⟨v,q⟩:=I.cell x c (hcl1 x c e);exact q.lt
  refine ⟨⟨I.ok.mod,ck1,I.ok.glob,I.ok.blt,hC,fun x y c h1 h2=>I.ok.inj x y c (hcl1 x c h1) (hcl1 y c h2),fun x hx=>?_,fun x c hx=>(Bool.false_ne_true hx).elim,I.ok.hd,I.ok.frames,.inl rfl,fun b hb=>⟨?_,fun x c e=>?_⟩,I.bs,Nat.le_trans I.ok.bsz I.sz,fun b o e hb=>?_,fun b hb hs=>?_,I.stack,I.stkFree⟩,
    rfl,I.bare,Un.laid keep ha hHa,⟨m,hn,fun i x v h1 h2 h3=>?_⟩,fun x c e=>?_,?_,fun x c e=>?_,fun p hp=>?_,?_,?_⟩
  · have q:=qF (env:=X.env) ck2 (show (relabel sc X.env).names.lookup x=some .free\/(relabel sc X.env).names.lookup x=some .cell from hx.elim .inr .inl);exact hcl2 _ q rfl
  · exact Nat.ne_of_lt (Nat.lt_of_lt_of_le (hob b hb) hC)
  · exact (hf b hb).2.2.2.2.1 x c (hcl1 x c e)
  · rcases (hf b hb).2.2.2.1 with z | z
    · exact I.ok.noex b o e z
    · exact absurd (Nat.lt_of_lt_of_le (Heap.lt_size e) I.ok.bsz) (Nat.not_lt.mpr z)
  · rcases List.mem_cons.mp (I.stkSub b hs) with z | z
    · exact (hf b hb).2.1 z
    · exact (hf b hb).2.2.1 z
  · -- a captured name
    have hi:¬ i < own:=fun hi=>by
      unfold gK at h2;rw [List.getElem?_append_left (by simpa using hi),List.getElem?_replicate,if_pos hi] at h2;cases h2
    unfold gK at h2;rw [List.getElem?_append_right (by simpa using hi),List.getElem?_map,List.length_replicate] at h2;cases e:fr[i-own]? with
    | none=>rw [e] at h2;cases h2
    | some j =>
      rw [e] at h2;have h2':(σ[j]?).join=some v:=Option.some.inj h2;have hσ:σ[j]?=some (some v):=by
        cases q:σ[j]? with
        | none=>rw [q] at h2';cases h2'
        | some o=>rw [q] at h2';exact congrArg some h2'
      have hx:(N.drop own)[i-own]?=some x:=by
        rw [List.getElem?_drop];have:own+(i-own)=i:=by omega
        rw [this];exact h1
      have hj:X.N[j]?=some x:=by
        have q:=congrArg (fun l=>l[i-own]?) ofr;simp only [List.getElem?_map,hx,e,Option.map_some] at q;exact (Option.some.inj q).symm
      have hfree:=f x (List.mem_of_getElem? hx);obtain ⟨c,hc⟩:=hcl2 _ (PySem.mem_of_lookup hfree) rfl;have hXc:=hcl1 x c hc;obtain ⟨m0,hn0,hl0⟩:=I.loc;obtain ⟨u,ru,lk⟩:=hl0 j x v hj hσ (vis x (List.mem_of_getElem? hj));have ko:=hout _ (PySem.mem_of_lookup hfree) rfl;refine ⟨u,ru,.inr ⟨(kc (env:=X.env) hfree).symm,c,hc,?_⟩⟩;rcases lk with ⟨k1,_⟩ | ⟨_,c',e1,ob,q1,q2⟩
      · exfalso;rcases ko with k | k <;> (rw [k] at k1;cases k1)
      · rw [hXc] at e1;cases e1;exact ⟨ob,keep _ _ q1,q2⟩
  · obtain ⟨v,o,q,d⟩:=I.cell x c (hcl1 x c e);exact ⟨v,o,keep _ _ q,d⟩
  · show cA H a (.lst []) C=none;rw [ar (Ne.symm hac)];exact hHC
  · have q:=I.freeC x c (hcl1 x c e);show cA H a (.lst []) c=none;rw [ar (Nat.ne_of_lt (Nat.lt_of_lt_of_le (cellLt x c e) ha))];exact q
  · exact absurd (show p∈([]:List (Addr×Obj)) from hp) (by simp)
  · exact I.hok.laid keep ha ⟨Nat.zero_le _,[],0,.nil,hl⟩
  · show (gK own fr σ).length=N.length;have q:=congrArg List.length ofr;rw [List.length_map,List.length_map,List.length_drop] at q;unfold gK;rw [List.length_append,List.length_replicate,List.length_map];omega
end
noncomputable def lD (ρ0 ρ1:aS):Prop:=ρ1.length=ρ0.length/\∀ (i:Nat) (c:bh),ρ0[i]?=some c->c=.non\/ρ1[i]?=some c
theorem Sl.unfit {H:Hp} {σ:St} {ρ0 ρ1:aS} (h:Sl H σ ρ1) (f:lD ρ0 ρ1):Sl H σ ρ0:=by
  refine ⟨h.1.trans f.1,fun i c o h1 h2=>?_⟩;rcases f.2 i c h1 with rfl | q
  · exact True.intro
  · exact h.2 i c o q h2
noncomputable def yK (H0:Hp) (σ:St) (ρ:aS):Prop:=∀ (i:Nat) (e:PyData),ρ[i]?=some (.own e)->∃ v,σ[i]?=some (some v)/\iA H0 e v
theorem wB {X:Cx} {J:It} {tn:Nat->Heap->Prop} {it a:Addr} {fp:List Addr} {tg iter elt:Expr} {ifs:List Expr} {scope:Scope} {pos:Pos} {b:PyData->aS->Option aS} {t:aS->R Bool} {f:Fe} {ds:List PyData} {r:R (List PyData)} {Gd:Hp->Prop} {H0:Hp} {ρ0:aS}
    {Rk:Result->Shared->Prop} (T:rd X.prog X.w X.K tg J fp it tn) (calm:X.calm=true) (hfp:∀ H:Hp,(∀ b∈fp,H b=none)->∀ b∈fp,lK X [] H b) (hxe:∀ e s',X.xe e s'->notedBy (model X.prog X.w) X.A X.env (fun x s'=>Rk (.error x) s') e s') (hX:∀ c,r=.ex c->Xw X c H0) (hno:r≠.no) (hg:u6 X tg b) (ht:wd X ifs t) (hf:cI X elt f)
    (idt:zc J Gd ds) (sta:EG H0 (fun _=>False) Gd) (hsz:ds.length<=sizeLine) (ha0:H0 a=none) (hb0:∀ d ρ1,b d ρ0=some ρ1->lD ρ0 ρ1)
    (fin:∀ xs s' σ' H' vs,r=.ok xs->aF X [] σ' H' s'->aB H0 H'->H' a=some (.lst vs)->bz H' xs vs->Rk (.ok .next) s') :
    ∀ {s:Shared} {σ:St} {H:Hp},aF X [] σ H s->tn 0 s.heap->(∀ b∈fp,H b=none)->aB H0 H->H a=some (.lst [])->bF b t f ρ0 ds=r->Sl H σ ρ0->yK H0 σ ρ0 ->
      codeAny (model X.prog X.w) X.A (.compLoop (.ListComp elt [⟨tg,iter,ifs,0⟩] scope pos) 0 (.ref it) (.ref a) X.env) Rk s:=by
  intro s σ H I st fr s0 hla hc sl ow;refine codeAny_loop rfl (fun n s=>∃ i acc σ H vs,n=ds.length-i/\i<=ds.length/\acc.length<=i/\aF X [] σ H s/\tn i s.heap/\(∀ b∈fp,H b=none)/\aB H0 H/\H a=some (.lst vs)/\bz H acc vs/\(bF b t f ρ0 (ds.drop i)>>=fun dW=>.ok (acc++dW))=r /\
    Sl H σ ρ0/\yK H0 σ ρ0) (fun n s hI=>?_) ds.length ⟨0,[],σ,H,[],by simp,Nat.zero_le _,Nat.le_refl _,I,st,fr,s0,hla,bz.nil,by rw [List.drop_zero,hc];cases r <;> rfl,sl,ow⟩
  clear I st fr s0 hla hc sl ow;obtain ⟨i,acc,σ,H,vs,rfl,hi,hal,I,st,fr,s0,hla,ra,hc,sl,ow⟩:=hI;show wpAny _ X.A ((compTurn (.ListComp elt [⟨tg,iter,ifs,0⟩] scope pos) 0 (.ref it) (.ref a) X.env).onRaise (fun x=>do noteFrame x X.env;theTreesLotGoes x)) _ _ s;refine wpAny_noted ?_;rw [compTurn_list];have gd:Gd H:=sta H (Kp.of s0) fun _ _ z=>z.elim
  have noex:∀ {α:Type} {m:Sem α} {Q Q':α->Shared->Prop} {s:Shared},wpAny (model X.prog X.w) X.A m Q X.xe s->(∀ v s,Q v s->Q' v s)->wpAny (model X.prog X.w) X.A m Q' (notedBy (model X.prog X.w) X.A X.env (fun x s'=>Rk (.error x) s')) s:=fun h k =>
    wpAny_mono h k hxe
  by_cases hlt:i < ds.length
  · obtain ⟨d,hd⟩:∃ d,ds[i]?=some d:=⟨ds[i],List.getElem?_eq_getElem hlt⟩
    have hdrop:ds.drop i=d::ds.drop (i+1):=by
      rw [List.drop_eq_getElem_cons hlt];congr 1;exact Option.some.inj ((List.getElem?_eq_getElem hlt).symm.trans hd)
    rw [hdrop] at hc;unfold bF at hc;refine wpAny_bind (wpAny_standAt (wpAny_bind (df (T.item X rfl rfl rfl calm i [] s σ H _ I (hfp H fr) st (idt.go i H gd hlt)) fun r s1 ⟨u,hr,h1⟩=>?_)));subst hr;refine wpAny_bind (df h1 fun _ s2 ⟨x,H2,I2,r2,y2,st2,fr2⟩=>?_);obtain ⟨s02,p2⟩:=idt.yld i H x H2 d gd hd y2;have I2':=I2.pinned (hfp H2 fr2) (T.obj _ _ st2);have back:∀ {σ':St} {H':Hp} {s':Shared},aF X ([]++lX fp s2.heap) σ' H' s'->aF X [] σ' H' s'/\tn (i+1) s'.heap/\∀ b∈fp,H' b=none:=fun {σ' H' s'} J' =>
      ⟨J'.unpinned,T.keep _ _ _ st2 fun b hb o e=>(J'.pin (b,o) (List.mem_append_right _ (List.mem_append_right _ (io hb e)))).1,fun b hb=>by
        obtain ⟨o,e,_⟩:=T.obj _ _ st2 b hb;exact (J'.pin (b,o) (List.mem_append_right _ (List.mem_append_right _ (io hb e)))).2.1⟩
    cases eb:b d ρ0 with
    | none=>rw [eb] at hc;exact absurd hc.symm hno
    | some ρ1 =>
      rw [eb] at hc;dsimp only at hc;have hfit:=hb0 d ρ1 eb;refine wpAny_bind (noex (hg _ s2 σ H2 x u (fun σ' H'=>H'=H2/\Sl H2 σ' ρ1/\∀ (i:Nat) (e:PyData),ρ1[i]?=some (.own e)->ρ0[i]?=some (.own e)/\σ'[i]?=σ[i]?) I2' r2 ⟨ρ0,d,sl.mono s02,p2,by rw [eb];exact fun σ' sl' w'=>⟨rfl,sl',w'⟩⟩) fun _ s3 ⟨σ3,H3,I3,e3,sl3,w3⟩=>?_);subst e3;have ow3:yK H0 σ3 ρ0:=fun j e h=>by
        obtain ⟨v,z1,z2⟩:=ow j e h;rcases hfit.2 j _ h with z | z
        · cases z
        · exact ⟨v,by rw [(w3 j e z).2];exact z1,z2⟩
      cases et:t ρ1 with
      | no=>rw [et] at hc;exact absurd hc.symm hno
      | ex c =>
        rw [et] at hc;exact wpAny_bind (noex (ht _ s3 σ3 H3 (fun _ _=>False) I3 ⟨ρ1,sl3,by rw [et];exact (hX c hc.symm).mono (s0.trans s02)⟩) fun ok s4 ⟨H4,I4,z⟩=>z.elim)
      | ok k =>
        rw [et] at hc;refine wpAny_bind (noex (ht _ s3 σ3 H3 (fun b' H'=>b'=k/\aB H3 H') I3 ⟨ρ1,sl3,by rw [et];exact fun H' s'=>⟨rfl,s'⟩⟩) fun ok s4 ⟨H4,I4,e4,s34⟩=>?_);subst e4;have s04:=(s0.trans s02).trans s34;have hla4:H4 a=some (.lst vs):=s34 _ _ (s02 _ _ hla);have ra4:bz H4 acc vs:=(ra.mono s02).mono s34;cases ok with
        | false =>
          obtain ⟨J1,J2,J3⟩:=back I4;have hc':(bF b t f ρ0 (ds.drop (i+1))>>=fun dW=>.ok (acc++dW))=r:=hc;exact wpAny_pure ⟨rfl,ds.length-(i+1),by omega,i+1,acc,σ3,H4,vs,rfl,hlt,by omega,J1,J2,J3,s04,hla4,ra4,hc',(sl3.unfit hfit).mono s34,ow3⟩
        | true =>
          have hc':((f ρ1>>=fun x=>bF b t f ρ0 (ds.drop (i+1))>>=fun xs=>.ok (x::xs))>>=fun dW=>.ok (acc++dW))=r:=hc;cases ef:f ρ1 with
          | no=>rw [ef] at hc';exact absurd hc'.symm hno
          | ex c =>
            rw [ef] at hc';exact wpAny_bind (wpAny_bind (noex (hf _ s4 σ3 H4 (fun _ _=>False) I4 ⟨ρ1,sl3.mono s34,by rw [ef];exact (hX c hc'.symm).mono s04⟩) fun yv s5 ⟨v5,H5,I5,r5,z⟩=>z.elim))
          | ok y =>
              rw [ef,R.ok_bind] at hc';have hc2:(bF b t f ρ0 (ds.drop (i+1))>>=fun dW=>.ok ((acc++[y])++dW))=r:=by
                rw [<- hc'];cases bF b t f ρ0 (ds.drop (i+1)) with
                | ok dW=>simp only [R.ok_bind,List.append_assoc,List.singleton_append]
                | ex c=>rfl
                | no=>rfl
              refine wpAny_bind (wpAny_bind (noex (hf _ s4 σ3 H4 (fun v H'=>aB H4 H'/\Rp H' y v) I4 ⟨ρ1,sl3.mono s34,by rw [ef];exact fun v H' s' p'=>⟨s',p'⟩⟩) fun yv s5 ⟨v5,H5,I5,r5,s45,p5⟩=>?_));have hla5:H5 a=some (.lst vs):=s45 _ _ hla4;have hlen:vs.length < sizeLine:=by
                rw [ra.length];omega
              refine wpAny_bind (noex (oE _ s5 σ3 H5 (.ref a) [v5] (.ref a) [yv] (fun _ H'=>H'=cA H5 a (.lst (vs++[v5]))) I5 rfl (.cons r5 .nil) ⟨a,vs,v5,rfl,rfl,hla5,hlen,rfl⟩) fun _ s6 ⟨v6,H6,I6,r6,e6⟩=>?_);subst e6;obtain ⟨J1,J2,J3⟩:=back I6;have kp:Kp H5 (cA H5 a (.lst (vs++[v5]))):=fX hla5 (.inl ⟨_,rfl⟩);have s06:aB H0 (cA H5 a (.lst (vs++[v5]))):=fun b o e=>by
                rw [ar (aR e ha0)];exact (s04.trans s45) b o e
              refine wpAny_pure (wpAny_pure ⟨rfl,ds.length-(i+1),by omega,i+1,acc++[y],σ3,_,vs++[v5],rfl,hlt,by rw [List.length_append,List.length_singleton];omega,J1,J2,J3,s06,ba,?_,hc2,?_,ow3⟩)
              · exact bz.append (bz.kp kp _ _ (ra4.mono s45)) (bz.cons (Rp.kp kp _ _ p5) bz.nil)
              · have sl5:Sl H5 σ3 ρ0:=((sl3.unfit hfit).mono s34).mono s45;refine ⟨sl5.1,fun j c o h1 h2=>?_⟩;cases c with
                | exc p=>exact sl5.2 j _ o h1 h2
                | non=>exact True.intro
                | val d' =>
                  obtain ⟨v',z1,z2⟩:=sl5.2 j _ o h1 h2;exact ⟨v',z1,Rp.kp kp _ _ z2⟩
                | own e' =>
                  obtain ⟨v',z1,z2⟩:=ow3 j e' h1;rw [z1] at h2;cases h2;exact ⟨v',rfl,z2.mono s06⟩
  · have e:i=ds.length:=by omega
    subst e;rw [List.drop_length] at hc;have hr':r=.ok acc:=by rw [<- hc];simp only [bF,R.ok_bind,List.append_nil]
    refine wpAny_bind (wpAny_standAt (wpAny_bind (df (T.done X rfl rfl rfl calm _ [] s σ H _ I (hfp H fr) st (idt.stop _ H gd (Nat.le_refl _))) fun r s1 ⟨hr,I1⟩=>?_)));subst hr;exact wpAny_pure (fin acc s1 σ H vs hr' I1 s0 hla ra)
theorem gM.but {P:Program} {w:World} {H:Hp} {h1 h2:Heap} {C:Addr} (ok:gM P w H h1) (hC:H C=none) (sb:∀ b o,b≠C->h1.get? b=some o->h2.get? b=some o):gM P w H h2:=fun a o e =>
  (ok a o e).stay (fun b u hb q=>sb b u (by
    rcases hb with rfl | hb
    · exact aR e hC
    · exact aR hb hC) q) (fun _ q=>q) fun _ _ q=>q
theorem jw {h h' base:Heap} {C:Addr} (tp:∀ b o,b≠C->h.get? b=some o->h'.get? b=some o):∀ {l:List Env},C∉ky l->h.FunFrames base l->h'.FunFrames base l
  | [],_,_=>trivial
  | env::l,hC,⟨hk,⟨L,o,hf,hn,ho,hd⟩,hr⟩=>⟨hk,⟨L,o,hf,hn,tp L o (fun z=>hC (List.mem_filterMap.mpr ⟨env,List.mem_cons_self,by rw [hf,z]⟩)) ho,hd⟩,jw tp (fun z=>hC (by
    obtain ⟨e,he,hz⟩:=List.mem_filterMap.mp z;exact List.mem_filterMap.mpr ⟨e,List.mem_cons_of_mem _ he,hz⟩)) hr⟩
theorem j8 {X:Cx} {tg iter elt:Expr} {ifs:List Expr} {sc:Scope} {pos pos':Pos} {it:aS->R (List PyData)} {b:PyData->aS->Option aS} {t:aS->R Bool} {f:Fe} {N:List Str} {own:Nat} {G G0:List Str} {fr:List Nat} {nl:Nat}
    (T:Tb X nl G0) (ck:eV sc N own G X.N fr) (hout:∀ y∈sc.names,y.2=.free->X.env.kindOf y.1=some .cell\/X.env.kindOf y.1=some .free) (hi:sh X tg iter it)
    (hb0:∀ ρ d ρ1,b d (az own fr ρ)=some ρ1->lD (az own fr ρ) ρ1)
    (hbody:∀ cl C s H fp E,Tb (bc X N sc cl C s H fp E) own G->u6 (bc X N sc cl C s H fp E) tg b/\wd (bc X N sc cl C s H fp E) ifs t/\cI (bc X N sc cl C s H fp E) elt f)
    (hs:∀ x,foldedSetIterable iter X.env x=pure x) {use:Option (Value->Sem Unit)} {Qc:Value->Shared->Prop} {pins:List (Addr×Obj)} {s:Shared} {σ:St} {H:Hp} (I:aF X pins σ H s) {ρ:aS} {ds:List PyData} {r:R (List PyData)} (sl:Sl H σ ρ) (ei:it ρ=.ok ds)
    (hsz:ds.length<=sizeLine) (ec:bF b t f (az own fr ρ) ds=r) (hX:∀ c,r=.ex c->Xw X c H) (hno:r≠.no) (hstk:∃ env0 outer0 L,X.stack=env0::outer0/\env0.frame=some L/\X.env.frame=some L)
    (fin:∀ (xs:List PyData) (a C:Addr) (H':Hp) (s':Shared) (m:Str->Option Value) (vs:List V),r=.ok xs->aF X pins σ H' s'->lK X pins H' C->s'.heap.Ns C m->aB H H'->H a=none->H' a=some (.lst vs)->bz H' xs vs->compPost (model X.prog X.w) X.A X.xe use Qc (.ref a) C (.ok .next) s') :
    wpAny (model X.prog X.w) X.A (comprehension (.ListComp elt [⟨tg,iter,ifs,0⟩] sc pos) sc X.env pos' (newList []) false (eval iter X.env) use) Qc X.xe s:=by
  obtain ⟨cl,hcl,hcl1,hcl2⟩:=sS (scope:=sc) (env:=X.env) fun x hx hf=>I.ok.has _ (hout x hx hf)
  have ck':=ck;obtain ⟨ck1,ck2,ck3,_,_,_,_,_,_,ofr⟩:=ck';have hin:∀ i∈fr,i < ρ.length:=fun i hi=>by
    have e1:ρ.length=X.N.length:=by rw [<- sl.1];exact I.len
    rw [e1];obtain ⟨k,hk⟩:=List.getElem?_of_mem hi;have q:=congrArg (fun l=>l[k]?) ofr;simp only [List.getElem?_map,hk,Option.map_some] at q;cases z:(N.drop own)[k]? with
    | none=>rw [z] at q;cases q
    | some y =>
      rw [z] at q;have q':some y=X.N[i]?:=Option.some.inj q;exact (List.getElem?_eq_some_iff.mp q'.symm).1
  refine wpAny_comprehension_free (use:=use) rfl hs hcl ck1 ck3 ?_;refine df (hi pins s σ H (fun J H1=>aB H H1/\∃ Gd,zc J Gd ds/\EG H1 (fun _=>False) Gd) I ⟨ρ,sl,by rw [ei];exact fun J H1 s1 z=>⟨s1,z⟩⟩) fun xv s1 h1=>df h1 fun itv s2 h2=>?_
  obtain ⟨itA,fp,tn,J,H2,e,I2,T2,st2,f2,s02,Gd,idt,sta⟩:=h2;subst e;refine wpAny_newObj_type (wpAny_newFunctionEnv ck2 (by intro y hy;simp at hy) (fun h₁ hns₁ hsb₁=>?_) ck1);dsimp only at hns₁ hsb₁ ⊢;generalize hHp:s2.heap.push { cls:=.type "list",dict:=none,data:=.seq ([]:List Value).toArray }=Hp2 at hns₁ hsb₁ ⊢;have hC:Hp2.objs.size=s2.heap.objs.size+1:=by rw [<- hHp,Heap.size_push]
  have hDC:s2.heap.objs.size≠Hp2.objs.size:=by rw [hC];exact Nat.ne_of_lt (Nat.lt_succ_self _)
  have hCle:s2.heap.objs.size<=Hp2.objs.size:=by rw [hC];exact Nat.le_succ _
  have below:∀ b,b < s2.heap.objs.size->b≠Hp2.objs.size:=fun b hb=>by rw [hC];exact Nat.ne_of_lt (Nat.lt_succ_of_lt hb)
  have old:∀ b o,s2.heap.get? b=some o->h₁.get? b=some o:=fun b o e=>hsb₁.extBut b o (below b (Heap.lt_size e)) (Heap.get?_push_of_some _ (hHp ▸ Heap.get?_push_of_some _ e))
  have hacc:h₁.get? s2.heap.objs.size=some { cls:=.type "list",dict:=none,data:=.seq ([]:List Value).toArray }:=hsb₁.extBut _ _ hDC (Heap.get?_push_of_some _ (hHp ▸ Heap.get?_push_size _ rfl));have hob:∀ b∈fp,b < s2.heap.objs.size:=fun b hb=>by
    obtain ⟨o,e,_⟩:=T2.obj _ _ st2 b hb;exact Heap.lt_size e
  have sl2:Sl H2 σ ρ:=sl.mono s02;have IC:aF (bc X N sc cl Hp2.objs.size s2 H2 fp) [] (gK own fr σ) (cA H2 s2.heap.objs.size (.lst [])) { s2 with heap:=h₁,toks:=s2.toks+([]:List (Str×Value)).length } :=
    w8 I2 ck f2 hob hcl1 hcl2 (fun x hx=>(T.vis x hx).1) hout (Nat.le_refl _) hCle hDC old hacc hns₁
  let E:Value->Shared->Prop:=fun e s'=>∃ c Ce pins' σ' H' s1 H1,r=.ex c/\X.mg c=some (.ref Ce)/\aF (bc X N sc cl Hp2.objs.size s2 H2 fp) pins' σ' H' s1/\aB H2 H1/\qe X.prog X.w X.stack H' s1 Ce H1 e s'
  obtain ⟨hg,ht,hf⟩:=hbody cl Hp2.objs.size s2 H2 fp E (yi T ck cl Hp2.objs.size s2 H2 fp E);have ha0:H2 s2.heap.objs.size=none:=I2.hok.fresh (Nat.le_refl _);have hfp:∀ H':Hp,(∀ b∈fp,H' b=none)->∀ b∈fp,lK (bc X N sc cl Hp2.objs.size s2 H2 fp E) [] H' b:=fun H' hn b hb =>
    ⟨hn b hb,below b (hob b hb),fun z=>by
      rcases List.mem_cons.mp (I2.stkSub b z) with y | y
      · exact (f2 b hb).2.1 y
      · exact (f2 b hb).2.2.1 y,.inl hb,fun x c e=>(f2 b hb).2.2.2.2.1 x c (hcl1 x c e),fun p hp=>absurd (show p∈([]:List (Addr×Obj)) from hp) (by simp)⟩
  have st3:tn 0 h₁:=T2.keep _ _ _ st2 fun b _ o e=>old b o e
  have slC:Sl H2 (gK own fr σ) (az own fr ρ):=Ak sl2 own fr hin;have fin':∀ xs s' σ' H' vs,r=.ok xs->aF (bc X N sc cl Hp2.objs.size s2 H2 fp E) [] σ' H' s'->aB H2 H'->H' s2.heap.objs.size=some (.lst vs)->bz H' xs vs ->
      compPost (model X.prog X.w) X.A X.xe use Qc (.ref s2.heap.objs.size) Hp2.objs.size (.ok .next) s':=fun xs s' σ' H' vs hr J' s2' hv rv=>by
    obtain ⟨m,hn,_⟩:=J'.loc;exact fin xs _ _ H' s' m vs hr (I2.call' (s':=s') (ch:=fp) J'.os J'.base J'.hok J'.bare (fun b hb=>⟨(f2 b hb).2.2.2.1,(f2 b hb).2.1,(f2 b hb).2.2.2.2.1,(f2 b hb).2.2.2.2.2⟩)) (I2.fpOk hCle J'.free) hn (s02.trans s2') (s02.free ha0) hv rv
  have hXc:∀ c,r=.ex c->Xw (bc X N sc cl Hp2.objs.size s2 H2 fp E) c H2:=fun c hr H1 s1 Ce hm pins' σ' H' s1' e s' J f =>
    ⟨c,Ce,pins',σ',H',s1',H1,hr,hm,J.unwish,s1,f⟩
  have hxe:∀ e s',E e s'->notedBy (model X.prog X.w) X.A (compEnvC sc cl Hp2.objs.size X.env) (fun x s'=>compPost (model X.prog X.w) X.A X.xe use Qc (.ref s2.heap.objs.size) Hp2.objs.size (.error x) s') e s':=fun e s' hE=>by
    obtain ⟨c,Ce,pins',σ',H',s1,H1,hr,hm,J,same1,f⟩:=hE;obtain ⟨env0,outer0,L,k1,k2,k3⟩:=hstk;refine f.note k1 I.ok.frames k2 k3 fun h4 f4 up=>?_
    obtain ⟨m,hn,_⟩:=(f4.inv (X:=bc X N sc cl Hp2.objs.size s2 H2 fp) J).loc;refine ⟨m,hn,fun h5 sb cenv _=>?_⟩;have fC:=I2.fpOk hCle J.free;have fC1:H1 Hp2.objs.size=none:=(f4.inv (X:=bc X N sc cl Hp2.objs.size s2 H2 fp) J).free;have nfr:Hp2.objs.size∉ky X.stack:=fun z=>by
      rcases List.mem_cons.mp (I2.stkSub _ z) with y | y
      · exact fC.2.1 y
      · exact fC.2.2.1 y
    have Io:=I2.call' (s':=s1) (ch:=fp) J.os J.base J.hok J.bare (fun b hb=>⟨(f2 b hb).2.2.2.1,(f2 b hb).2.1,(f2 b hb).2.2.2.2.1,(f2 b hb).2.2.2.2.2⟩);have Io2:aF X pins σ H' { s1 with heap:=PySem.W.hideAll s1.heap [Hp2.objs.size],toks:=s1.toks }:=by
      obtain ⟨g0,g1,g2,g3,g4,g5⟩:=fC;exact Io.turned (t':=s1.toks) (fun b o hb q=>PySem.W.hideAll_get _ q (by simpa using hb)) g0 g1 g3 g4 g5
    obtain ⟨p,a0,B,rfl,t,okB,hp,cov⟩:=f4.ex;have stB:(PySem.W.hideAll B [Hp2.objs.size]).StaysIn B:=fun b o q=>PySem.W.of_hideAll _ q
    have hid:∀ {h:Heap} {b:Addr} {o:Obj},(PySem.W.hideAll h [Hp2.objs.size]).get? b=some o->b≠Hp2.objs.size:=fun {h b o} q z=>by
      rw [PySem.W.hideAll_none _ (by rw [z];exact List.mem_singleton.mpr rfl)] at q;cases q
    have tp:∀ b o,b≠Hp2.objs.size->h4.get? b=some o->h5.get? b=some o:=fun b o hb q=>(sb.2 b hb).trans q
    have ne_e:p≠Hp2.objs.size:=fun z=>by
      obtain ⟨oe,vs,q1,_,q2,_⟩:=t.first;obtain ⟨o,es,ep,q3,q4,_⟩:=hn;have q3':h4.get? Hp2.objs.size=some o:=q3;rw [<- z,q1] at q3';cases q3';rw [q2] at q4;cases q4
    have f5:qe X.prog X.w X.stack H' { s1 with heap:=PySem.W.hideAll s1.heap [Hp2.objs.size],toks:=s1.toks } Ce H1 (.ref p) { s' with heap:=h5 }:=by
      refine ⟨f4.os,f4.bare,f4.same,⟨p,a0,PySem.W.hideAll B [Hp2.objs.size],rfl,?_,?_,hp,fun b o q n hb=>?_⟩,fun b o q n hb=>?_⟩
      · obtain ⟨t1,t2,t3,fl,oe,vs,T',oT,ts,a1,a2,a3,a4,a5,a6,a7,a8,a9⟩:=t;refine ⟨fun b o q=>tp b o (hid q) (t1 b o (stB b o q)),PySem.W.fresh_of_stays stB t2,jw tp nfr (PySem.W.funFrames_base stB t3),fl,oe,vs,T',oT,ts,tp _ _ ne_e a1,a2,a3,a4,PySem.W.fresh_of_stays stB a5,a6,tp _ _ ?_ a7,a8,a9⟩;intro z;obtain ⟨o,es,ep,q3,q4,_⟩:=hn;have q3':h4.get? Hp2.objs.size=some o:=q3;have a7':h4.get? T'=some oT:=a7;rw [<- z,a7'] at q3';cases q3';rw [a8] at q4;cases q4
      · exact gM.but okB fC1 fun b o hb q=>PySem.W.hideAll_get _ q (by simpa using hb)
      · obtain ⟨z1,z2⟩:=cov b o (PySem.W.of_hideAll _ q) n hb;exact ⟨PySem.W.hideAll_get _ z1 (by simpa using hid q),z2⟩
      · obtain ⟨⟨sl',z1⟩,z2⟩:=f4.slot b o (PySem.W.of_hideAll _ q) n hb;exact ⟨⟨sl',tp b _ (hid q) z1⟩,z2⟩
    refine f5.pass fun h6 f6=>?_
    exact hX c hr H1 (s02.trans same1) Ce hm pins σ H' _ _ _ Io2 f6
  have loop:=wB (X:=bc X N sc cl Hp2.objs.size s2 H2 fp E) (iter:=iter) (scope:=sc) (pos:=pos) T2 T.calm hfp hxe hXc hno hg ht hf idt sta hsz ha0 (fun d ρ1 e=>hb0 ρ d ρ1 e) fin' (IC.wish E) st3 (fun b hb=>by
      show cA H2 s2.heap.objs.size (.lst []) b=none;rw [ar (Nat.ne_of_lt (hob b hb))];exact (f2 b hb).1) (cq ha0 _) ba ec (slC.mono (cq ha0 _)) (fun i e h=>by
      obtain ⟨o,z1,v,rfl,z2⟩:=slC.at h;exact ⟨v,z1,z2⟩)
  exact codeAny_compStart_list loop (T2.self _ 0 _ _ _ st3 loop)
theorem rW {X:Cx} {tg iter elt:Expr} {ifs:List Expr} {sc:Scope} {pos:Pos} {it:aS->R (List PyData)} {b:PyData->aS->Option aS} {t:aS->R Bool} {f:Fe} {N:List Str} {own:Nat} {G G0:List Str} {fr:List Nat} {nl:Nat}
    (T:Tb X nl G0) (ck:eV sc N own G X.N fr) (hout:∀ y∈sc.names,y.2=.free->X.env.kindOf y.1=some .cell\/X.env.kindOf y.1=some .free) (hi:sh X tg iter it)
    (hb0:∀ ρ d ρ1,b d (az own fr ρ)=some ρ1->lD (az own fr ρ) ρ1)
    (hbody:∀ cl C s H fp E,Tb (bc X N sc cl C s H fp E) own G->u6 (bc X N sc cl C s H fp E) tg b/\wd (bc X N sc cl C s H fp E) ifs t/\cI (bc X N sc cl C s H fp E) elt f)
    (hs:∀ x,foldedSetIterable iter X.env x=pure x:=by intro _;rfl) (hstk:∃ env0 outer0 L,X.stack=env0::outer0/\env0.frame=some L/\X.env.frame=some L:=by exact ⟨_,_,_,rfl,rfl,rfl⟩):nL X (.ListComp elt [⟨tg,iter,ifs,0⟩] sc pos) (bV it own fr b t f):=by
  intro pins s σ H Q I h;obtain ⟨ρ,sl,q⟩:=h;unfold bV at q;rw [eval_ListComp];cases ei:it ρ with
  | ex c=>rw [ei] at q;exact q.elim
  | no=>rw [ei] at q;exact q.elim
  | ok ds =>
    rw [ei] at q;simp only [lS,R.ok_bind] at q;split at q
    · rename_i hsz;cases ec:bF b t f (az own fr ρ) ds with
      | no=>rw [ec] at q;exact q.elim
      | ex c =>
        rw [ec] at q;exact j8 (use:=none) T ck hout hi hb0 hbody hs I sl ei hsz ec (fun c' hr=>by cases hr;exact q) (fun z=>nomatch z) hstk fun xs a C H' s' m vs hr=>by cases hr
      | ok xs =>
        rw [ec] at q;refine j8 (use:=none) T ck hout hi hb0 hbody hs I sl ei hsz ec (fun c' hr=>by cases hr) (fun z=>nomatch z) hstk fun xs' a C H' s' m vs hr I' fC hn s2' ha hv rv=>?_
        cases hr;obtain ⟨f0,f1,f2,f3,f4,f5⟩:=fC;refine ⟨m,hn,fun h' sb=>⟨.ref a,H',I'.turned (t':=s'.toks) (fun b o hb e=>sb.extBut b o hb e) f0 f1 f3 f4 f5,rfl,?_⟩⟩;refine q _ H' s2' ⟨?_,_,rfl,ha⟩;simp only [iA];exact ⟨_,vs,rfl,hv,rv⟩
    · exact q.elim
theorem BL {X:Cx} {tg iter elt:Expr} {ifs:List Expr} {sc:Scope} {pos:Pos} {it:aS->R (List PyData)} {b:PyData->aS->Option aS} {t:aS->R Bool} {f:Fe} {N:List Str} {own:Nat} {G G0:List Str} {fr:List Nat} {nl:Nat} (T:Tb X nl G0) (ck:eV sc N own G X.N fr) (hout:∀ y∈sc.names,y.2=.free->X.env.kindOf y.1=some .cell\/X.env.kindOf y.1=some .free) (hi:Z.sh X tg iter it) (hb0:∀ ρ d ρ1,b d (az own fr ρ)=some ρ1->lD (az own fr ρ) ρ1) (hbody:∀ cl C s H fp E,Tb (bc X N sc cl C s H fp E) own G->Z.u6 (bc X N sc cl C s H fp E) tg b/\Z.wd (bc X N sc cl C s H fp E) ifs t/\Z.cI (bc X N sc cl C s H fp E) elt f) (hs:∀ x,foldedSetIterable iter X.env x=pure x:=by intro _;rfl) (hstk:∃ env0 outer0 L,X.stack=env0::outer0/\env0.frame=some L/\X.env.frame=some L:=by exact ⟨_,_,_,rfl,rfl,rfl⟩):Z.nL X (.ListComp elt [⟨tg,iter,ifs,0⟩] sc pos) (bV it own fr b t f) :=
  ⟨D2.rW T ck hout hi.un hb0 (fun cl C s H fp E T=>let ⟨q1,q2,q3⟩:=hbody cl C s H fp E T;⟨q1.un,q2.un,q3.un⟩) hs hstk⟩
theorem zS {X:Cx} {tg iter elt:Expr} {ifs:List Expr} {sc:Scope} {pos py spos:Pos} {it:aS->R (List PyData)} {b:PyData->aS->Option aS} {t:aS->R Bool} {f:Fe} {N:List Str} {own:Nat} {G G0:List Str} {fr:List Nat} {nl:Nat} {y:Str} {i:Nat}
    (T:Tb X nl G0) (ck:eV sc N own G X.N fr) (hout:∀ y∈sc.names,y.2=.free->X.env.kindOf y.1=some .cell\/X.env.kindOf y.1=some .free) (hi:sh X tg iter it)
    (hb0:∀ ρ d ρ1,b d (az own fr ρ)=some ρ1->lD (az own fr ρ) ρ1)
    (hbody:∀ cl C s H fp E,Tb (bc X N sc cl C s H fp E) own G->u6 (bc X N sc cl C s H fp E) tg b/\wd (bc X N sc cl C s H fp E) ifs t/\cI (bc X N sc cl C s H fp E) elt f)
    (hN:(X.N.take nl)[i]?=some y) (hsw:swapsWith (.ListComp elt [⟨tg,iter,ifs,0⟩] sc pos) (some (.Name y py)) spos.line X.env=pure true)
    (hs:∀ x,foldedSetIterable iter X.env x=pure x:=by intro _;rfl) (hstk:∃ env0 outer0 L,X.stack=env0::outer0/\env0.frame=some L/\X.env.frame=some L:=by exact ⟨_,_,_,rfl,rfl,rfl⟩):kA X (.Assign [.Name y py] (.ListComp elt [⟨tg,iter,ifs,0⟩] sc pos) spos) (ib i (bV it own fr b t f)):=fun Fm=>by
  intro pins s σ H D I h;obtain ⟨ρ,sl,q⟩:=h;unfold ib bV at q;obtain ⟨hNi,hl,hf⟩:=T.nm hN;cases ei:it ρ with
  | ex c=>rw [ei] at q;exact q.elim
  | no=>rw [ei] at q;exact q.elim
  | ok ds =>
    rw [ei] at q;simp only [lS,R.ok_bind] at q;by_cases hsz:ds.length<=sizeLine
    · rw [if_pos hsz] at q;cases ec:bF b t f (az own fr ρ) ds with
      | no=>rw [ec] at q;exact q.elim
      | ex c =>
        rw [ec] at q;rw [exec_Assign_Name_used _ _ _ _ hsw];refine wpAny_bind (wpAny_standAt (wpAny_bind ?_));show wpAny _ X.A (do let _ <- comprehension (.ListComp elt [⟨tg,iter,ifs,0⟩] sc pos) sc X.env _ (newList []) false (eval iter X.env) (some (assign (.Name y py) X.env))) _ _ s;exact wpAny_bind (df (j8 (use:=some (assign (.Name y py) X.env)) (Qc:=fun _ s'=>False) T ck hout hi hb0 hbody hs I sl.sl ei hsz ec (fun c' hr=>by cases hr;exact q.1.mono sl.fm) (fun z=>nomatch z) hstk fun xs a C H' s' m vs hr=>by cases hr) fun _ s' hq=>hq.elim)
      | ok xs =>
        rw [ec] at q;rw [exec_Assign_Name_used _ _ _ _ hsw];refine wpAny_bind (wpAny_standAt (wpAny_bind ?_));show wpAny _ X.A (do let _ <- comprehension (.ListComp elt [⟨tg,iter,ifs,0⟩] sc pos) sc X.env _ (newList []) false (eval iter X.env) (some (assign (.Name y py) X.env))) _ _ s;refine wpAny_bind (df (j8 (use:=some (assign (.Name y py) X.env)) (Qc:=fun _ s'=>SP X pins D .next s') T ck hout hi hb0 hbody hs I sl.sl ei hsz ec (fun c' hr=>by cases hr) (fun z=>nomatch z) hstk fun xs' a C H' s' m vs hr I' fC hn s2' ha hv rv=>?_) fun _ s' hq=>wpAny_pure (wpAny_pure hq));cases hr;obtain ⟨f0,f1,f2,f3,f4,f5⟩:=fC;show wpAny _ X.A (assign (.Name y py) X.env (.ref a)) _ _ _;refine wpAny_assign_Name (om I' T.nd hNi hl (v:=.ref a) rfl (fun s'' I'' k=>?_) hf);have sls:ir Fm H' (σ.set i (some (.ref a))) (ρ.set i (.own (.list xs))):=ir.setOwn sl (sl.mono s2') s2' i ⟨by simp only [iA];exact ⟨a,vs,rfl,hv,rv⟩,a,rfl,ha⟩;refine ⟨m,?_,fun h' sb=>⟨_,H',I''.turned (t':=s''.toks) (fun b o hb e=>sb.extBut b o hb e) f0 f1 f3 f4 f5,q _ H' sls⟩⟩;obtain ⟨a',sb',ha'⟩:=k;refine hn.sameBut sb' ?_;rcases ha' with rfl | ha'
        · exact f1
        · exact Ne.symm (f4 y a' ha')
    · rw [if_neg hsz] at q;exact q.elim
theorem ir.freeze {Fm H:Hp} {σ:St} {ρ:aS} {i:Nat} {d:PyData} {a:Addr} {u:HO} {o:Obj} (h:ir Fm H σ ρ) (h1:ρ[i]?=some (.own d)) (h2:σ[i]?=some (some (.ref a))) (hu:H a=some u) (hm:(∃ xs,u=.lst xs)\/∃ ks,u=.dK ks)
    (hr:Rp (cA H a (.frz o u)) d (.ref a)):ir Fm (cA H a (.frz o u)) σ (ρ.set i (.val d)):=by
  have hFa:=h.own i d a h1 h2;have kp:Kp H (cA H a (.frz o u)):=fX hu hm;refine ⟨fun b x e=>?_,⟨by rw [List.length_set];exact h.sl.1,fun j c w' e1 e2=>?_⟩,fun j e b e1 e2=>?_,fun j k e f b e1 e2 e3 e4=>?_⟩
  · rw [ar (aR e hFa)];exact h.fm b x e
  · rw [List.getElem?_set] at e1;by_cases hij:i=j
    · subst hij;rw [if_pos rfl] at e1;split at e1
      · cases e1;rw [h2] at e2;cases e2;exact ⟨_,rfl,hr⟩
      · cases e1
    · rw [if_neg hij] at e1;have q:=h.sl.2 j c w' e1 e2;cases c with
      | exc p=>exact q
      | non=>exact True.intro
      | val d'=>obtain ⟨v,z1,z2⟩:=q;exact ⟨v,z1,Rp.kp kp _ _ z2⟩
      | own d' =>
        obtain ⟨v,z1,z2⟩:=q;subst z1;obtain ⟨b,ob,rfl,hb⟩:=o7 z2;have nb:b≠a:=fun z=>hij (by subst z;exact h.apart i j d d' b h1 e1 h2 e2)
        refine ⟨_,rfl,?_⟩;cases d' <;> simp only [iA] at z2 ⊢
        · obtain ⟨b',vs,e,hb',r⟩:=z2;cases e;exact ⟨b,vs,rfl,by rw [ar nb];exact hb',bz.kp kp _ _ r⟩
        · obtain ⟨b',vs,e,hb',r⟩:=z2;cases e;exact ⟨b,vs,rfl,by rw [ar nb];exact hb',dQ.kp kp _ _ r⟩
  · obtain ⟨ne,e1⟩:=cQ (fun e z=>by cases z) e1;exact h.own j e b e1 e2
  · obtain ⟨ne,e1⟩:=cQ (fun e z=>by cases z) e1;obtain ⟨ne',e2⟩:=cQ (fun e z=>by cases z) e2;exact h.apart j k e f b e1 e2 e3 e4
theorem A4 {X:Cx} {pins:List (Addr×Obj)} {s:Shared} {Fm H:Hp} {σ:St} {ρ:aS} {i:Nat} {d:PyData} (I:aF X pins σ H s) (h:ir Fm H σ ρ) (h1:ρ[i]?=some (.own d)) :
    ∃ H' v,aF X pins σ H' s/\ir Fm H' σ (ρ.set i (.val d))/\σ[i]?=some (some v)/\Rp H' d v:=by
  obtain ⟨w',h2,v,rfl,q⟩:=h.sl.at h1;cases d <;> simp only [iA] at q
  · rename_i ds;obtain ⟨a,vs,rfl,ha,r⟩:=q;obtain ⟨o,J⟩:=ge I ha (.inl ⟨_,rfl⟩);have hr:Rp (cA H a (.frz o (.lst vs))) (.list ds) (.ref a):=by
      simp only [Rp];exact ⟨a,o,vs,rfl,ba,bz.kp (fX ha (.inl ⟨_,rfl⟩)) _ _ r⟩
    exact ⟨_,_,J,h.freeze h1 h2 ha (.inl ⟨_,rfl⟩) hr,h2,hr⟩
  · rename_i ds;obtain ⟨a,vs,rfl,ha,r⟩:=q;obtain ⟨o,J⟩:=ge I ha (.inr ⟨_,rfl⟩);have hr:Rp (cA H a (.frz o (.dK vs))) (.dict ds) (.ref a):=by
      simp only [Rp];exact .inl ⟨a,o,vs,rfl,ba,dQ.kp (fX ha (.inr ⟨_,rfl⟩)) _ _ r⟩
    exact ⟨_,_,J,h.freeze h1 h2 ha (.inr ⟨_,rfl⟩) hr,h2,hr⟩
theorem kA.fz {X:Cx} {st:Stmt} {i:Nat} {f:Fe} (h:kA X st (ib i f)) (hi:i < X.N.length):kA X st (bY i f):=fun Fm=>by
  intro pins s σ H D I ⟨ρ,sl,q⟩;unfold bY at q;cases ef:f ρ with
  | ex c=>rw [ef] at q;exact h Fm pins s σ H D I ⟨ρ,sl,by unfold ib;rw [ef];exact q⟩
  | no=>rw [ef] at q;exact q.elim
  | ok d =>
    rw [ef] at q;have hr:Bb X Fm (ib i f) { nx:=fun σ' H'=>ir Fm H' σ' (ρ.set i (.own d)),rt:=fun _ _=>False } σ H:=⟨ρ,sl,by unfold ib;rw [ef];exact fun σ' H' s'=>s'⟩
    refine df (h Fm pins s σ H _ I hr) fun fl s' z=>?_
    cases fl with
    | next =>
      obtain ⟨σ',H',I',sls⟩:=z;have hi':i < ρ.length:=by rw [<- sl.sl.1,I.len];exact hi
      obtain ⟨H2,v,I2,sl2,_,_⟩:=A4 I' sls (i:=i) (d:=d) (by rw [List.getElem?_set,if_pos rfl,if_pos hi']);rw [List.set_set] at sl2;exact ⟨σ',H2,I2,q σ' H2 sl2⟩
    | brk=>obtain ⟨_,_,_,z⟩:=z;exact z.elim
    | cont=>obtain ⟨_,_,_,z⟩:=z;exact z.elim
    | ret u=>obtain ⟨_,_,_,_,_,z⟩:=z;exact z.elim
theorem gU {X:Cx} {st:Stmt} {i:Nat} {f:Fe} (h:Z.kA X st (ib i f)) (hi:i < X.N.length):Z.kA X st (bY i f) :=
  ⟨D2.kA.fz h.un hi⟩
theorem vT {X:Cx} {tg iter elt:Expr} {ifs:List Expr} {sc:Scope} {pos:Pos} {it:aS->R (List PyData)} {b:PyData->aS->Option aS} {t:aS->R Bool} {f:Fe} {N:List Str} {own:Nat} {G G0:List Str} {fr:List Nat} {nl:Nat}
    (T:Tb X nl G0) {oN:List Str} {on:List (Str×NameKind)} (hoN:X.N=oN) (hon:X.env.scope.names=on)
    (ck:eV sc N own G oN fr/\∀ y∈sc.names,y.2=.free->on.lookup y.1=some .cell\/on.lookup y.1=some .free) (hi:sh X tg iter it)
    (hb0:∀ ρ d ρ1,b d (az own fr ρ)=some ρ1->lD (az own fr ρ) ρ1)
    (hbody:∀ cl C s H fp E,Tb (bc X N sc cl C s H fp E) own G->u6 (bc X N sc cl C s H fp E) tg b/\wd (bc X N sc cl C s H fp E) ifs t/\cI (bc X N sc cl C s H fp E) elt f)
    (hs:∀ x,foldedSetIterable iter X.env x=pure x:=by intro _;rfl) (hstk:∃ env0 outer0 L,X.stack=env0::outer0/\env0.frame=some L/\X.env.frame=some L:=by exact ⟨_,_,_,rfl,rfl,rfl⟩):nL X (.ListComp elt [⟨tg,iter,ifs,0⟩] sc pos) (bV it own fr b t f) :=
  rW T (by rw [hoN];exact ck.1) (fun y hy hf=>by unfold Env.kindOf;rw [hon];exact ck.2 y hy hf) hi hb0 hbody hs hstk
theorem bm {X:Cx} {tg iter elt:Expr} {ifs:List Expr} {sc:Scope} {pos:Pos} {it:aS->R (List PyData)} {b:PyData->aS->Option aS} {t:aS->R Bool} {f:Fe} {N:List Str} {own:Nat} {G G0:List Str} {fr:List Nat} {nl:Nat} (T:Tb X nl G0) {oN:List Str} {on:List (Str×NameKind)} (hoN:X.N=oN) (hon:X.env.scope.names=on) (ck:eV sc N own G oN fr/\∀ y∈sc.names,y.2=.free->on.lookup y.1=some .cell\/on.lookup y.1=some .free) (hi:Z.sh X tg iter it) (hb0:∀ ρ d ρ1,b d (az own fr ρ)=some ρ1->lD (az own fr ρ) ρ1) (hbody:∀ cl C s H fp E,Tb (bc X N sc cl C s H fp E) own G->Z.u6 (bc X N sc cl C s H fp E) tg b/\Z.wd (bc X N sc cl C s H fp E) ifs t/\Z.cI (bc X N sc cl C s H fp E) elt f) (hs:∀ x,foldedSetIterable iter X.env x=pure x:=by intro _;rfl) (hstk:∃ env0 outer0 L,X.stack=env0::outer0/\env0.frame=some L/\X.env.frame=some L:=by exact ⟨_,_,_,rfl,rfl,rfl⟩):Z.nL X (.ListComp elt [⟨tg,iter,ifs,0⟩] sc pos) (bV it own fr b t f) :=
  ⟨D2.vT T hoN hon ck hi.un hb0 (fun cl C s H fp E T=>let ⟨q1,q2,q3⟩:=hbody cl C s H fp E T;⟨q1.un,q2.un,q3.un⟩) hs hstk⟩
theorem zA {X:Cx} {tg iter elt:Expr} {ifs:List Expr} {sc:Scope} {pos py spos:Pos} {it:aS->R (List PyData)} {b:PyData->aS->Option aS} {t:aS->R Bool} {f:Fe} {N:List Str} {own:Nat} {G G0:List Str} {fr:List Nat} {nl:Nat} {y:Str} (i:Nat)
    (hN:(X.N.take nl)[i]?=some y) (T:Tb X nl G0) {oN:List Str} {on:List (Str×NameKind)} (hoN:X.N=oN) (hon:X.env.scope.names=on)
    (ck:eV sc N own G oN fr/\∀ y∈sc.names,y.2=.free->on.lookup y.1=some .cell\/on.lookup y.1=some .free) (hi:sh X tg iter it)
    (hb0:∀ ρ d ρ1,b d (az own fr ρ)=some ρ1->lD (az own fr ρ) ρ1)
    (hbody:∀ cl C s H fp E,Tb (bc X N sc cl C s H fp E) own G->u6 (bc X N sc cl C s H fp E) tg b/\wd (bc X N sc cl C s H fp E) ifs t/\cI (bc X N sc cl C s H fp E) elt f)
    (hsw:swapsWith (.ListComp elt [⟨tg,iter,ifs,0⟩] sc pos) (some (.Name y py)) spos.line X.env=pure true:=by rfl)
    (hs:∀ x,foldedSetIterable iter X.env x=pure x:=by intro _;rfl) (hstk:∃ env0 outer0 L,X.stack=env0::outer0/\env0.frame=some L/\X.env.frame=some L:=by exact ⟨_,_,_,rfl,rfl,rfl⟩):kA X (.Assign [.Name y py] (.ListComp elt [⟨tg,iter,ifs,0⟩] sc pos) spos) (ib i (bV it own fr b t f)) :=
  zS T (by rw [hoN];exact ck.1) (fun y hy hf=>by unfold Env.kindOf;rw [hon];exact ck.2 y hy hf) hi hb0 hbody hN hsw hs hstk
theorem dH {X:Cx} {tg iter elt:Expr} {ifs:List Expr} {sc:Scope} {pos py spos:Pos} {it:aS->R (List PyData)} {b:PyData->aS->Option aS} {t:aS->R Bool} {f:Fe} {N:List Str} {own:Nat} {G G0:List Str} {fr:List Nat} {nl:Nat} {y:Str} (i:Nat) (hN:(X.N.take nl)[i]?=some y) (T:Tb X nl G0) {oN:List Str} {on:List (Str×NameKind)} (hoN:X.N=oN) (hon:X.env.scope.names=on) (ck:eV sc N own G oN fr/\∀ y∈sc.names,y.2=.free->on.lookup y.1=some .cell\/on.lookup y.1=some .free) (hi:Z.sh X tg iter it) (hb0:∀ ρ d ρ1,b d (az own fr ρ)=some ρ1->lD (az own fr ρ) ρ1) (hbody:∀ cl C s H fp E,Tb (bc X N sc cl C s H fp E) own G->Z.u6 (bc X N sc cl C s H fp E) tg b/\Z.wd (bc X N sc cl C s H fp E) ifs t/\Z.cI (bc X N sc cl C s H fp E) elt f) (hsw:swapsWith (.ListComp elt [⟨tg,iter,ifs,0⟩] sc pos) (some (.Name y py)) spos.line X.env=pure true:=by rfl) (hs:∀ x,foldedSetIterable iter X.env x=pure x:=by intro _;rfl) (hstk:∃ env0 outer0 L,X.stack=env0::outer0/\env0.frame=some L/\X.env.frame=some L:=by exact ⟨_,_,_,rfl,rfl,rfl⟩):Z.kA X (.Assign [.Name y py] (.ListComp elt [⟨tg,iter,ifs,0⟩] sc pos) spos) (ib i (bV it own fr b t f)) :=
  ⟨D2.zA i hN T hoN hon ck hi.un hb0 (fun cl C s H fp E T=>let ⟨q1,q2,q3⟩:=hbody cl C s H fp E T;⟨q1.un,q2.un,q3.un⟩) hsw hs hstk⟩
theorem bn {own:Nat} {fr:List Nat} {i:Nat} (h:i < own):∀ ρ d ρ1,aP i d (az own fr ρ)=some ρ1->lD (az own fr ρ) ρ1:=fun ρ d ρ1 e=>by
  have e':ρ1=(az own fr ρ).set i (.val d):=(Option.some.inj e).symm;subst e';refine ⟨by rw [List.length_set],fun j c hj=>?_⟩;by_cases hij:i=j
  · subst hij;left;unfold az at hj;rw [List.getElem?_append_left (by simpa using h),List.getElem?_replicate,if_pos h] at hj;exact (Option.some.inj hj).symm
  · right;rw [List.getElem?_set,if_neg hij];exact hj
noncomputable def u7 (sc:Scope) (N G:List Str):Prop :=
  N.Nodup/\(∀ x∈N,(sc.names.lookup x=some .local\/sc.names.lookup x=some .cell)/\(x==("__debug__" : Str))=false/\(x==("__classdict__" : Str))=false)/\∀ x∈G,sc.names.lookup x=some .globalImplicit/\(x==("__debug__" : Str))=false/\x≠("__name__" : Str)
noncomputable instance {sc:Scope} {N G:List Str}:Decidable (u7 sc N G):=by unfold u7;infer_instance
theorem Bt {P:Program} {w:World} {K:PySem.W.Frag} {mg:Str->Option Value} {base:Heap} {N:List Str} {qual:Str} {sc:Scope} {f:Addr} {cdv:Value} {A:Around} {outer:List Env} {s:Shared} {H:Hp} {E:XK} {G:List Str} {k:Nat}
    (hr:eJ k (A.deeper (envOfC qual sc s.heap.objs.size f cdv))) (ck:u7 sc N G):Tb (fx (cV P w mg) P w K mg base N qual sc f cdv A outer s H E) N.length G:=by
  obtain ⟨nd,l,g⟩:=ck;refine ⟨hr.units,rfl,nd,fun x hx=>⟨?_,(l x hx).2⟩,fun x hx=>⟨?_,.inl rfl⟩,fun x hx=>?_⟩
  · rcases (l x hx).1 with q | q
    · exact .inl q
    · exact .inr (.inl q)
  · exact (l x (List.mem_of_mem_take hx)).1
  · exact g x hx
section
variable {X:Cx} {a b c:Expr} {fa fb fc:Fe} {pos:Pos}
noncomputable def uc (X:Cx) (P:Hp->Hp->PyData->V->Prop) (r:V->Hp->VK->Prop) (g:PyData->R PyData):Prop:=∀ H x dx Q,gV H dx x->uR X P (g dx) H Q->r x H Q
theorem Fb {P:Hp->Hp->PyData->V->Prop} {r:V->Hp->VK->Prop} {g:PyData->R PyData} (hP:Dn P) (hg:uc X P r g) (σ:St) (H:Hp) (Q:VK) (h:jI X P (e1 g fa) σ H Q):Fx r (jI X yX fa) σ H Q :=
  (fy (P:=yX) (k:=fun _ x=>g x) (fM (X:=X) hP Q) h).post fun v H1 ⟨_,d1,_,_,p1,q1⟩=>hg H1 v d1 Q p1 q1
noncomputable def qa:PyData->R PyData
  | .int i=>.ok (.int (-i))
  | _=>.no
theorem BF:uc X iO (rU fun i=>.int (-i)) qa:=fun H x dx Q hx q=>by
  unfold qa at q;split at q
  · exact ⟨_,bP hx,q _ H (aB.refl _) cF⟩
  · exact q.elim
theorem mV (ha:Z.dF X a fa):Z.cI X (.UnaryOp .USub a pos) (e1 qa fa):=⟨have ha:=ha.un;PE.imp (Do Bv ha) (Fb fE BF)⟩
variable {es:List Expr} {fs:aS->R (List PyData)}
noncomputable def pR (fs:aS->R (List PyData)):Fe:=fun ρ=>fs ρ>>=fun ds=>if ds.length<=sizeLine then .ok (.tuple ds) else .no
noncomputable def AZ (fs:aS->R (List PyData)):Fe:=fun ρ=>fs ρ>>=fun ds=>if ds.length<=sizeLine then .ok (.list ds) else .no
theorem iZ {x1} (h:Z.sg X es fs):Z.cI X (.Tuple es x1 pos) (pR fs):=⟨have h:=h.un;PE.imp (B5 h) fun σ H Q q=>(kD (I:=Rp) (f:=fs) (k:=fun _ ds=>if ds.length<=sizeLine then .ok (.tuple ds) else .no) (fM (X:=X) fE Q) q).post fun vs H1 ⟨_,ds,_,_,p,q1⟩=>by
    have p:=mO.mp p;split at q1
    · rename_i hz;exact ⟨by rw [p.length];exact hz,fun a ha=>q1 _ _ (cq ha _) (dA ha p)⟩
    · exact q1.elim⟩
theorem oA (h:Z.sg X es fs):Z.nL X (.List es pos) (AZ fs):=⟨have h:=h.un;PE.imp (CN h) fun σ H Q q=>(kD (I:=Rp) (f:=fs) (k:=fun _ ds=>if ds.length<=sizeLine then .ok (.list ds) else .no) (fM (X:=X) zt Q) q).post fun vs H1 ⟨_,ds,_,_,p,q1⟩=>by
    have p:=mO.mp p;split at q1
    · rename_i hz;exact ⟨by rw [p.length];exact hz,fun a ha=>q1 _ _ (cq ha _) (dE ha p)⟩
    · exact q1.elim⟩
theorem rn  : Z.nL X (.Dict [] [] pos) (eC (.dict [])):=⟨PE.imp xG fun σ H Q ⟨ρ,sl,q⟩ p hp=>q _ _ (cq hp _) ⟨by simp only [iA];exact ⟨p,[],rfl,ba,by simp only [dQ]⟩,p,rfl,hp⟩⟩
noncomputable def ce:PyData->PyData->R PyData
  | .list ds,.int i=>match atI ds i with
    | some d=>.ok d
    | none=>.no
  | .tuple ds,.int i=>match atI ds i with
    | some d=>.ok d
    | none=>.no
  | .str z,.int i=>if z.length<=sizeLine then match atI z.cps.toList i with
    | some c=>.ok (.str ⟨#[c]⟩)
    | none=>.no else .no
  | .dict kvs,k=>if oB kvs=true then .no else match gS k with
    | some _=>match lb kvs k with
      | some d=>.ok d
      | none=>.no
    | none=>.no
  | _,_=>.no
theorem bz.atI {H:Hp} {ds:List PyData} {vs:List V} {i:Int} {d:PyData} (r:bz H ds vs) (e:L2.atI ds i=some d):∃ v,L2.atI vs i=some v/\Rp H d v:=by
  unfold L2.atI at e ⊢;rw [r.length];cases h:uu ds.length i with
  | none=>rw [h] at e;cases e
  | some j =>
    rw [h] at e;obtain ⟨v,e1,p⟩:=r.get (show ds[j]?=some d from e);exact ⟨v,e1,p⟩
noncomputable def DI:R2:=fun x y H Q=>∃ a v,x=.ref a/\mN H a y (some v)/\Q v H
theorem zl (hu:X.A.units+1 < cLine):Av X DI:=by
  intro value slice pins s σ H x y v u Q I rx ry h hs;obtain ⟨a,z,rfl,g,q⟩:=h;cases rx;exact tail_any (qX I g) PySem.F.slot_dict_getitem.lookup (vy hu I g ry fun w' s3 I3 rw'=>⟨z,H,I3,rw',q⟩) hs
theorem D6:cW X iO (fun x y H Q=>DT X.K x y H Q\/DG X.K x y H Q\/Ek x y H Q\/DI x y H Q) ce:=fun H x y dx dy Q hx hy q=>by
  unfold ce at q;split at q
  · rename_i ds i;split at q
    · rename_i d e;obtain ⟨a,vs,rfl,hq,r⟩:=dc (K:=X.K) hx;obtain ⟨v,e1,p⟩:=r.atI e;exact .inl ⟨a,vs,i,v,rfl,bP hy,hq,e1,q v H (aB.refl _) p⟩
    · exact q.elim
  · rename_i ds i;split at q
    · rename_i d e;obtain ⟨a,vs,rfl,hq,r⟩:=cJ hx;obtain ⟨v,e1,p⟩:=r.atI e;exact .inr (.inl ⟨a,vs,i,v,rfl,bP hy,gh.of hq,e1,q v H (aB.refl _) p⟩)
    · exact q.elim
  · rename_i z i;split at q
    · rename_i hz;split at q
      · rename_i c e;exact .inr (.inr (.inl ⟨z,i,c,gv hx,bP hy,hz,e,q _ H (aB.refl _) xO⟩))
      · exact q.elim
    · exact q.elim
  · rename_i kvs k;split at q
    · exact q.elim
    rename_i hi;split at q
    · rename_i κ e;split at q
      · rename_i d e1;obtain ⟨a,ks,rfl,h,r⟩:=j6 (Bool.not_eq_true _ ▸ hi) hx;obtain ⟨o,g,_,e2⟩:=t5 (κ:=κ) h r;rw [qL e] at e1;obtain ⟨v,rfl,p⟩:=e2 d e1;rw [<- um hy e] at g;exact .inr (.inr (.inr ⟨a,v,rfl,g,q v H (aB.refl _) p⟩))
      · exact q.elim
    · exact q.elim
  · exact q.elim
theorem aQ (hu:X.A.units+64 < cLine) (ha:Z.dF X a fa) (hb:Z.dF X b fb) (hs:uZ b):Z.cI X (.Subscript a b pos) (e2 ce fa fb):=⟨have ha:=ha.un;have hb:=hb.un;PE.imp (Eo (Ao.or (Bz.or (Cj.or (zl (by omega))))) ha hb hs) (two fE D6)⟩
variable {nl:Nat} {G:List Str} {x:Str} {p:Pos}
noncomputable def pX (X:Cx) (P:Hp->Hp->PyData->V->Prop) (r:List V->Hp->VK->Prop) (g:List PyData->R PyData):Prop:=∀ H xs ds Q,RA gV H ds xs->uR X P (g ds) H Q->r xs H Q
theorem yS {P:Hp->Hp->PyData->V->Prop} {r:List V->Hp->VK->Prop} {g:List PyData->R PyData} (hP:Dn P) (hg:pX X P r g) (σ:St) (H:Hp) (Q:VK) (h:jI X P (fun ρ=>fs ρ>>=g) σ H Q):Fl r (zb X gV fs) σ H Q :=
  (kD (I:=gV) (k:=fun _=>g) (fM (X:=X) hP Q) h).post fun vs H1 ⟨_,ds,_,_,p1,q1⟩=>hg H1 vs ds Q p1 q1
noncomputable def one (g:PyData->R PyData):List PyData->R PyData
  | [d]=>g d
  | _=>.no
noncomputable def B3 (g:PyData->PyData->R PyData):List PyData->R PyData
  | [d,e]=>g d e
  | _=>.no
theorem yo (g:PyData->R PyData) (fa:Fe):(fun ρ=>ah fa aJ ρ>>=one g)=e1 g fa:=by
  funext ρ;unfold ah aJ e1;cases fa ρ <;> rfl
theorem Cy (g:PyData->PyData->R PyData) (fa fb:Fe):(fun ρ=>ah fa (ah fb aJ) ρ>>=B3 g)=e2 g fa fb:=by
  funext ρ;unfold ah aJ e2;cases fa ρ with
  | ok a=>cases fb ρ <;> rfl
  | ex c=>rfl
  | no=>rfl
theorem xa {P:Hp->Hp->PyData->V->Prop} {r:List V->Hp->VK->Prop} {g:PyData->R PyData} (h:∀ H x d Q,gV H d x->uR X P (g d) H Q->r [x] H Q):pX X P r (one g):=fun H xs ds Q ra q=>by
  unfold one at q;split at q
  · rename_i d;simp only [RA] at ra;obtain ⟨v,r',e,p,e2⟩:=ra;subst e2;subst e;exact h H v d Q p q
  · exact q.elim
theorem Ca {P:Hp->Hp->PyData->V->Prop} {r:List V->Hp->VK->Prop} {g:PyData->PyData->R PyData} (h:∀ H x y d e Q,gV H d x->gV H e y->uR X P (g d e) H Q->r [x,y] H Q):pX X P r (B3 g):=fun H xs ds Q ra q=>by
  unfold B3 at q;split at q
  · rename_i d e;simp only [RA] at ra;obtain ⟨v,r',e1,p,v',r'',e2,p',e3⟩:=ra;subst e3;subst e2;subst e1;exact h H v v' d e Q p p' q
  · exact q.elim
section
variable {P:Hp->Hp->PyData->V->Prop} {r:List V->Hp->VK->Prop} {g:PyData->R PyData} {g2:PyData->PyData->R PyData} {id ty:String}
theorem wx (T:Tb X nl G) (j:Nat) (hG:G[j]?=some x) (hm:X.mg x=none) (hP:Dn P) (hv:bootBuiltins x=some (.builtin id)) (hc:di X (.builtin id) r) (hg:∀ H x d Q,gV H d x->uR X P (g d) H Q->r [x] H Q) (ha:dF X a fa)
    (he:aO a=true:=by rfl):PE X (.Call (.Name x p) [a] [] pos) (jI X P (e1 g fa)):=by
  have q:=T.gl x (List.mem_of_getElem? hG);rw [<- yo];exact PE.imp (nc hc q.1 hm hv (lM ha sF he) q.2.2 q.2.1 (bo he)) (yS hP (xa hg))
theorem Bn (T:Tb X nl G) (j:Nat) (hG:G[j]?=some x) (hm:X.mg x=none) (hP:Dn P) (hv:bootBuiltins x=some (.type ty)) (hc:di X (.type ty) r) (hg:∀ H x d Q,gV H d x->uR X P (g d) H Q->r [x] H Q) (ha:dF X a fa)
    (he:aO a=true:=by rfl):PE X (.Call (.Name x p) [a] [] pos) (jI X P (e1 g fa)):=by
  have q:=T.gl x (List.mem_of_getElem? hG);rw [<- yo];exact PE.imp (vg hc q.1 hm hv (lM ha sF he) q.2.2 q.2.1 (bo he)) (yS hP (xa hg))
theorem DD (T:Tb X nl G) (j:Nat) (hG:G[j]?=some x) (hm:X.mg x=none) (hP:Dn P) (hv:bootBuiltins x=some (.builtin id)) (hc:di X (.builtin id) r) (hg:∀ H x y d e Q,gV H d x->gV H e y->uR X P (g2 d e) H Q->r [x,y] H Q) (ha:dF X a fa) (hb:dF X b fb)
    (he:aO a=true:=by rfl) (he2:aO b=true:=by rfl):PE X (.Call (.Name x p) [a,b] [] pos) (jI X P (e2 g2 fa fb)):=by
  have q:=T.gl x (List.mem_of_getElem? hG);rw [<- Cy];exact PE.imp (nc hc q.1 hm hv (lM ha (lM hb sF he2) he) q.2.2 q.2.1 (bo he) (l6 (by rw [List.all_cons,he2];rfl))) (yS hP (Ca hg))
end
end
theorem k9:fillsNumberSlot (.type "tuple") "mul" = pure false :=
  PySem.fillsNumberSlot_seq (id := "tuple.__mul__") (r:=some (.builtin "tuple.__rmul__")) F.slot_tuple_mul.lookup (by decide +kernel) F.slot_tuple_rmul.lookup (by decide +kernel)
theorem pr:seqRepeat? (.type "tuple")=pure (some (.builtin "tuple.__mul__")):=by
  unfold seqRepeat?;rw [PySem.seqSlot_of (T := "tuple") (name := "__mul__") (id := "tuple.__mul__") F.slot_tuple_mul.lookup (by decide +kernel),PySem.seqSlot_of (T := "tuple") (name := "__rmul__") (id := "tuple.__rmul__") F.slot_tuple_rmul.lookup (by decide +kernel)];rfl
theorem nu (a:Int) (t:Tok) (l:Addr) (items:Array Value) (n:Nat) (dd:Option Addr) (sl:Array (Option Value)) :
    Meets (Builtin.«int.__rmul__» ⟨[.int a t,.ref l],[]⟩) (fun _ R s=>s.heap.get? l=some { cls:=.type "tuple",dict:=dd,data:=.seq items n,slots:=sl }/\R (.ok (.ret Value.notImplemented)) s) :=
  .of_wp fun prog w A R s h=>by obtain ⟨hp,g,d,tk,os⟩:=s;obtain ⟨hl,h⟩:=h;wp_walk;exact ⟨_,rfl,h⟩
theorem sR (l:Addr) (items:Array Value) (n:Nat) (dd:Option Addr) (sl:Array (Option Value)) (x:Int) (u:Tok) (h1:2<=x) (h2:x < 2 ^ 63) (h0:¬ items.isEmpty=true) (hc1:¬ (items.size:Int)*x > (2 ^ 63-1) / 8) (hbig:Builtin.Tuple.tupleTooMany ((items.size:Int)*x)=false) (hsz:¬ (List.foldl (fun x1 x2=>x1++x2) #[] (List.replicate x.toNat items)).size > sizeLine) :
    Meets (Builtin.«tuple.__mul__» ⟨[.ref l,.int x u],[]⟩) (fun _ R s=>s.heap.get? l=some { cls:=.type "tuple",dict:=dd,data:=.seq items n,slots:=sl }/\R (.ok (.ret (Value.ref s.heap.objs.size))) { s with heap:=s.heap.push { cls:=Value.type "tuple",data:=Data.seq (List.foldl (fun x1 x2=>x1++x2) #[] (List.replicate x.toNat items)) },toks:=s.toks }) :=
  .of_wp fun prog w A R s h=>by
    obtain ⟨hp,g,d,tk,os⟩:=s;obtain ⟨hl,h⟩:=h;have f1:=AutoSeq1.idx_int;have f2:=AutoSeq1.sub_tuple_tuple;have f3:=AutoSeq1.sub_list_list;have f4:=AutoSeq1.sub_tuple_list;have f5:=AutoSeq1.sub_list_tuple;have e0:(decide (x < -2 ^ 63)||decide (x>=2 ^ 63))=false:=by
      rw [decide_eq_false (by omega),decide_eq_false (by omega)];rfl
    have e1:(items.isEmpty||x==1)=false:=by
      have:(x==1)=false:=by simp;omega
      rw [this,Bool.or_false];exact Bool.eq_false_iff.mpr h0
    have e2:(decide (x<=0)||items.isEmpty)=false:=by
      rw [decide_eq_false (by omega),Bool.false_or];exact Bool.eq_false_iff.mpr h0
    have e3:decide ((items.size:Int)*x > (2 ^ 63-1) / 8)=false:=decide_eq_false hc1;have e4:Builtin.Tuple.tupleTooMany ((items.size:Int)*x)=false:=hbig
    wp_walk using wpAny_loadPart' hl
    refine wpAny_ite_false (decide_eq_false (by rw [e0];exact Bool.false_ne_true)) ?_
    wp_walk using wpAny_loadPart' hl
    refine wpAny_ite_false (decide_eq_false (by rw [e1];exact Bool.false_ne_true)) ?_
    wp_walk using wpAny_loadPart' hl
    refine wpAny_ite_false (decide_eq_false (by rw [e2];exact Bool.false_ne_true)) ?_
    wp_walk using wpAny_loadPart' hl
    refine wpAny_ite_false e3 ?_
    wp_walk using wpAny_loadPart' hl
    exact ⟨_,rfl,h⟩
section
variable {X:Cx} {a b c:Expr} {fa fb fc:Fe} {pos:Pos} {nl:Nat} {G:List Str} {x:Str} {p:Pos}
noncomputable def Be (K:PySem.W.Frag):R2:=fun x y H Q=>∃ l k xs,x=.ref l/\y=.int k/\gh K H l xs/\xs≠[]/\2<=k/\k < 2 ^ 63/\xs.length*k.toNat<=sizeLine/\∀ p,H p=none->Q (.ref p) (cA H p (.tup (List.replicate k.toNat xs).flatten))
theorem ze:jx X (binaryOp .Mult) (Be X.K):=by
  intro pins s σ H x y v u Q I rx ry h;obtain ⟨l,k,xs,rfl,rfl,hH,hne,h1,h2,hz,q⟩:=h;cases rx;obtain ⟨t,rfl⟩:=ry;obtain ⟨its,r,pl,hz0⟩:=I.tuple hH;obtain ⟨⟨cls,dd,data,sl⟩,e,hc,n,hd⟩:=id pl;simp only at hc hd;subst hc hd;have hl:=r.length;have hnew:List.foldl (fun x1 x2=>x1++x2) #[] (List.replicate k.toNat its.toArray)=(List.replicate k.toNat its).flatten.toArray:=by
    have:=oI its k.toNat [];rw [List.nil_append] at this;exact this
  have hlen:(List.replicate k.toNat its).flatten.length<=sizeLine:=by rw [uS,<- hl,Nat.mul_comm];exact hz
  have hprod:(its.length:Int)*k<=(sizeLine:Int):=by
    have h3:((its.length*k.toNat:Nat):Int)<=(sizeLine:Int):=by rw [<- hl];exact Int.ofNat_le.mpr hz
    have h4:((k.toNat:Nat):Int)=k:=Int.toNat_of_nonneg (by omega);rw [Int.natCast_mul,h4] at h3;exact h3
  have hcap:¬ (its.toArray.size:Int)*k > (2 ^ 63-1) / 8:=by
    rw [List.size_toArray];have hs:sizeLine=16777216:=sizeLine_eq;omega
  have hbig:Builtin.Tuple.tupleTooMany ((its.toArray.size:Int)*k)=false:=by
    unfold Builtin.Tuple.tupleTooMany;rw [List.size_toArray];exact decide_eq_false (by omega)
  refine wpAny_binaryOp_repeat_ref (T := "tuple") (U := "int") (by decide) ⟨_,e,rfl⟩ (fun s'=>typeIs_int s' k t) k9 F.fills_int_mul F.slot_int_rmul pr F.slot_int_index.lookup
    (call_meets F.slot_int_rmul (typeIs_int s k t) F.entry_int_rmul (F.args_int_rmul_2 _ _) (nu k t l its.toArray n dd sl)
      ⟨e,rfl,⟨_,e,rfl⟩,call_meets F.slot_tuple_mul ⟨_,e,rfl⟩ F.entry_tuple_mul (F.args_tuple_mul_2 _ _) (sR l its.toArray n dd sl k t h1 h2 (by
        intro z;apply hne;have:its=[]:=by simpa using z
        rw [this] at hl;exact List.length_eq_zero_iff.mp hl) hcap hbig (by rw [hnew,List.size_toArray];omega)) ⟨e,?_⟩⟩)
  rw [hnew];refine ⟨.ref s.heap.objs.size,_,I.laid (t':=s.toks) (o:=.tup (List.replicate k.toNat xs).flatten) (fun b ob q=>Heap.get?_push_of_some _ q) (Nat.le_refl _) ?_,rfl,q _ (I.hok.fresh (Nat.le_refl _))⟩;exact ⟨by rw [uS,Nat.mul_comm];exact hz,_,r.rep k.toNat,IsTup.new _ _⟩
noncomputable def fR:PyData->PyData->R PyData
  | .int i,.int j=>if (-(2 ^ 64) < i/\i < 2 ^ 64)\/(-(2 ^ 64) < j/\j < 2 ^ 64) then .ok (.int (i*j)) else .no
  | .tuple xs,.int k=>if xs≠[]/\2<=k/\k < 2 ^ 63/\xs.length*k.toNat<=sizeLine then .ok (.tuple (List.replicate k.toNat xs).flatten) else .no
  | _,_=>.no
theorem Cq:cW X iO (fun x y H Q=>rI zI (fun i j=>.int (i*j)) x y H Q\/Be X.K x y H Q) fR:=fun H x y dx dy Q hx hy q=>by
  cases dx with
  | int i =>
    cases dy with
    | int j =>
      simp only [fR] at q;split at q
      · rename_i h;exact .inl ⟨_,_,bP hx,bP hy,h,q _ H (aB.refl _) cF⟩
      · exact q.elim
    | _=>exact q.elim
  | tuple xs =>
    cases dy with
    | int k =>
      simp only [fR] at q;split at q
      · rename_i h;obtain ⟨a,vs,rfl,ha,r⟩:=cJ hx;have hl:=r.length;refine .inr ⟨a,k,vs,rfl,bP hy,gh.of ha,fun z=>h.1 ?_,h.2.1,h.2.2.1,by rw [hl];exact h.2.2.2,fun p hp=>q _ _ (cq hp _) (dA hp (r.rep _))⟩;rw [z] at hl;exact List.length_eq_zero_iff.mp hl.symm
      · exact q.elim
    | _=>exact q.elim
  | _=>exact q.elim
theorem eI (ha:Z.dF X a fa) (hb:Z.dF X b fb):Z.cI X (.BinOp a .Mult b pos) (e2 fR fa fb):=⟨have ha:=ha.un;have hb:=hb.un;mS fE (By.or ze) Cq ha hb⟩
theorem zp:jx X (binaryOp .Add) (fun x y H Q=>∃ i j,x=.str i/\y=.str j/\i.length+j.length<=sizeLine/\Q (.str (i++j)) H):=by
  intro pins s σ H x y v u Q I rx ry h;obtain ⟨i,j,rfl,rfl,hz,q⟩:=h;obtain ⟨t,rfl⟩:=rx;obtain ⟨t',rfl⟩:=ry;exact PyProof.Rows.add_str (fun t' tk=>⟨.str (i++j),H,I.tok _,⟨_,rfl⟩,q⟩) hz
noncomputable def xo (K:PySem.W.Frag):R2:=fun x y H Q=>∃ a b ys,x=.ref a/\y=.ref b/\gh K H a []/\gh K H b ys/\Q (.ref b) H
theorem xS:jx X (binaryOp .Add) (xo X.K):=by
  intro pins s σ H x y v u Q I rx ry h;obtain ⟨a,b,ys,rfl,rfl,ha,hb,q⟩:=h;cases rx;cases ry;obtain ⟨its,r1,p1,_⟩:=I.tuple ha;obtain ⟨its2,r2,p2,_⟩:=I.tuple hb;cases r1;obtain ⟨⟨cls,dd,data,sl⟩,ho,hc,n,hd⟩:=id p1;obtain ⟨⟨cls2,dd2,data2,sl2⟩,ho2,hc2,n2,hd2⟩:=id p2;simp only at hc hd hc2 hd2;subst hc hd hc2 hd2;exact concat_meets ⟨_,ho,rfl⟩ ⟨_,ho2,rfl⟩ noFill_tuple_add seq_tuple_add PySem.F.slot_tuple_add PySem.F.entry_tuple_add (PySem.F.args_tuple_add_2 _ _)
    (tuple_addW0 a b _ its2.toArray n n2 dd dd2 sl sl2 (by rfl)) ⟨ho,ho2,⟨.ref b,H,I,rfl,q⟩⟩
noncomputable def A2 (K:PySem.W.Frag):R2:=fun x y H Q=>∃ l b xs zs,x=.ref l/\y=.ref b/\Rd H l (.lst xs)/\Rd H b (.lst zs)/\xs.length+zs.length<=sizeLine/\∀ p,H p=none->Q (.ref p) (cA H p (.lst (xs++zs)))
theorem As:jx X (binaryOp .Add) (A2 X.K):=by
  intro pins s σ H x y v u Q I rx ry h;obtain ⟨l,b,xs,zs,rfl,rfl,hH,hB,hz,q⟩:=h;cases rx;cases ry;obtain ⟨z,its,n,r,e⟩:=hH.ok I.hok;obtain ⟨z2,its2,n2,r2,e2⟩:=hB.ok I.hok;have hl:=r.length;have hl2:=r2.length;refine PySem.P.add_list e e2 ?_ (by rw [List.size_toArray,List.size_toArray];omega);have ea:its.toArray++its2.toArray=(its++its2).toArray:=by simp
  rw [ea];exact ⟨.ref _,_,I.lnew (t':=s.toks) (r.append r2) (by rw [List.length_append];omega),rfl,q _ I.fresh⟩
noncomputable def eY:PyData->PyData->R PyData
  | .int i,.int j=>.ok (.int (i+j))
  | .str x,.str y=>if x.length+y.length<=sizeLine then .ok (.str (x++y)) else .no
  | .tuple xs,.tuple ys=>if xs.length+ys.length<=sizeLine then .ok (.tuple (xs++ys)) else .no
  | .list xs,.list ys=>if xs.length+ys.length<=sizeLine then .ok (.list (xs++ys)) else .no
  | _,_=>.no
theorem pd {H:Hp} {ds:List PyData} {x:V} (h:gV H (.list ds) x):∃ a vs,x=.ref a/\Rd H a (.lst vs)/\bz H ds vs:=by
  rcases h with h | h
  · simp only [Rp] at h;obtain ⟨a,o,vs,e,ha,r⟩:=h;exact ⟨a,vs,e,.inr ⟨o,ha⟩,r⟩
  · simp only [iA] at h;obtain ⟨a,vs,e,ha,r⟩:=h;exact ⟨a,vs,e,.inl ha,r⟩
theorem BY:cW X EA (fun x y H Q=>zr (fun i j=>.int (i+j)) x y H Q\/(∃ i j,x=.str i/\y=.str j/\i.length+j.length<=sizeLine/\Q (.str (i++j)) H)\/A0 X.K x y H Q\/xo X.K x y H Q\/A2 X.K x y H Q) eY:=fun H x y dx dy Q hx hy q=>by
  cases dx with
  | int i =>
    cases dy with
    | int j=>exact .inl ⟨_,_,bP hx,bP hy,q _ H (aB.refl _) (.inl cF)⟩
    | _=>exact q.elim
  | str i =>
    cases dy with
    | str j =>
      simp only [eY] at q;split at q
      · rename_i h;exact .inr (.inl ⟨_,_,gv hx,gv hy,h,q _ H (aB.refl _) (.inl xO)⟩)
      · exact q.elim
    | _=>exact q.elim
  | tuple xs =>
    cases dy with
    | tuple ys =>
      simp only [eY] at q;split at q
      · rename_i h;have hx':=hx;obtain ⟨a,vs,rfl,ha,r⟩:=cJ hx;obtain ⟨b,us,rfl,hb,r2⟩:=cJ hy;cases xs with
        | nil =>
          have:=r.nil_inv;subst this;refine .inr (.inr (.inr (.inl ⟨a,b,us,rfl,rfl,gh.of ha,gh.of hb,q _ H (aB.refl _) (.inl ?_)⟩)));simp only [Rp,List.nil_append];exact ⟨b,us,rfl,hb,r2⟩
        | cons d ds =>
          refine .inr (.inr (.inl ⟨a,b,vs,us,rfl,rfl,gh.of ha,gh.of hb,fun z=>?_,by rw [r.length,r2.length];exact h,fun z=>?_,fun _ p hp=>q _ _ (cq hp _) (.inl (dA hp (r.append r2)))⟩))
          · rw [z] at r;obtain ⟨_,_,e,_⟩:=r.cons_inv;cases e
          · have hy0:ys=[]:=by
              have:=r2.length;rw [z] at this;exact List.length_eq_zero_iff.mp this.symm
            refine q _ H (aB.refl _) (.inl ?_);rw [hy0,List.append_nil];simp only [Rp];exact ⟨a,vs,rfl,ha,r⟩
      · exact q.elim
    | _=>exact q.elim
  | list xs =>
    cases dy with
    | list ys =>
      simp only [eY] at q;split at q
      · rename_i h;obtain ⟨a,vs,rfl,ha,r⟩:=pd hx;obtain ⟨b,us,rfl,hb,r2⟩:=pd hy;exact .inr (.inr (.inr (.inr ⟨a,b,vs,us,rfl,rfl,ha,hb,by rw [r.length,r2.length];exact h,fun p hp=>q _ _ (cq hp _) (.inr (dE hp (r.append r2)))⟩)))
      · exact q.elim
    | _=>exact q.elim
  | _=>exact q.elim
theorem ci (ha:Z.dF X a fa) (hb:Z.dF X b fb):Z.cI X (.BinOp a .Add b pos) (e2 eY fa fb):=⟨have ha:=ha.un;have hb:=hb.un;Ar.e (mS Au (Cc.or (zp.or (Ae.or (xS.or As)))) BY ha hb)⟩
end
section
variable {prog:Program} {w:World} {A:Around} {E:Value->Shared->Prop} {s:Shared}
theorem jp {t sl:Addr} {items:Array Value} {vl vu:Value} {lo hi:Option Int} {Q:Value->Shared->Prop} (ht:IsTup s.heap t items) (hs:s.heap.IsSliceOf sl vl vu .none) (pl:IsPart vl lo) (pu:IsPart vu hi)
    (hw:HT.sIx items.size 0 lo=0/\HT.sIx items.size items.size hi=items.size) (h:Q (.ref t) s):wpAny (model prog w) A (getItem (.ref t) (.ref sl)) Q E s:=by
  obtain ⟨os,hos,hcs,hds⟩:=id hs;have hTs:s.TypeIs (.ref sl) "slice" := ⟨os,hos,hcs⟩
  unfold getItem
  try with_reducible refine wpAny_holding ?_
  first | refine wpAny_bind (wpAny_pure ?_) | skip
  refine wpAny_bind (wpAny_sequenceKey ht.typeIs (by decide) ?_);refine wpAny_bind (wpAny_callSpecial?_slot (name:=Str.ofString "__getitem__") ht.typeIs PyProof.Rows.slot_tuple_getitem
    (wpAny_call_entry PyProof.Rows.slot_tuple_getitem ht.typeIs entry_tuple_getitem ?_ (args_tuple_getitem _ _)))
  show wpAny _ _ (Builtin.Tuple.tupleItemsOf (.ref t)>>=_) _ _ s;refine wpAny_bind (tupleItemsOf_ ht ?_);refine wpAny_bind (wpAny_typeOf hTs ?_);rw [if_pos (by decide)];refine wpAny_bind (HT.sliceApplied_gen hs pl pu ?_);have hyes:(((HT.sIx items.size 0 lo:Nat):Int)==0&&(1:Int)==1&&(HT.sIx items.size items.size hi-HT.sIx items.size 0 lo)==items.size)=true:=by
    rw [hw.1,hw.2];simp
  show wpAny _ _ (if (((HT.sIx items.size 0 lo:Nat):Int)==0&&(1:Int)==1&&(HT.sIx items.size items.size hi-HT.sIx items.size 0 lo)==items.size)=true then _ else _) _ _ s;rw [if_pos hyes];refine wpAny_bind (m:=Builtin.Tuple.tupleIsExact _) ?_;unfold Builtin.Tuple.tupleIsExact;refine wpAny_bind (wpAny_typeOf ht.typeIs (wpAny_pure ?_));show wpAny _ _ (if (Value.type "tuple" == Value.type "tuple")=true then _ else _) _ _ s;rw [if_pos (by decide)];refine wpAny_bind (wpAny_rule ?_)
  first
    | exact wpAny_pure ⟨_,rfl,wpAny_pure h⟩
    | exact wpAny_bind (wpAny_pure (wpAny_pure ⟨_,rfl,wpAny_pure h⟩))
end
section
variable {X:Cx} {a b c:Expr} {fa fb fc:Fe} {pos p2:Pos} {nl:Nat} {G:List Str} {x:Str} {p:Pos}
noncomputable def nh (xs:List PyData) (lo hi:Option Int):List PyData:=(xs.drop (HT.sIx xs.length 0 lo)).take (HT.sIx xs.length xs.length hi-HT.sIx xs.length 0 lo)
theorem bz.cut {H:Hp} {ds:List PyData} {vs:List V} (r:bz H ds vs) (lo hi:Option Int):bz H (nh ds lo hi) (rF vs lo hi):=by
  unfold nh rF;rw [r.length];exact (r.drop _).take _
noncomputable def EQ (K:PySem.W.Frag):V->Option Int->Option Int->Hp->VK->Prop:=fun x lo hi H Q=>∃ a xs,x=.ref a/\gh K H a xs/\(HT.sIx xs.length 0 lo=0/\HT.sIx xs.length xs.length hi=xs.length)/\Q (.ref a) H
theorem yI:Ay X (EQ X.K):=by
  intro pins s σ H x v vl vu lo hi sl Q I rx hs pl pu h;obtain ⟨a,xs,rfl,hx,hw,q⟩:=h;cases rx;obtain ⟨its,r,ht,hz⟩:=I.tuple hx;have hlen:its.toArray.size=xs.length:=by rw [List.size_toArray];exact r.length.symm
  refine ⟨"tuple",_,PyProof.Rows.slot_tuple_getitem.lookup,ht.typeIs,?_⟩;exact jp ht hs pl pu (by rw [hlen];exact hw) ⟨.ref a,H,I,rfl,q⟩
theorem CH:Ay X (fun x lo hi H Q=>∃ xx,x=.str xx/\xx.length<=sizeLine/\Q (.str (Txt.slice xx lo hi)) H):=by
  intro pins s σ H x v vl vu lo hi sl Q I rx hs pl pu h;obtain ⟨xx,rfl,hz,q⟩:=h;obtain ⟨t,rfl⟩:=rx;refine ⟨"str",_,PySem.F.slot_str_getitem.lookup,typeIs_str _ _ _,?_⟩;have fin:∀ t' k,EP X pins σ Q (.str (Txt.slice xx lo hi) t') { s with toks:=k }:=fun t' k=>⟨.str _,H,I.tok k,⟨t',rfl⟩,q⟩
  cases pl with
  | none =>
    cases pu with
    | none=>exact wpAny_getItem_str_slice (l:=none) (u:=none) (st:=none) hs rfl (post_val_or_str ⟨Nat.le_trans (Txt.slice_le xx _ _) hz,fin⟩)
    | int j uj=>exact wpAny_getItem_str_slice (l:=none) (u:=some (j,uj)) (st:=none) hs rfl (post_val_or_str ⟨Nat.le_trans (Txt.slice_le xx _ _) hz,fin⟩)
  | int i ui =>
    cases pu with
    | none=>exact wpAny_getItem_str_slice (l:=some (i,ui)) (u:=none) (st:=none) hs rfl (post_val_or_str ⟨Nat.le_trans (Txt.slice_le xx _ _) hz,fin⟩)
    | int j uj=>exact wpAny_getItem_str_slice (l:=some (i,ui)) (u:=some (j,uj)) (st:=none) hs rfl (post_val_or_str ⟨Nat.le_trans (Txt.slice_le xx _ _) hz,fin⟩)
noncomputable def BP:PyData->Option Int->Option Int->R PyData
  | .str x,lo,hi=>if x.length<=sizeLine then .ok (.str (Txt.slice x lo hi)) else .no
  | .tuple xs,lo,hi=>.ok (.tuple (nh xs lo hi))
  | .list xs,lo,hi=>.ok (.list (nh xs lo hi))
  | _,_,_=>.no
noncomputable abbrev Fo:=aS->R (Option Int)
noncomputable def oO:Fo:=fun _=>.ok none
noncomputable def Ex:PyData->R Int
  | .int i=>.ok i
  | _=>.no
noncomputable def ou (f:Fe):Fo:=fun ρ=>f ρ>>=fun d=>Ex d>>=fun i=>.ok (some i)
noncomputable def xH (X:Cx) (f:Fo):TO:=fun σ H Q=>∃ ρ,Sl H σ ρ/\match f ρ with
  | .ok o=>∀ H',aB H H'->Q o H'
  | .ex c=>Xw X c H
  | .no=>False
noncomputable def CY (X:Cx) (e:Option Expr) (f:Fo):Prop:=PO X e (xH X f)
structure Z.CY (X:Cx) (e:Option Expr) (f:Fo):Prop where
  un:D2.CY X e f
theorem kH  : Z.CY X none oO:=⟨fun pins s σ H Q I ⟨ρ,sl,q⟩=>Ap pins s σ H Q I (q H (aB.refl _))⟩
theorem DN (Q:Option Int->Hp->Prop):AH X (fun (r:R (Option Int)) H=>match r with | .ok b=>∀ H',aB H H'->Q b H' | .ex c=>Xw X c H | .no=>False) where
  mono:=fun r H H' h s=>by
    cases r with
    | ok d=>exact fun H2 s2=>h H2 (s.trans s2)
    | ex c=>exact Xw.mono h s
    | no=>exact h
  ex:=fun c H h=>h
  no:=fun H h=>h
theorem kP {e:Expr} {f:Fe} (h:Z.cI X e f):Z.CY X (some e) (ou f):=⟨have h:=h.un;fun pins s σ H Q I q =>
  Ab h pins s σ H Q I ((fy (P:=iO) (f:=f) (k:=fun _ d=>Ex d>>=fun i=>.ok (some i)) (DN (X:=X) Q) q).post fun v H1 ⟨_,d,_,_,p,q1⟩=>by
    cases d with
    | int i =>
      have e1:v=.int i:=by simpa only [Rp] using p
      exact ⟨i,e1,q1 H1 (aB.refl _)⟩
    | _=>exact q1.elim)⟩
noncomputable def Da (f:Fe) (lo hi:Fo):Fe:=fun ρ=>f ρ>>=fun d=>lo ρ>>=fun l=>hi ρ>>=fun u=>BP d l u
theorem xn {β:Type} {Tg:R β->Hp->Prop} {σ:St} {H:Hp} (t:AH X Tg) {f:Fo} {k:aS->Option Int->R β} (h:∃ ρ,Sl H σ ρ/\Tg (f ρ>>=k ρ) H):xH X f σ H (fun o H1=>∃ ρ,Sl H1 σ ρ/\aB H H1/\Tg (k ρ o) H1):=by
  obtain ⟨ρ,sl,q⟩:=h;refine ⟨ρ,sl,?_⟩;cases e:f ρ with
  | ok d=>rw [e] at q;exact fun H1 s=>⟨ρ,sl.mono s,s,t.mono _ _ _ q s⟩
  | ex c=>rw [e] at q;exact t.ex _ _ q
  | no=>rw [e] at q;exact (t.no _ q).elim
theorem xH.post {f:Fo} {σ:St} {H:Hp} {Q Q':Option Int->Hp->Prop} (h:xH X f σ H Q) (i:∀ b H',Q b H'->Q' b H'):xH X f σ H Q':=by
  obtain ⟨ρ,sl,q⟩:=h;refine ⟨ρ,sl,?_⟩;cases e:f ρ with
  | ok d=>rw [e] at q;exact fun H' s=>i _ _ (q H' s)
  | ex c=>rw [e] at q;exact q
  | no=>rw [e] at q;exact q
theorem jO {lo hi:Option Expr} {fl fh:Fo} (ha:Z.dF X a fa) (hl:Z.CY X lo fl) (hu:Z.CY X hi fh):Z.cI X (.Subscript a (.Slice lo hi none p2) pos) (Da fa fl fh):=⟨have ha:=ha.un;have hl:=hl.un;have hu:=hu.un;by
  refine Ar.e (PE.imp (yj (yI.or (Bo.or (AR.or CH))) ha hl hu) fun σ H Q h=>?_);refine (fy (P:=yX) (f:=fa) (k:=fun ρ d=>fl ρ>>=fun l=>fh ρ>>=fun u=>BP d l u) (fM (X:=X) Au Q) h).post fun v H1 ⟨ρ1,d1,sl1,_,p1,q1⟩=>?_
  refine (xn (f:=fl) (k:=fun ρ l=>fh ρ>>=fun u=>BP d1 l u) (fM (X:=X) Au Q) ⟨ρ1,sl1,q1⟩).post fun l H2 ⟨ρ2,sl2,s2,q2⟩=>?_
  refine (xn (f:=fh) (k:=fun ρ u=>BP d1 l u) (fM (X:=X) Au Q) ⟨ρ2,sl2,q2⟩).post fun u H3 ⟨ρ3,sl3,s3,q3⟩=>?_
  have p3:gV H3 d1 v:=gV.mono (gV.mono p1 s2) s3;cases d1 with
  | tuple xs =>
    obtain ⟨a',vs,rfl,ha',r⟩:=cJ p3;have hlen:=r.length;by_cases hw:HT.sIx vs.length 0 l=0/\HT.sIx vs.length vs.length u=vs.length
    · refine .inl ⟨a',vs,rfl,gh.of ha',hw,q3 _ H3 (aB.refl _) (.inl ?_)⟩;have e:nh xs l u=xs:=by
        unfold nh;rw [<- hlen,hw.1,hw.2];simp [hlen]
      rw [e];simp only [Rp];exact ⟨a',vs,rfl,ha',r⟩
    · exact .inr (.inl ⟨a',vs,rfl,gh.of ha',hw,fun p hp=>q3 _ _ (cq hp _) (.inl (dA hp (r.cut l u)))⟩)
  | list xs =>
    obtain ⟨a',vs,rfl,ha',r⟩:=dc (K:=X.K) p3;exact .inr (.inr (.inl ⟨a',vs,rfl,ha',fun p hp=>q3 _ _ (cq hp _) (.inr (dE hp (r.cut l u)))⟩))
  | str xx =>
    simp only [BP] at q3;split at q3
    · rename_i hz;exact .inr (.inr (.inr ⟨xx,gv p3,hz,q3 _ H3 (aB.refl _) (.inl (by simp only [Rp]))⟩))
    · exact q3.elim
  | _=>exact q3.elim⟩
end
section
variable {X:Cx} {a b c:Expr} {fa fb fc:Fe} {pos p2:Pos} {nl:Nat} {G:List Str} {x:Str} {p:Pos}
theorem ww:di X (.builtin "len") (fun xs H Q=>∃ a kvs,xs=[V.ref a]/\Rd H a (.dK kvs)/\Q (.int kvs.length) H):=by
  intro pins s σ H xs us Q I r h;obtain ⟨a,kvs,rfl,ha,q⟩:=h;obtain ⟨u,rfl,ru⟩:=fO r;cases ru;exact Eh I ha fun t s' I'=>⟨.int kvs.length,H,I',⟨t,rfl⟩,q⟩
theorem dQ.length {H:Hp}:∀ {kvs:List (PyData×PyData)} {ks:List (da×V)},dQ H kvs ks->ks.length=kvs.length
  | [],ks,h=>by simp only [dQ] at h;rw [h];rfl
  | kd::kvs,ks,h=>by
    simp only [dQ] at h;obtain ⟨x,v,r,rfl,_,t⟩:=h;rw [List.length_cons,List.length_cons,dQ.length t]
noncomputable def em:PyData->R PyData
  | .list ds=>.ok (.int ds.length)
  | .tuple ds=>.ok (.int ds.length)
  | .dict kvs=>if oB kvs=true then .no else .ok (.int kvs.length)
  | .str y=>if y.length<=sizeLine then .ok (.int y.length) else .no
  | _=>.no
theorem cK (T:Tb X nl G) (j:Nat) (hG:G[j]?=some ("len" : Str)) (hm:X.mg "len" = none) (ha:Z.dF X a fa) (he:aO a=true:=by rfl):Z.cI X (.Call (.Name "len" p) [a] [] pos) (e1 em fa):=⟨have ha:=ha.un;by
  refine wx T j hG hm fE PySem.boot_len (pZ.or (pF.or ww)) (fun H x d Q hx q=>?_) ha he;cases d with
  | list ds =>
    obtain ⟨a',vs,rfl,h,r⟩:=dc (K:=X.K) hx;exact .inl ⟨a',vs,rfl,.inl h,by rw [r.length];exact q _ H (aB.refl _) cF⟩
  | tuple ds =>
    obtain ⟨a',vs,rfl,h,r⟩:=cJ hx;exact .inl ⟨a',vs,rfl,.inr (gh.of h),by rw [r.length];exact q _ H (aB.refl _) cF⟩
  | dict kvs =>
    simp only [em] at q;split at q
    · exact q.elim
    rename_i hi;obtain ⟨a',vs,rfl,h,r⟩:=j6 (Bool.not_eq_true _ ▸ hi) hx;exact .inr (.inr ⟨a',vs,rfl,h,by rw [r.length];exact q _ H (aB.refl _) cF⟩)
  | str y =>
    simp only [em] at q;split at q
    · rename_i hz;exact .inr (.inl ⟨y,by rw [gv hx],hz,q _ H (aB.refl _) cF⟩)
    · exact q.elim
  | _=>exact q.elim⟩
noncomputable def Ch:PyData->R PyData
  | .int i=>.ok (.int i)
  | .bool k=>.ok (.int (if k then 1 else 0))
  | _=>.no
theorem wA (T:Tb X nl G) (j:Nat) (hG:G[j]?=some ("int" : Str)) (hm:X.mg "int" = none) (ha:Z.dF X a fa) (he:aO a=true:=by rfl):Z.cI X (.Call (.Name "int" p) [a] [] pos) (e1 Ch fa):=⟨have ha:=ha.un;by
  refine Bn T j hG hm fE PyProof.Rows.boot_int wo (fun H x d Q hx q=>?_) ha he;cases d with
  | int i=>exact .inl ⟨i,by rw [bP hx],q _ H (aB.refl _) cF⟩
  | bool k=>exact .inr ⟨k,by rw [mo hx],q _ H (aB.refl _) cF⟩
  | _=>exact q.elim⟩
noncomputable def FP:PyData->R PyData
  | .int i=>if i.natAbs.log2 < 1920 then .ok (.str (toString i)) else .no
  | _=>.no
noncomputable def B4:PyData->PyData->R PyData
  | .int i,.int j=>.ok (.int (if j < i then j else i))
  | _,_=>.no
noncomputable def CA:PyData->PyData->R PyData
  | .int i,.int j=>.ok (.int (if j > i then j else i))
  | _,_=>.no
theorem xz (T:Tb X nl G) (j:Nat) (hG:G[j]?=some ("min" : Str)) (hm:X.mg "min" = none) (ha:Z.dF X a fa) (hb:Z.dF X b fb) (he:aO a=true:=by rfl) (he2:aO b=true:=by rfl):Z.cI X (.Call (.Name "min" p) [a,b] [] pos) (e2 B4 fa fb):=⟨have ha:=ha.un;have hb:=hb.un;by
  refine DD T j hG hm fE PyProof.Rows.boot_min (wC T.calm) (fun H x y d e Q hx hy q=>?_) ha hb he he2;cases d with
  | int i =>
    cases e with
    | int j=>exact ⟨i,j,by rw [bP hx,bP hy],q _ H (aB.refl _) cF⟩
    | _=>exact q.elim
  | _=>exact q.elim⟩
theorem yC (T:Tb X nl G) (j:Nat) (hG:G[j]?=some ("max" : Str)) (hm:X.mg "max" = none) (ha:Z.dF X a fa) (hb:Z.dF X b fb) (he:aO a=true:=by rfl) (he2:aO b=true:=by rfl):Z.cI X (.Call (.Name "max" p) [a,b] [] pos) (e2 CA fa fb):=⟨have ha:=ha.un;have hb:=hb.un;by
  refine DD T j hG hm fE PyProof.Rows.boot_max (vQ T.calm) (fun H x y d e Q hx hy q=>?_) ha hb he he2;cases d with
  | int i =>
    cases e with
    | int j=>exact ⟨i,j,by rw [bP hx,bP hy],q _ H (aB.refl _) cF⟩
    | _=>exact q.elim
  | _=>exact q.elim⟩
noncomputable def dt:PyData->R PyData
  | .list ds=>.ok (.tuple ds)
  | .tuple ds=>.ok (.tuple ds)
  | _=>.no
theorem bH (T:Tb X nl G) (j:Nat) (hG:G[j]?=some ("tuple" : Str)) (hm:X.mg "tuple" = none) (ha:Z.dF X a fa) (he:aO a=true:=by rfl):Z.cI X (.Call (.Name "tuple" p) [a] [] pos) (e1 dt fa):=⟨have ha:=ha.un;by
  refine Bn T j hG hm fE PyProof.Rows.boot_tuple nO (fun H x d Q hx q=>?_) ha he;cases d with
  | list ds =>
    obtain ⟨a',vs,rfl,h,r⟩:=dc (K:=X.K) hx;exact ⟨a',vs,rfl,.inl ⟨h,fun l hl=>q _ _ (cq hl _) (dA hl r)⟩⟩
  | tuple ds =>
    obtain ⟨a',vs,rfl,h,r⟩:=cJ hx;exact ⟨a',vs,rfl,.inr ⟨gh.of h,q _ H (aB.refl _) (by simp only [Rp];exact ⟨a',vs,rfl,h,r⟩)⟩⟩
  | _=>exact q.elim⟩
noncomputable def qm:PyData->R PyData
  | .list ds=>.ok (.list ds)
  | .tuple ds=>.ok (.list ds)
  | _=>.no
theorem nG (T:Tb X nl G) (j:Nat) (hG:G[j]?=some ("list" : Str)) (hm:X.mg "list" = none) (ha:Z.dF X a fa) (he:aO a=true:=by rfl):Z.nL X (.Call (.Name "list" p) [a] [] pos) (e1 qm fa):=⟨have ha:=ha.un;by
  refine Bn T j hG hm zt PyProof.Rows.boot_list o5 (fun H x d Q hx q=>?_) ha he;cases d with
  | list ds =>
    obtain ⟨a',vs,rfl,h,r⟩:=dc (K:=X.K) hx;exact ⟨a',vs,rfl,.inl h,fun l hl=>q _ _ (cq hl _) (dE hl r)⟩
  | tuple ds =>
    obtain ⟨a',vs,rfl,h,r⟩:=cJ hx;exact ⟨a',vs,rfl,.inr (gh.of h),fun l hl=>q _ _ (cq hl _) (dE hl r)⟩
  | _=>exact q.elim⟩
inductive Ty where
  | int | bool | str | list | tuple
noncomputable def Ty.nm:Ty->String
  | .int => "int"
  | .bool => "bool"
  | .str => "str"
  | .list => "list"
  | .tuple => "tuple"
noncomputable def EU:Ty->PyData->Bool
  | .int,.int _=>true
  | .int,.bool _=>true
  | .bool,.bool _=>true
  | .str,.str _=>true
  | .list,.list _=>true
  | .tuple,.tuple _=>true
  | _,_=>false
noncomputable def nP (T:Ty):PyData->R PyData
  | .dict _=>.no
  | d=>.ok (.bool (EU T d))
theorem xK:di X (.builtin "isinstance") (fun xs H Q=>∃ x t T k,xs=[x,.ty T]/\j9 X.K H x t/\PySem.W.kitOne X.K t (.type T)=some k/\Q (.bl k) H):=by
  intro pins s σ H xs us Q I r h;obtain ⟨x,t,T,k,rfl,ty,e,q⟩:=h;obtain ⟨u,w',rfl,rx,ry⟩:=uF r;cases ry;exact wq I rx ty e fun tk=>⟨.bl k,H,I.tok tk,rfl,q⟩
theorem Eg {K:PySem.W.Frag} {H:Hp} {d:PyData} {v:V} (h:gV H d v):(∃ kvs,d=.dict kvs)\/∃ t,j9 K H v t/\∀ T:Ty,PySem.W.kitOne K t (.type T.nm)=some (EU T d):=by
  cases d with
  | none=>rw [kg h];exact .inr ⟨_,.non,fun T=>by cases T <;> rfl⟩
  | bool k=>rw [mo h];exact .inr ⟨_,.bl k,fun T=>by cases T <;> rfl⟩
  | int i=>rw [bP h];exact .inr ⟨_,.int i,fun T=>by cases T <;> rfl⟩
  | str y=>rw [gv h];exact .inr ⟨_,.str y,fun T=>by cases T <;> rfl⟩
  | tuple ds=>obtain ⟨a,vs,rfl,ha,_⟩:=cJ h;exact .inr ⟨_,.tup ha,fun T=>by cases T <;> rfl⟩
  | list ds =>
    obtain ⟨a,vs,rfl,ha,_⟩:=pd h;rcases ha with ha | ⟨o,ha⟩
    · exact .inr ⟨_,.lst ha,fun T=>by cases T <;> rfl⟩
    · exact .inr ⟨_,.frz ha,fun T=>by cases T <;> rfl⟩
  | dict kvs=>exact .inl ⟨kvs,rfl⟩
theorem tG (ty:Ty) {y:Str} {py:Pos} (T:Tb X nl G) (j:Nat) (hG:G[j]?=some ("isinstance" : Str)) (hm:X.mg "isinstance" = none) (hy:bootBuiltins y=some (.type ty.nm)) (T':Tb X nl G) (j':Nat) (hG':G[j']?=some y) (hm':X.mg y=none) (ha:dF X a fa)
    (he:aO a=true:=by rfl):cI X (.Call (.Name "isinstance" p) [a,.Name y py] [] pos) (e1 (nP ty) fa):=by
  have g:=T.gl _ (List.mem_of_getElem? hG);have g':=T.gl _ (List.mem_of_getElem? hG');have hp:PE X (.Name y py) (tC (.ty ty.nm)):=Aj g'.1 hm' hy rfl g'.2.2 g'.2.1;refine PE.imp (nc xK g.1 hm PyProof.Rows.boot_isinstance (pE ha (pE hp yR) (bo he)) g.2.2 g.2.1 (bo he)) fun σ H Q h=>?_
  refine (fy (P:=yX) (f:=fa) (k:=fun _ d=>nP ty d) (fM (X:=X) fE Q) h).post fun v H1 ⟨_,d,_,_,p1,q1⟩=>?_
  show ∃ x t T k,_/\_/\_/\_;rcases Eg (K:=X.K) p1 with ⟨kvs,rfl⟩ | ⟨t,ht,hk⟩
  · exact q1.elim
  · refine ⟨v,t,ty.nm,EU ty d,rfl,ht,hk ty,?_⟩;cases d with
    | dict kvs=>exact q1.elim
    | _=>exact q1 _ H1 (aB.refl _) e9
theorem pK {py:Pos} (T:Tb X nl G) (j:Nat) (hG:G[j]?=some ("isinstance" : Str)) (hm:X.mg "isinstance" = none) (T':Tb X nl G) (j':Nat) (hG':G[j']?=some ("int" : Str)) (hm':X.mg "int" = none) (ha:Z.dF X a fa) (he:aO a=true:=by rfl):Z.cI X (.Call (.Name "isinstance" p) [a,.Name "int" py] [] pos) (e1 (nP .int) fa):=⟨have ha:=ha.un;tG .int T j hG hm PyProof.Rows.boot_int T' j' hG' hm' ha he⟩
theorem nM {py:Pos} (T:Tb X nl G) (j:Nat) (hG:G[j]?=some ("isinstance" : Str)) (hm:X.mg "isinstance" = none) (T':Tb X nl G) (j':Nat) (hG':G[j']?=some ("bool" : Str)) (hm':X.mg "bool" = none) (ha:Z.dF X a fa) (he:aO a=true:=by rfl):Z.cI X (.Call (.Name "isinstance" p) [a,.Name "bool" py] [] pos) (e1 (nP .bool) fa):=⟨have ha:=ha.un;tG .bool T j hG hm PyProof.Rows.boot_bool T' j' hG' hm' ha he⟩
theorem mW {py:Pos} (T:Tb X nl G) (j:Nat) (hG:G[j]?=some ("isinstance" : Str)) (hm:X.mg "isinstance" = none) (T':Tb X nl G) (j':Nat) (hG':G[j']?=some ("tuple" : Str)) (hm':X.mg "tuple" = none) (ha:Z.dF X a fa) (he:aO a=true:=by rfl):Z.cI X (.Call (.Name "isinstance" p) [a,.Name "tuple" py] [] pos) (e1 (nP .tuple) fa):=⟨have ha:=ha.un;tG .tuple T j hG hm PyProof.Rows.boot_tuple T' j' hG' hm' ha he⟩
noncomputable def o4:List PyData->Option Bool
  | []=>some true
  | .bool k::ds=>(o4 ds).map fun r=>k&&r
  | _=>none
noncomputable def xu:PyData->R PyData
  | .list ds=>match o4 ds with
    | some k=>.ok (.bool k)
    | none=>.no
  | _=>.no
end
section
variable {X:Cx} {tg a b c:Expr} {fa fb fc:Fe} {pos p2:Pos} {nl:Nat} {G:List Str} {x:Str} {p:Pos} {fs:aS->R (List PyData)} {es:List Expr}
noncomputable def hZ:PyData->R (List PyData)
  | .list ds=>.ok ds
  | .tuple ds=>.ok ds
  | _=>.no
noncomputable def eu (f:Fe):aS->R (List PyData):=fun ρ=>f ρ>>=hZ
theorem xq {K:PySem.W.Frag} {a:Addr} {ds:List PyData}:zc (Fi K a) (fun H=>∃ o vs,H a=some (.frz o (.lst vs))/\bz H ds vs) ds where
  go:=fun i H ⟨o,vs,h,r⟩ hi=>by
    have hl:=r.length;exact ⟨vs,vs[i],.inl (.inr ⟨o,h⟩),List.getElem?_eq_getElem (by omega)⟩
  yld:=fun i H x H' d ⟨o,vs,h,r⟩ hd ⟨e,y⟩=>by
    subst e;obtain ⟨v,e1,p⟩:=r.get hd;have:=y vs (.inl (.inr ⟨o,h⟩));rw [e1] at this;cases this;exact ⟨aB.refl _,p⟩
  stop:=fun i H ⟨o,vs,h,r⟩ hi=>⟨vs,.inl (.inr ⟨o,h⟩),by rw [r.length];exact hi⟩
theorem zV {K:PySem.W.Frag} {a:Addr} {ds:List PyData}:zc (EZ K a) (fun H=>∃ vs,H a=some (.tup vs)/\bz H ds vs) ds where
  go:=fun i H ⟨vs,h,r⟩ hi=>by
    have hl:=r.length;exact ⟨vs,vs[i],gh.of h,List.getElem?_eq_getElem (by omega)⟩
  yld:=fun i H x H' d ⟨vs,h,r⟩ hd ⟨e,y⟩=>by
    subst e;obtain ⟨v,e1,p⟩:=r.get hd;have:=y vs (gh.of h);rw [e1] at this;cases this;exact ⟨aB.refl _,p⟩
  stop:=fun i H ⟨vs,h,r⟩ hi=>⟨vs,gh.of h,by rw [r.length];exact hi⟩
noncomputable def FC (K:PySem.W.Frag) (tl:TE):TI:=fun σ H R=>tl σ H fun x H1=>∃ a,x=.ref a/\((∃ xs,kx K H1 a xs/\R (Fi K a) H1)\/∃ xs,gh K H1 a xs/\R (EZ K a) H1)
theorem Ds {l:Expr} {tl:TE} (hl:PE X l tl):PI X tg l (FC X.K tl):=by
  intro pins s σ H R I h;refine df (hl pins s σ H _ I h) fun v s1 ⟨x,H1,I1,r1,q1⟩=>?_
  obtain ⟨a,e,q⟩:=q1;subst e;cases r1;rcases q with ⟨xs,hq,q⟩ | ⟨xs,hq,q⟩
  · obtain ⟨its,rv,p,hz⟩:=I1.list hq;refine wpAny_pyIter_list p.isList ?_;refine ⟨s1.heap.objs.size,[s1.heap.objs.size],_,_,H1,rfl,I1.kept (t':=s1.toks) fun b o e=>Heap.get?_push_of_some _ e,v9 a _,⟨_,Heap.get?_push_size _ rfl,rfl,rfl⟩,fun b hb=>?_,q⟩;have e:b=s1.heap.objs.size:=by simpa using hb
    subst e;exact I1.fpOk (Nat.le_refl _) (I1.hok.fresh (Nat.le_refl _))
  · obtain ⟨its,rv,p,hz⟩:=I1.tuple hq;refine wpAny_pyIter_tuple (show s1.heap.IsTuple a its.toArray from p) ?_;refine ⟨s1.heap.objs.size,[s1.heap.objs.size],_,_,H1,rfl,I1.kept (t':=s1.toks) fun b o e=>Heap.get?_push_of_some _ e,tm a _,⟨_,Heap.get?_push_size _ rfl,rfl,rfl⟩,fun b hb=>?_,q⟩;have e:b=s1.heap.objs.size:=by simpa using hb
    subst e;exact I1.fpOk (Nat.le_refl _) (I1.hok.fresh (Nat.le_refl _))
theorem DS (Rk:It->Hp->Prop):AH X (fun (r:R (List PyData)) H=>match r with | .ok ds=>∀ J H',aB H H'->(∃ Gd,zc J Gd ds/\EG H' (fun _=>False) Gd)->Rk J H' | .ex c=>Xw X c H | .no=>False) where
  mono:=fun r H H' h s=>by
    cases r with
    | ok d=>exact fun J H2 s2=>h J H2 (s.trans s2)
    | ex c=>exact Xw.mono h s
    | no=>exact h
  ex:=fun c H h=>h
  no:=fun H h=>h
theorem bx (ha:Z.cI X a fa):Z.sh X tg a (eu fa):=⟨have ha:=ha.un;PI.imp (Ds ha) fun σ H Rk h=>(fy (P:=iO) (f:=fa) (k:=fun _=>hZ) (DS (X:=X) Rk) h).post fun v H1 ⟨_,d,_,_,p1,q1⟩=>by
    cases d with
    | list ds =>
      simp only [Rp] at p1;obtain ⟨a',o,vs,rfl,h,r⟩:=p1;exact ⟨a',rfl,.inl ⟨vs,.inl (.inr ⟨o,h⟩),q1 _ H1 (aB.refl _) ⟨_,xq,fun H2 k _=>⟨o,vs,k.2 _ _ _ h,bz.kp k _ _ r⟩⟩⟩⟩
    | tuple ds =>
      simp only [Rp] at p1;obtain ⟨a',vs,rfl,h,r⟩:=p1;exact ⟨a',rfl,.inr ⟨vs,gh.of h,q1 _ H1 (aB.refl _) ⟨_,zV,fun H2 k _=>⟨vs,k.1 _ _ h,bz.kp k _ _ r⟩⟩⟩⟩
    | _=>exact q1.elim⟩
noncomputable def bR (lo:Int) (n:Nat):List PyData:=(List.range n).map fun (k:Nat)=>.int (lo+k)
noncomputable def r9:List PyData->R (List PyData)
  | [.int j]=>if -(2 ^ 62)<=j/\j < 2 ^ 62 then .ok (bR 0 j.toNat) else .no
  | [.int i,.int j]=>if -(2 ^ 62)<=i/\i < 2 ^ 62/\-(2 ^ 62)<=j/\j < 2 ^ 62 then .ok (bR i (j-i).toNat) else .no
  | _=>.no
noncomputable def kE (fs:aS->R (List PyData)):aS->R (List PyData):=fun ρ=>fs ρ>>=r9
theorem wa {lo:Int} {n:Nat}:zc (Er lo n) (fun _=>True) (bR lo n) where
  go:=fun i H _ hi=>by
    show i < n;simpa [bR] using hi
  yld:=fun i H x H' d _ hd ⟨e,y⟩=>by
    subst e;subst y;refine ⟨aB.refl _,?_⟩;unfold bR at hd;rw [List.getElem?_map] at hd;cases h:(List.range n)[i]? with
    | none=>rw [h] at hd;cases hd
    | some k =>
      rw [h] at hd;have hk:k=i:=by
        rw [List.getElem?_range] at h
        · exact (Option.some.inj h).symm
        · have:=(List.getElem?_eq_some_iff.mp h).1;simpa using this
      subst hk;cases hd;exact cF
  stop:=fun i H _ hi=>by
    show n<=i;simpa [bR] using hi
theorem ja (T:Tb X nl G) (j:Nat) (hG:G[j]?=some ("range" : Str)) (hm:X.mg "range" = none) (ha:Z.sg X [a] fs) (hl:∀ ρ ds,fs ρ=.ok ds->ds.length=1) (hs:aO a=true:=by rfl):Z.sh X tg (.Call (.Name "range" p) [a] [] pos) (kE fs):=⟨have ha:=ha.un;PI.imp (vB (T.gl _ (List.mem_of_getElem? hG)).1 hm ha (bo hs)) fun σ H Rk ⟨ρ,sl,q⟩=>by
    refine ⟨ρ,sl,?_⟩;dsimp only [kE] at q;cases e:fs ρ with
    | ex c=>rw [e] at q;exact q
    | no=>rw [e] at q;exact q
    | ok ds =>
      rw [e] at q;have hlen:=hl ρ ds e;intro vs H1 s1 r1
      match ds,hlen with
      | [d],_ =>
        simp only [RA] at r1;obtain ⟨v,r',rfl,p1,rfl⟩:=r1;cases d with
        | int j =>
          have ev:v=.int j:=by simpa only [Rp] using p1
          subst ev;by_cases hz:-(2 ^ 62)<=j/\j < 2 ^ 62
          · have e2:r9 [.int j]=.ok (bR 0 j.toNat):=if_pos hz;rw [R.ok_bind,e2] at q;exact ⟨j,rfl,hz.1,hz.2,q _ H1 s1 ⟨_,wa,fun _ _ _=>True.intro⟩⟩
          · have e2:r9 [.int j]=.no:=if_neg hz;rw [R.ok_bind,e2] at q;exact q.elim
        | _=>exact q.elim⟩
end
noncomputable def sQ (x:Int):List Int->List Int
  | []=>[x]
  | y::r=>if x<=y then x::y::r else y::sQ x r
noncomputable def fJ:List Int->List Int
  | []=>[]
  | x::r=>sQ x (fJ r)
theorem kR (x:Int):∀ l,(sQ x l).Perm (x::l)
  | []=>List.Perm.refl _
  | y::r=>by
    unfold sQ;split
    · exact List.Perm.refl _
    · exact ((kR x r).cons y).trans (List.Perm.swap x y r)
theorem eZ:∀ l,(fJ l).Perm l
  | []=>List.Perm.refl _
  | x::r=>(kR x (fJ r)).trans ((eZ r).cons x)
theorem ln (x:Int):∀ l,l.Pairwise (·<=·)->(sQ x l).Pairwise (·<=·)
  | [],_=>by unfold sQ;exact List.pairwise_singleton _ _
  | y::r,h=>by
    have h':=List.pairwise_cons.mp h;unfold sQ;split
    · rename_i hxy;refine List.pairwise_cons.mpr ⟨fun z hz=>?_,h⟩;rcases List.mem_cons.mp hz with rfl | hz
      · exact hxy
      · exact Int.le_trans hxy (h'.1 z hz)
    · rename_i hxy;refine List.pairwise_cons.mpr ⟨fun z hz=>?_,ln x r h'.2⟩;rcases List.mem_cons.mp ((kR x r).mem_iff.mp hz) with rfl | hz
      · omega
      · exact h'.1 z hz
theorem ip:∀ l,(fJ l).Pairwise (·<=·)
  | []=>List.Pairwise.nil
  | x::r=>ln x _ (ip r)
theorem rS {a b:List Int} (hp:a.Perm b) (hs:a.Pairwise (·<=·)):a=fJ b:=PySem.W.ksm_same (hp.trans (eZ b).symm) hs (ip b)
section
variable {prog:Program} {w:World} {A:Around} {E:Value->Shared->Prop} {s:Shared}
theorem rD {d:Addr} {kvs:List (da×Value)} {ns:List Int} {Q:Value->Shared->Prop} (hh:A.handled=none) (lo:(d==sysModules)=false) (hd:s.heap.DictOf (dk prog w) d kvs) (hk:kvs.map (·.1)=ns.map Sum.inl) (h64:ns.length < 64)
    (h:∀ (D:Addr) (h':Heap) (tk:Nat) (vs:List Value) (e:Nat),s.heap.get? D=none->(∀ b o,s.heap.get? b=some o->h'.get? b=some o)->h'.get? D=some (seqObj "list" vs.toArray e)->IntsAre vs (fJ ns)->Q (.ref D) { s with heap:=h',toks:=tk }) :
    wpAny (model prog w) A (call (.builtin "sorted") [.ref d]) Q E s:=by
  obtain ⟨ep,hat⟩:=hd.dictAt;have hlen:kvs.length=ns.length:=by have:=congrArg List.length hk;simpa using this
  have hn:kvs.length<=sizeLine:=by rw [sizeLine_eq];omega
  refine Calls.call_function_entry kind_sorted plain_sorted entry_sorted (args_sorted1 _) ?_;unfold Builtin.«sorted»;refine wpAny_bind (m:=checkCount "sorted" 1 1 _) (wpAny_pure ?_);refine wpAny_bind (PySem.W.kdu_collect (A:=A.in1) (PySem.W.kdl_dict (knd:=dk prog w) (kvs:=kvs) (ep:=ep) lo) hh hat hn fun h1 tk acc hk1 hacc=>?_);have hl:acc.toList.length=kvs.length:=by rw [Array.length_toList];exact hacc.1
  have hI:IntsAre acc.toList ns:=by
    have key:∀ (l:List Value) (ms:List Int) (k:Nat),l.length=ms.length->(∀ (j:Nat) (v:Value),l[j]?=some v->∃ n:Int,ms[j]?=some n/\∃ t,v=Value.int n t)->IntsAre l ms:=by
      intro l;induction l with
      | nil=>intro ms k e _;have:ms=[]:=List.length_eq_zero_iff.mp e.symm;subst this;exact .nil
      | cons v r ih =>
        intro ms k e hv;cases ms with
        | nil=>cases e
        | cons n ms =>
          obtain ⟨n',e1,t,rfl⟩:=hv 0 v rfl;have:n=n':=Option.some.inj e1;subst this;exact .cons n t (ih ms (k+1) (by simpa using e) fun j u hu=>hv (j+1) u (by simpa using hu))
    refine key acc.toList ns 0 (by rw [hl,hlen]) fun j v hv=>?_
    obtain ⟨κ,x,hx,his⟩:=hacc.2 j v (by rw [<- Array.getElem?_toList];exact hv);have e1:(kvs.map (·.1))[j]?=some κ:=by rw [List.getElem?_map,hx];rfl
    rw [hk,List.getElem?_map] at e1;cases e2:ns[j]? with
    | none=>rw [e2] at e1;cases e1
    | some n =>
      rw [e2] at e1;have e3:Sum.inl n=κ:=Option.some.inj e1;subst e3;rcases cw (show nE (Sum.inl n) v=true from his) with ⟨i,t,e4,e5⟩ | ⟨y,t,e4,_⟩
      · cases e4;exact ⟨n,rfl,t,e5⟩
      · cases e4
  refine wpAny_bind (wpAny_newList ?_ (by rw [hl];exact hn));have hoL:(h1.push (seqObj "list" acc.toList.toArray 0)).get? h1.objs.size=some (seqObj "list" acc.toList.toArray 0):=Heap.get?_push_size _ rfl;show wpAny _ _ _ _ _ { s with heap:=h1.push (seqObj "list" acc.toList.toArray 0),toks:=tk };refine wpAny_bind (wpAny_holding (wpAny_call_entry slot_list_sort ⟨_,hoL,rfl⟩ entry_list_sort (list_sort_tree hoL hI (by rw [hl,hlen];exact h64) fun out ns' a1 a2 a3=>⟨_,rfl,?_⟩) (args_list_sort _)));refine wpAny_pure ⟨_,rfl,?_⟩;obtain ⟨e,he⟩:=sortedHeap_at (out:=out) hoL;have hsz:s.heap.get? h1.objs.size=none:=by
    cases q:s.heap.get? h1.objs.size with
    | none=>rfl
    | some o=>exact absurd (Heap.lt_size (hk1 _ _ q)) (Nat.lt_irrefl _)
  refine h h1.objs.size _ tk out.toList e hsz (fun b o q=>?_) he (by rw [rS a2 a3] at a1;exact a1);have q1:=hk1 b o q;have hlt:b < h1.objs.size:=Heap.lt_size q1;show (sortedHeap (h1.push (seqObj "list" acc.toList.toArray 0)) h1.objs.size acc.toList out).get? b=some o;rw [sortedHeap_old (Nat.ne_of_lt hlt) (by rw [size_push'];exact Nat.lt_succ_of_lt hlt)];exact Heap.get?_push_of_some _ q1
end
theorem AA {fs ex:List Addr} {H:Hp} {h h':Heap} {a:Addr} {o:HO} (k:∀ b u,h.get? b=some u->h'.get? b=some u) (hg:h.get? a=none) (hn:H a=none):Un fs ex H (cA H a o) h h':=by
  have ne:∀ {b:Addr} {u:Obj},h.get? b=some u->b≠a:=fun e z=>by subst z;rw [hg] at e;cases e
  exact ⟨fun b u q _ _ _=>k b u q,fun b u q _ _ _=>⟨u.slots,k b u q⟩,fun b u q n _=>by rw [ar (ne q)];exact n,fun b u q _=>⟨u,k b u q⟩,fun b xs q=>by rw [ar (aR q hn)];exact q,fun b u xs q=>by rw [ar (aR q hn)];exact q,
    fun b ps q=>⟨#[],by rw [ar (aR q hn),q];simp⟩⟩
theorem rH {X:Cx} {pins:List (Addr×Obj)} {σ:St} {H:Hp} {s:Shared} {h':Heap} {a:Addr} {o:HO} {t':Nat} (I:aF X pins σ H s) (k:∀ b u,s.heap.get? b=some u->h'.get? b=some u) (hg:s.heap.get? a=none) (hn:H a=none)
    (new:bW X.prog X.w (cA H a o) h' a o):aF X pins σ (cA H a o) { s with heap:=h',toks:=t' }:=by
  refine I.un (AA k hg hn) fun b u e=>?_
  by_cases hb:b=a
  · subst hb;rw [ba] at e;cases e;exact new
  · rw [ar hb] at e;exact (I.hok b u e).stay (fun c v _ q=>k c v q) (fun c q=>by rw [ar (aR q hn)];exact q) fun c xs q=>by rw [ar (aR q hn)];exact q
theorem qS {X:Cx} {pins:List (Addr×Obj)} {σ:St} {H:Hp} {s:Shared} {a:Addr} (I:aF X pins σ H s) (hg:s.heap.get? a=none):H a=none:=by
  cases q:H a with
  | none=>rfl
  | some o=>obtain ⟨u,e⟩:=pY (I.hok a o q);rw [hg] at e;cases e
section
variable {X:Cx} {a b c:Expr} {fa fb fc:Fe} {pos p2:Pos} {nl:Nat} {G:List Str} {x:Str} {p:Pos}
noncomputable def bg:List PyData->Option (List Int)
  | []=>some []
  | .int i::ds=>(bg ds).map fun r=>i::r
  | _=>none
theorem dl:∀ {ds:List PyData} {ns:List Int},bg ds=some ns->ds=ns.map PyData.int
  | [],ns,h=>by cases h;rfl
  | d::ds,ns,h=>by
    cases d with
    | int i =>
      simp only [bg] at h;cases e:bg ds with
      | none=>rw [e] at h;cases h
      | some r =>
        rw [e] at h;cases h;rw [List.map_cons,dl e]
    | _=>cases h
theorem dj:∀ ns:List Int,bg (ns.map PyData.int)=some ns
  | []=>rfl
  | n::ns=>by simp only [List.map_cons,bg,dj ns,Option.map_some]
noncomputable def ka:PyData->R PyData
  | .list ds=>match bg ds with
    | some ns=>if ns.length < 64 then .ok (.list ((fJ ns).map PyData.int)) else .no
    | none=>.no
  | .dict kvs=>match bg (kvs.map (·.1)) with
    | some ns=>if ns.length < 64 then .ok (.list ((fJ ns).map PyData.int)) else .no
    | none=>.no
  | _=>.no
noncomputable def B0 (K:PySem.W.Frag):List V->Hp->VK->Prop:=fun xs H Q=>∃ p ns,xs=[.ref p]/\kx K H p (ns.map V.int)/\ns.length < 64/\∀ l,H l=none->Q (.ref l) (cA H l (.lst ((fJ ns).map V.int)))
noncomputable def BW:List V->Hp->VK->Prop:=fun xs H Q=>∃ p ks ns,xs=[.ref p]/\Rd H p (.dK ks)/\ks.map (·.1)=ns.map Sum.inl/\ns.length < 64/\∀ l,H l=none->Q (.ref l) (cA H l (.lst ((fJ ns).map V.int)))
theorem oY (ns:List Int):(fJ ns).length=ns.length:=(eZ ns).length_eq
theorem tz:di X (.builtin "sorted") (B0 X.K):=by
  intro pins s σ H xs us Q I r h;obtain ⟨p,ns,rfl,hq,h64,q⟩:=h;obtain ⟨u,rfl,rx⟩:=fO r;cases rx;obtain ⟨its,rv,pl,hz⟩:=I.list hq;have hI:IntsAre its ns:=ej rv;have hl:=IntsAre.length hI;refine sorted_ints pl.isList hI (by omega) fun out ns' a1 a2 a3=>?_
  rw [rS a2 a3] at a1;obtain ⟨e,he⟩:=sortedAll_at s.heap its out;refine ⟨.ref (s.heap.objs.size+1),_,I.laid (t':=s.toks) (o:=.lst ((fJ ns).map V.int)) (fun b o e=>sortedAll_old e) (Nat.le_succ _) ⟨?_,out.toList,e,jf a1,by simpa [seqObj] using he⟩,rfl,q _ (I.hok.fresh (Nat.le_succ _))⟩;rw [List.length_map,oY,sizeLine_eq];omega
theorem sU (hc:X.calm=true):di X (.builtin "sorted") BW:=by
  intro pins s σ H xs us Q I r h;obtain ⟨p,ks,ns,rfl,hq,hk,h64,q⟩:=h;obtain ⟨u,rfl,rx⟩:=fO r;cases rx;obtain ⟨hz,hlo,vs,kv,hd⟩:=mG I.hok hq;refine rD (I.ok.hd hc) hlo hd (by rw [<- kv.keys];exact hk) h64 fun D h' tk vs' e hg kp hD hI=>?_
  have hn:=qS I hg;refine ⟨.ref D,_,rH (t':=tk) (o:=.lst ((fJ ns).map V.int)) I kp hg hn ⟨?_,vs',e,jf hI,by simpa [seqObj] using hD⟩,rfl,q _ hn⟩;rw [List.length_map,oY,sizeLine_eq];omega
theorem gc:∀ {H:Hp} {ns:List Int} {vs:List V},bz H (ns.map PyData.int) vs->vs=ns.map V.int
  | H,[],vs,r=>by rw [List.map_nil] at r;rw [r.nil_inv];rfl
  | H,n::ns,vs,r=>by
    rw [List.map_cons] at r;obtain ⟨v,r',rfl,p,t⟩:=r.cons_inv;have:v=.int n:=by simpa only [Rp] using p
    rw [this,gc t];rfl
theorem rA:∀ {H:Hp} {kvs:List (PyData×PyData)} {ks:List (da×V)},dQ H kvs ks->kvs.map (·.1)=ks.map fun k=>fG k.1
  | H,[],ks,r=>by simp only [dQ] at r;rw [r];rfl
  | H,(k,d)::kvs,ks,r=>by
    simp only [dQ,yY] at r;obtain ⟨x,v,r',rfl,⟨e,_⟩,t⟩:=r;rw [List.map_cons,List.map_cons,rA t,e]
theorem oX:∀ {ks:List (da×V)} {ns:List Int},(ks.map fun k=>fG k.1)=ns.map PyData.int->ks.map (·.1)=ns.map Sum.inl
  | [],[],_=>rfl
  | [],_::_,h=>by cases h
  | _::_,[],h=>by cases h
  | (k,v)::ks,n::ns,h=>by
    rw [List.map_cons,List.map_cons] at h;injection h with h1 h2
    rw [List.map_cons,List.map_cons,oX h2];cases k with
    | inl i=>simp only [fG] at h1;cases h1;rfl
    | inr y=>simp only [fG] at h1;cases h1
theorem ph (T:Tb X nl G) (j:Nat) (hG:G[j]?=some ("sorted" : Str)) (hm:X.mg "sorted" = none) (ha:Z.dF X a fa) (he:aO a=true:=by rfl):Z.nL X (.Call (.Name "sorted" p) [a] [] pos) (e1 ka fa):=⟨have ha:=ha.un;by
  refine wx T j hG hm zt PyProof.Rows.boot_sorted (tz.or (sU T.calm)) (fun H x d Q hx q=>?_) ha he;cases d with
  | list ds =>
    simp only [ka] at q;cases ei:bg ds with
    | none=>rw [ei] at q;exact q.elim
    | some ns =>
      rw [ei] at q;dsimp only at q;by_cases h64:ns.length < 64
      · rw [if_pos h64] at q;obtain ⟨a',vs,rfl,h,r⟩:=dc (K:=X.K) hx;rw [dl ei] at r;rw [gc r] at h;exact .inl ⟨a',ns,rfl,h,h64,fun l hl=>q _ _ (cq hl _) (dE hl (bz.ints _))⟩
      · rw [if_neg h64] at q;exact q.elim
  | dict kvs =>
    simp only [ka] at q;cases ei:bg (kvs.map (·.1)) with
    | none=>rw [ei] at q;exact q.elim
    | some ns =>
      rw [ei] at q;dsimp only at q;by_cases h64:ns.length < 64
      · rw [if_pos h64] at q;have hi:oB kvs=false:=by
          cases kvs with
          | nil=>rfl
          | cons kd kvs =>
            obtain ⟨k,d⟩:=kd;cases k <;> first | rfl | (simp [bg] at ei)
        obtain ⟨a',ks,rfl,h,r⟩:=j6 hi hx;have hk:=oX ((rA r).symm.trans (dl ei));exact .inr ⟨a',ks,ns,rfl,h,hk,h64,fun l hl=>q _ _ (cq hl _) (dE hl (bz.ints _))⟩
      · rw [if_neg h64] at q;exact q.elim
  | _=>exact q.elim⟩
theorem vj (hc:X.calm=true):di X (.builtin "all") (fun xs H Q=>∃ (p:Addr) (bs:List Bool),xs=[.ref p]/\kx X.K H p (bs.map V.bl)/\Q (.bl (bs.all id)) H):=by
  intro pins s σ H xs us Q I r h;obtain ⟨p,bs,rfl,hq,q⟩:=h;obtain ⟨u,rfl,rx⟩:=fO r;cases rx;obtain ⟨its,rv,pl,hz⟩:=I.list hq;have hh:X.A.in1.handled=none:=I.ok.hd hc;have hlt:p≠s.heap.objs.size:=by obtain ⟨o,e,_⟩:=pl.isList;exact Nat.ne_of_lt (Heap.lt_size e)
  have hits:its=bs.map Value.bool:=by
    have key:∀ (bs:List Bool) (us:List Value),bB (bs.map V.bl) us->us=bs.map Value.bool:=by
      intro bs;induction bs with
      | nil=>intro us r;cases r;rfl
      | cons k bs ih=>intro us r;rw [List.map_cons] at r;cases r with | cons r1 r2=>rw [ih _ r2];cases r1;rfl
    exact key bs its rv
  refine call_all_walk (wpAny_pyIter_list pl.isList ?_);refine ⟨s.heap.objs.size,_,_,its.toArray.size,_,_,fun i=>(bs[i]?).getD true,rfl,Walks.list hh s.heap.objs.size p hlt its.toArray,⟨⟨_,Heap.get?_push_size _ rfl,rfl,rfl⟩,?_⟩,fun i v s' Q' E' hv hQ'=>?_,fun h' tk kp=>?_⟩
  · obtain ⟨o,e,r'⟩:=pl.isList;exact ⟨o,Heap.get?_push_of_some _ e,r'⟩
  · have hv':its[i]?=some v:=by simpa using hv
    rw [hits,List.getElem?_map] at hv';cases e:bs[i]? with
    | none=>rw [e] at hv';cases hv'
    | some k =>
      rw [e] at hv';cases hv';dsimp only at hQ';rw [e] at hQ';exact wpAny_truthy_bool hQ'
  · have e:((List.range its.toArray.size).all fun i=>(bs[i]?).getD true)=bs.all id:=by
      rw [List.size_toArray,hits,List.length_map];have key:∀ (l:List Bool),((List.range l.length).all fun i=>(l[i]?).getD true)=l.all id:=by
        intro l;induction l with
        | nil=>rfl
        | cons k l ih =>
          rw [List.length_cons,List.range_succ_eq_map,List.all_cons,List.all_map,List.all_cons,<- ih];rfl
      exact key bs
    rw [e];refine ⟨.bl (bs.all id),H,I.kept (t':=tk) fun b o g=>kp b o (fun z=>?_) (Heap.get?_push_of_some _ g),rfl,q⟩;rw [List.mem_singleton.mp z] at g;exact absurd (Heap.lt_size g) (Nat.lt_irrefl _)
theorem qt:∀ {ds:List PyData} {k:Bool},o4 ds=some k->∃ bs:List Bool,ds=bs.map PyData.bool/\k=bs.all id
  | [],k,h=>by cases h;exact ⟨[],rfl,rfl⟩
  | d::ds,k,h=>by
    cases d with
    | bool j =>
      simp only [o4] at h;cases e:o4 ds with
      | none=>rw [e] at h;cases h
      | some r =>
        rw [e] at h;cases h;obtain ⟨bs,e1,e2⟩:=qt e;exact ⟨j::bs,by rw [e1];rfl,by rw [e2];rfl⟩
    | _=>cases h
theorem oV:∀ {H:Hp} {ns:List Bool} {vs:List V},bz H (ns.map PyData.bool) vs->vs=ns.map V.bl
  | H,[],vs,r=>by rw [List.map_nil] at r;rw [r.nil_inv];rfl
  | H,n::ns,vs,r=>by
    rw [List.map_cons] at r;obtain ⟨v,r',rfl,p,t⟩:=r.cons_inv;have:v=.bl n:=by simpa only [Rp] using p
    rw [this,oV t];rfl
theorem rE (T:Tb X nl G) (j:Nat) (hG:G[j]?=some ("all" : Str)) (hm:X.mg "all" = none) (ha:Z.dF X a fa) (he:aO a=true:=by rfl):Z.cI X (.Call (.Name "all" p) [a] [] pos) (e1 xu fa):=⟨have ha:=ha.un;by
  refine wx T j hG hm fE PyProof.Rows.boot_all (vj T.calm) (fun H x d Q hx q=>?_) ha he;cases d with
  | list ds =>
    simp only [xu] at q;cases ei:o4 ds with
    | none=>rw [ei] at q;exact q.elim
    | some k =>
      rw [ei] at q;obtain ⟨bs,e1,e2⟩:=qt ei;obtain ⟨a',vs,rfl,h,r⟩:=dc (K:=X.K) hx;rw [e1] at r;rw [oV r] at h;refine ⟨a',bs,rfl,h,?_⟩;rw [<- e2];exact q _ H (aB.refl _) e9
  | _=>exact q.elim⟩
end
section
variable {X:Cx} {a b c:Expr} {fa fb fc:Fe} {pos p2:Pos} {nl:Nat} {G:List Str} {x:Str} {p:Pos}
theorem ir.change {Fm H:Hp} {σ:St} {ρ:aS} {i:Nat} {d d':PyData} {a:Addr} {u u':HO} (h:ir Fm H σ ρ) (h1:ρ[i]?=some (.own d)) (h2:σ[i]?=some (some (.ref a))) (hu:H a=some u) (hm:(∃ xs,u=.lst xs)\/∃ ks,u=.dK ks)
    (hr:iA (cA H a u') d' (.ref a)):ir Fm (cA H a u') σ (ρ.set i (.own d')):=by
  have hFa:=h.own i d a h1 h2;have kp:Kp H (cA H a u'):=fX hu hm;have at_i:∀ (j:Nat) (e:PyData),(ρ.set i (.own d'))[j]?=some (.own e)->∃ e0,ρ[j]?=some (.own e0):=fun j e q=>by
    rw [List.getElem?_set] at q;by_cases hij:i=j
    · subst hij;exact ⟨d,h1⟩
    · rw [if_neg hij] at q;exact ⟨e,q⟩
  refine ⟨fun b x e=>?_,⟨by rw [List.length_set];exact h.sl.1,fun j c w' e1 e2=>?_⟩,fun j e b e1 e2=>?_,fun j k e f b e1 e2 e3 e4=>?_⟩
  · rw [ar (aR e hFa)];exact h.fm b x e
  · rw [List.getElem?_set] at e1;by_cases hij:i=j
    · subst hij;rw [if_pos rfl] at e1;split at e1
      · cases e1;rw [h2] at e2;cases e2;exact ⟨_,rfl,hr⟩
      · cases e1
    · rw [if_neg hij] at e1;have q:=h.sl.2 j c w' e1 e2;cases c with
      | exc p=>exact q
      | non=>exact True.intro
      | val d1=>obtain ⟨v,z1,z2⟩:=q;exact ⟨v,z1,Rp.kp kp _ _ z2⟩
      | own d1 =>
        obtain ⟨v,z1,z2⟩:=q;subst z1;obtain ⟨b,ob,rfl,hb⟩:=o7 z2;have nb:b≠a:=fun z=>hij (by subst z;exact h.apart i j d d1 b h1 e1 h2 e2)
        refine ⟨_,rfl,?_⟩;cases d1 <;> simp only [iA] at z2 ⊢
        · obtain ⟨b',vs,e,hb',r⟩:=z2;cases e;exact ⟨b,vs,rfl,by rw [ar nb];exact hb',bz.kp kp _ _ r⟩
        · obtain ⟨b',vs,e,hb',r⟩:=z2;cases e;exact ⟨b,vs,rfl,by rw [ar nb];exact hb',dQ.kp kp _ _ r⟩
  · obtain ⟨e0,q⟩:=at_i j e e1;exact h.own j e0 b q e2
  · obtain ⟨e0,q⟩:=at_i j e e1;obtain ⟨f0,q'⟩:=at_i k f e2;exact h.apart j k e0 f0 b q q' e3 e4
noncomputable def Aa (i:Nat) (fk fv:Fe):Fs:=fun ρ=>fv ρ>>=fun v=>lS (fk ρ)>>=fun k=>match ρ[i]? with
  | some (.own (.dict kvs))=>match gS k with
    | some _=>if kvs.length < sizeLine then .ok (.nx (ρ.set i (.own (.dict (sJ kvs k v))))) else .no
    | none=>.no
  | _=>.no
theorem vw {k:PyData} {κ:da} (h:gS k=some κ):k=fG κ:=by
  cases k <;> simp only [gS] at h <;> cases h <;> rfl
theorem CF {H:Hp} {κ:da} {y:V} (h:Rp H (fG κ) y):y=kV κ:=by
  cases κ <;> simp only [fG,Rp] at h <;> exact h
theorem wK {k v:Expr} {fk fv:Fe} {q1 q2 q3:Pos} (T:Tb X nl G) (n:Nat) (hN:X.N[n]?=some x) (hk:Z.cI X k fk) (hv:Z.cI X v fv) (hs:swapsWith v (some (.Subscript (.Name x q1) k q2)) q3.line X.env=pure false:=by rfl):Z.kA X (.Assign [.Subscript (.Name x q1) k q2] v q3) (Aa n fk fv):=⟨have hk:=hk.un;have hv:=hv.un;fun Fm=>by
  have hm:=T.vis x (List.mem_of_getElem? hN);refine PS.imp (zf (by have:=T.hu;omega) (kC hN hm.1 hm.2.1 hm.2.2) hk hv hs) fun D σ H h=>?_
  refine (my (P:=iO) (f:=fv) (k:=fun ρ v=>lS (fk ρ)>>=fun k=>match ρ[n]? with
    | some (.own (.dict kvs))=>match gS k with
      | some _=>if kvs.length < sizeLine then .ok (.nx (ρ.set n (.own (.dict (sJ kvs k v))))) else .no
      | none=>.no
    | _=>.no) h).post fun vv H1 ⟨ρ1,dv,sl1,_,p1,q1⟩=>?_
  have sl0:Bb X Fm (fun ρ=>lS (fk ρ)>>=fun k=>match ρ[n]? with
    | some (.own (.dict kvs))=>match gS k with
      | some _=>if kvs.length < sizeLine then .ok (.nx (ρ.set n (.own (.dict (sJ kvs k dv))))) else .no
      | none=>.no
    | _=>.no) D σ H1:=⟨ρ1,sl1,q1⟩
  cases e:ρ1[n]? with
  | none =>
    exfalso;rw [e] at q1;cases e2:fk ρ1 with
    | ok _=>rw [e2] at q1;exact q1
    | ex _=>rw [e2] at q1;exact q1
    | no=>rw [e2] at q1;exact q1
  | some c =>
    rw [e] at q1;cases c with
    | own d =>
      cases d with
      | dict kvs =>
        obtain ⟨o,h2,w',rfl,p2⟩:=sl1.sl.at e;simp only [iA] at p2;obtain ⟨a',ks,rfl,ha,r⟩:=p2;refine ⟨.ref a',h2,?_⟩;refine ⟨ρ1,sl1.sl,?_⟩;cases e2:fk ρ1 with
        | ex _=>rw [e2] at q1;exact q1.elim
        | no=>rw [e2] at q1;exact q1
        | ok kd =>
          rw [e2] at q1;simp only [lS,R.ok_bind] at q1;intro yv H3 s3 p3;cases e3:gS kd with
          | none=>rw [e3] at q1;exact q1.elim
          | some κ =>
            rw [e3] at q1;dsimp only at q1;by_cases hz:kvs.length < sizeLine
            · rw [if_pos hz] at q1;have ek:=vw e3;subst ek;have ey:=CF p3;subst ey;have ha3:=s3 _ _ ha;have r3:dQ H3 kvs ks:=dQ.kp (Kp.of s3) _ _ r;refine ⟨a',_,rfl,sK.k ha3 (by rw [r3.length];exact hz),q1 _ _ ((sl1.mono s3).change e h2 ha3 (.inr ⟨_,rfl⟩) ?_)⟩;simp only [iA];exact ⟨a',_,rfl,ba,dQ.kp (fX ha3 (.inr ⟨_,rfl⟩)) _ _ (dQ.put κ (p1.mono s3) r3)⟩
            · rw [if_neg hz] at q1;exact q1.elim
      | _ =>
        exfalso;cases e2:fk ρ1 with
        | ok _=>rw [e2] at q1;exact q1
        | ex _=>rw [e2] at q1;exact q1
        | no=>rw [e2] at q1;exact q1
    | _ =>
      exfalso;cases e2:fk ρ1 with
      | ok _=>rw [e2] at q1;exact q1
      | ex _=>rw [e2] at q1;exact q1
      | no=>rw [e2] at q1;exact q1⟩
noncomputable def ji (i:Nat) (f:Fe):Fs:=fun ρ=>lS (f ρ)>>=fun d=>match ρ[i]? with
  | some (.own (.list ds))=>if ds.length < sizeLine then .ok (.nx (ρ.set i (.own (.list (ds++[d]))))) else .no
  | _=>.no
end
section
variable {prog:Program} {w:World} {A:Around} {E:Value->Shared->Prop} {s:Shared}
theorem tD {it t:Addr} {i:Nat} {items:Array Value} {x:Value} {Q:Value->Shared->Prop} (hit:s.heap.IsTupleIter it t i) (ht:s.heap.IsTuple t items) (hx:items[i]?=some x)
    (hQ:∀ h',h'.IsTupleIter it t (i+1)->Heap.SameBut it s.heap h'->Q x { s with heap:=h' }):wpAny (model prog w) A (Builtin.SmallTypes.nextOf (.ref it)) Q E s:=by
  obtain ⟨ob,hob,hcl,hdt⟩:=id hit;obtain ⟨ot,hot,_,nt,hdtt⟩:=ht;unfold Builtin.SmallTypes.nextOf;refine wpAny_bind (wpAny_callSpecial?_slot (name:=Str.ofString "__next__") hit.typeIs F.slot_tuple_iterator_next (wpAny_call_entry F.slot_tuple_iterator_next hit.typeIs F.entry_tuple_iterator_next ?_ (F.args_tuple_iterator_next_1 _)));show wpAny _ _ (field (Value.ref it) 0>>=_) _ _ s;refine wpAny_bind (wpAny_field hob hdt (x:=Value.ref t) rfl ?_);show wpAny _ _ (if (Value.ref t==Value.none)=true then _ else _) _ _ s;rw [if_neg (by intro z;cases z)];show wpAny _ _ (field (Value.ref it) 1>>=_) _ _ s;refine wpAny_bind (wpAny_field hob hdt (x:=Value.int i 0) rfl ?_);show wpAny _ _ (seqItems? (Value.ref t)>>=_) _ _ s;refine wpAny_bind (wpAny_seqItems hot hdtt ?_);simp only [hx,Int.toNat_natCast];refine wpAny_bind (wpAny_setField hob hdt (by simp) (wpAny_pure ⟨x,rfl,wpAny_pure (hQ _ ⟨_,Heap.get?_update_self _ hob (Obj.isFreed_of_fields (Obj.data_mapFields hdt _)),(Obj.cls_mapFields ..).trans hcl,?_⟩ (Heap.SameBut.update ..))⟩));rw [Obj.data_mapFields hdt];simp [rawInt]
theorem mU {it t:Addr} {i:Nat} {items:Array Value} {Q:Value->Shared->Prop} (hh:A.handled=none) (hit:s.heap.IsTupleIter it t i) (ht:s.heap.IsTuple t items) (hx:items[i]?=none)
    (hE:∀ h' e,Heap.ExtBut it s.heap h'->(∃ o,h'.get? e=some o/\o.cls=.type "StopIteration")->E (.ref e) { s with heap:=h' }):wpAny (model prog w) A (Builtin.SmallTypes.nextOf (.ref it)) Q E s:=by
  obtain ⟨ob,hob,hcl,hdt⟩:=id hit;obtain ⟨ot,hot,_,nt,hdtt⟩:=ht;unfold Builtin.SmallTypes.nextOf;refine wpAny_bind (wpAny_callSpecial?_slot (name:=Str.ofString "__next__") hit.typeIs F.slot_tuple_iterator_next (wpAny_call_entry F.slot_tuple_iterator_next hit.typeIs F.entry_tuple_iterator_next ?_ (F.args_tuple_iterator_next_1 _)));show wpAny _ _ (field (Value.ref it) 0>>=_) _ _ s;refine wpAny_bind (wpAny_field hob hdt (x:=Value.ref t) rfl ?_);show wpAny _ _ (if (Value.ref t==Value.none)=true then _ else _) _ _ s;rw [if_neg (by intro z;cases z)];show wpAny _ _ (field (Value.ref it) 1>>=_) _ _ s;refine wpAny_bind (wpAny_field hob hdt (x:=Value.int i 0) rfl ?_);show wpAny _ _ (seqItems? (Value.ref t)>>=_) _ _ s;refine wpAny_bind (wpAny_seqItems hot hdtt ?_);simp only [hx,Int.toNat_natCast];refine wpAny_bind (wpAny_rule (wpAny_bind (wpAny_setField hob hdt (by simp) ?_)));show wpAny _ _ (newExc (Value.type "StopIteration") []>>=_) _ _ _;refine wpAny_bind ?_;simp only [newTuple,newExc];refine wpAny_bind (wpAny_newObj_type ?_ (by size_fits));refine wpAny_bind (m:=firstArgMember _ _) (wpAny_of_eq (a:=Value.none) (by first | rfl | (simp only [firstArgMember];rfl)) ?_);refine wpAny_newObj_type ?_ (by size_fits);simp only [raiseNew];refine wpAny_bind (wpAny_handled ?_)
  first | rw [show A.in1.handled=none from hh] | rw [hh]
  exact wpAny_bind (wpAny_pure (wpAny_throw (hE _ _ (((Heap.SameBut.update ..).extBut.push _).push _) ⟨_,Heap.get?_push_size _ rfl,rfl⟩)))
end
noncomputable def kz (h:Heap) (i l:Addr) (k:Nat) (xs:Array Value):Prop:=(h.IsListIter i l k/\h.IsList l xs)\/(h.IsTupleIter i l k/\h.IsTuple l xs)
section
variable {h h':Heap} {i l:Addr} {k:Nat} {xs:Array Value}
theorem kz.keep (x:kz h i l k xs) (hi:∀ o,h.get? i=some o->h'.get? i=some o) (hl:∀ o,h.get? l=some o->h'.get? l=some o):kz h' i l k xs:=by
  rcases x with ⟨⟨o,e,r⟩,⟨o',e',r'⟩⟩ | ⟨⟨o,e,r⟩,⟨o',e',r'⟩⟩
  · exact .inl ⟨⟨o,hi _ e,r⟩,⟨o',hl _ e',r'⟩⟩
  · exact .inr ⟨⟨o,hi _ e,r⟩,⟨o',hl _ e',r'⟩⟩
end
section
variable {prog:Program} {w:World} {A:Around} {E:Value->Shared->Prop} {s:Shared} {i l:Addr} {k:Nat} {xs:Array Value}
theorem uB {x:Value} {Q:Value->Shared->Prop} (it:kz s.heap i l k xs) (hne:l≠i) (hx:xs[k]?=some x) (hQ:∀ h',kz h' i l (k+1) xs->Heap.SameBut i s.heap h'->Q x { s with heap:=h' }) :
    wpAny (model prog w) A (Builtin.SmallTypes.nextOf (.ref i)) Q E s:=by
  rcases it with ⟨h1,h2⟩ | ⟨h1,h2⟩
  · exact wpAny_nextOf_list_item h1 h2 hx fun h' a b=>hQ h' (.inl ⟨a,h2.extBut b.extBut hne⟩) b
  · exact tD h1 h2 hx fun h' a b=>hQ h' (.inr ⟨a,h2.extBut b.extBut hne⟩) b
theorem k8 {Q:Value->Shared->Prop} (hh:A.handled=none) (it:kz s.heap i l k xs) (hx:xs[k]?=none)
    (hE:∀ h' e,Heap.ExtBut i s.heap h'->(∃ o,h'.get? e=some o/\o.cls=.type "StopIteration")->E (.ref e) { s with heap:=h' }):wpAny (model prog w) A (Builtin.SmallTypes.nextOf (.ref i)) Q E s:=by
  rcases it with ⟨h1,h2⟩ | ⟨h1,h2⟩
  · exact wpAny_nextOf_list_end hh h1 h2 hx hE
  · exact mU hh h1 h2 hx hE
noncomputable def tQ (h:Heap) (l:Addr) (xs:Array Value):Prop:=h.IsList l xs\/h.IsTuple l xs
end
structure ZA (z p q i j l m:Addr):Prop where
  pz:p≠z
  qz:q≠z
  iz:i≠z
  jz:j≠z
  pq:p≠q
  pi:p≠i
  pj:p≠j
  qi:q≠i
  qj:q≠j
  ij:i≠j
  lz:l≠z
  lq:l≠q
  li:l≠i
  lj:l≠j
  mz:m≠z
  mq:m≠q
  mi:m≠i
  mj:m≠j
structure yZ (h:Heap) (z p q i j l m:Addr) (f0:Value) (k:Nat) (xs ys:Array Value):Prop where
  zz:IsZip h z p q f0
  pp:IsPair h p (.ref i) (.ref j)
  qq:∃ a b,IsPair h q a b
  ii:kz h i l k xs
  jj:kz h j m k ys
section
variable {prog:Program} {w:World} {A:Around} {E:Value->Shared->Prop} {s:Shared} {z p q i j l m:Addr} {k:Nat} {xs ys:Array Value}
theorem wO {x y:Value} {Q:Value->Shared->Prop} (D:ZA z p q i j l m) (S:yZ s.heap z p q i j l m .none k xs ys) (hx:xs[k]?=some x) (hy:ys[k]?=some y)
    (hQ:∀ h',yZ h' z p q i j l m (rawInt s.heap.objs.size) (k+1) xs ys->IsPair h' s.heap.objs.size x y->(∀ c o,c≠z->c≠q->c≠i->c≠j->s.heap.get? c=some o->h'.get? c=some o)->Q (.ref s.heap.objs.size) { s with heap:=h' }) :
    wpAny (model prog w) A (Builtin.«zip.__next__» ⟨[.ref z],[]⟩) (fun fin s'=>∃ v,fin=.done (.ret v)/\Q v s') E s:=by
  obtain ⟨hz,hp,⟨a,b,hq⟩,hi,hj⟩:=S;show wpAny _ _ (field (Value.ref z) 2>>=_) _ _ _;refine wpAny_bind (wpAny_field hz rfl (x:=Value.bool false) rfl ?_);show wpAny _ _ (field (Value.ref z) 3>>=_) _ _ _;refine wpAny_bind (wpAny_field hz rfl (x:=Value.ref p) rfl ?_);refine wpAny_bind (wpAny_seqItems hp rfl ?_);show wpAny _ _ (Builtin.SmallTypes.ownedTupleIsFree (Value.ref z)>>=_) _ _ _;refine wpAny_bind ?_;unfold Builtin.SmallTypes.ownedTupleIsFree;refine wpAny_bind (wpAny_field hz rfl (x:=Value.none) rfl (wpAny_pure ?_));simp only [if_true];refine wpAny_bind (wpAny_rule ?_);refine wpAny_bind (wpAny_field hz rfl (x:=Value.ref q) rfl ?_);refine wpAny_bind (wpAny_setField_rec hz (by simp) fun g1 z1 s1=>?_);replace z1:IsZip g1 z p q .ellipsis:=z1;refine wpAny_bind ?_;simp only [List.zipIdx_cons,List.zipIdx_nil,List.forIn_cons,List.forIn_nil];refine wpAny_bind (wpAny_bind (wpAny_onRaise ?_));show wpAny _ _ (Builtin.SmallTypes.nextOf (Value.ref i)>>=_) _ _ _;have hi1:kz g1 i l k xs:=hi.keep (fun o e=>s1.extBut _ _ D.iz e) fun o e=>s1.extBut _ _ D.lz e
  refine wpAny_bind (uB hi1 D.li hx fun g2 i2 s2=>wpAny_pure ?_);have q2:IsPair g2 q a b:=s2.extBut _ _ D.qi (s1.extBut _ _ D.qz hq);refine wpAny_bind (wpAny_seqItems q2 rfl ?_);refine wpAny_bind (wpAny_updateSeq_pair q2 fun g3 q3 s3=>?_);replace q3:IsPair g3 q x b:=q3;refine wpAny_bind (wpAny_letGo (wpAny_pure ?_));refine wpAny_bind (wpAny_bind (wpAny_onRaise ?_));show wpAny _ _ (Builtin.SmallTypes.nextOf (Value.ref j)>>=_) _ _ _;have hj3:kz g3 j m k ys:=hj.keep (fun o e=>s3.extBut _ _ D.qj.symm (s2.extBut _ _ D.ij.symm (s1.extBut _ _ D.jz e))) fun o e=>s3.extBut _ _ D.mq (s2.extBut _ _ D.mi (s1.extBut _ _ D.mz e))
  refine wpAny_bind (uB hj3 D.mj hy fun g4 j4 s4=>wpAny_pure ?_);have q4:IsPair g4 q x b:=s4.extBut _ _ D.qj q3;refine wpAny_bind (wpAny_seqItems q4 rfl ?_);refine wpAny_bind (wpAny_updateSeq_pair q4 fun g5 q5 s5=>?_);replace q5:IsPair g5 q x y:=q5;refine wpAny_bind (wpAny_letGo (wpAny_pure (wpAny_pure ?_)));refine wpAny_bind (wpAny_seqItems q5 rfl ?_);refine wpAny_bind (wpAny_newTuple ?_);have hsz:g5.objs.size=s.heap.objs.size:=by rw [s5.1,s4.1,s3.1,s2.1,s1.1]
  have z5:IsZip g5 z p q .ellipsis:=s5.extBut _ _ D.qz.symm (s4.extBut _ _ D.jz.symm (s3.extBut _ _ D.qz.symm (s2.extBut _ _ D.iz.symm z1)));have k5:∀ c o,c≠z->c≠q->c≠i->c≠j->s.heap.get? c=some o->g5.get? c=some o:=fun c o c1 c2 c3 c4 e=>s5.extBut _ _ c2 (s4.extBut _ _ c4 (s3.extBut _ _ c2 (s2.extBut _ _ c3 (s1.extBut _ _ c1 e))))
  have i5:kz g5 i l (k+1) xs:=i2.keep (fun o e=>s5.extBut _ _ D.qi.symm (s4.extBut _ _ D.ij (s3.extBut _ _ D.qi.symm e))) fun o e=>s5.extBut _ _ D.lq (s4.extBut _ _ D.lj (s3.extBut _ _ D.lq e))
  have j5:kz g5 j m (k+1) ys:=j4.keep (fun o e=>s5.extBut _ _ D.qj.symm e) fun o e=>s5.extBut _ _ D.mq e
  have zlt:z < g5.objs.size:=Heap.lt_size z5;show wpAny _ _ (Builtin.SmallTypes.ownedTupleHandOut (Value.ref z) (Value.ref g5.objs.size)>>=_) _ _ _;refine wpAny_bind ?_;unfold Builtin.SmallTypes.ownedTupleHandOut;have z6:IsZip (g5.push { cls:=.type "tuple",data:=.seq #[x,y] }) z p q .ellipsis:=Heap.get?_push_of_some _ z5;refine wpAny_bind (wpAny_setField_rec z6 (by simp) fun g7 z7 s7=>?_);replace z7:IsZip g7 z p q (rawInt g5.objs.size):=z7;refine wpAny_setField_rec z7 (by simp) fun g8 z8 s8=>?_
  replace z8:IsZip g8 z p q (rawInt g5.objs.size):=z8;have up:∀ c o,c≠z->g5.get? c=some o->g8.get? c=some o:=fun c o c1 e=>s8.extBut _ _ c1 (s7.extBut _ _ c1 (Heap.get?_push_of_some _ e))
  have t8:IsPair g8 g5.objs.size x y:=s8.extBut _ _ (Nat.ne_of_gt zlt) (s7.extBut _ _ (Nat.ne_of_gt zlt) (Heap.get?_push_size _ rfl));rw [hsz] at z8 t8;refine wpAny_pure ⟨_,rfl,?_⟩;show Q (.ref g5.objs.size) _;rw [hsz];exact hQ g8 ⟨z8,up _ _ D.pz (k5 _ _ D.pz D.pq D.pi D.pj hp),⟨x,y,up _ _ D.qz q5⟩,i5.keep (fun o e=>up _ _ D.iz e) fun o e=>up _ _ D.lz e,j5.keep (fun o e=>up _ _ D.jz e) fun o e=>up _ _ D.mz e⟩ t8 fun c o c1 c2 c3 c4 e=>up c o c1 (k5 c o c1 c2 c3 c4 e)
theorem AT {Q:PySem.Fin->Shared->Prop} (hh:A.handled=none) (D:ZA z p q i j l m) (S:yZ s.heap z p q i j l m .none k xs ys) (hend:xs[k]?=none\/ys[k]?=none)
    (hE:∀ h' e,(∀ c o,c≠z->c≠q->c≠i->c≠j->s.heap.get? c=some o->h'.get? c=some o)->(∃ o,h'.get? e=some o/\o.cls=.type "StopIteration")->E (.ref e) { s with heap:=h' }) :
    wpAny (model prog w) A (Builtin.«zip.__next__» ⟨[.ref z],[]⟩) Q E s:=by
  obtain ⟨hz,hp,⟨a,b,hq⟩,hi,hj⟩:=S;show wpAny _ _ (field (Value.ref z) 2>>=_) _ _ _;refine wpAny_bind (wpAny_field hz rfl (x:=Value.bool false) rfl ?_);show wpAny _ _ (field (Value.ref z) 3>>=_) _ _ _;refine wpAny_bind (wpAny_field hz rfl (x:=Value.ref p) rfl ?_);refine wpAny_bind (wpAny_seqItems hp rfl ?_);show wpAny _ _ (Builtin.SmallTypes.ownedTupleIsFree (Value.ref z)>>=_) _ _ _;refine wpAny_bind ?_;unfold Builtin.SmallTypes.ownedTupleIsFree;refine wpAny_bind (wpAny_field hz rfl (x:=Value.none) rfl (wpAny_pure ?_));simp only [if_true];refine wpAny_bind (wpAny_rule ?_);refine wpAny_bind (wpAny_field hz rfl (x:=Value.ref q) rfl ?_);refine wpAny_bind (wpAny_setField_rec hz (by simp) fun g1 z1 s1=>?_);replace z1:IsZip g1 z p q .ellipsis:=z1;refine wpAny_bind ?_;simp only [List.zipIdx_cons,List.zipIdx_nil,List.forIn_cons,List.forIn_nil];refine wpAny_bind (wpAny_bind (wpAny_onRaise ?_));show wpAny _ _ (Builtin.SmallTypes.nextOf (Value.ref i)>>=_) _ _ _;have hi1:kz g1 i l k xs:=hi.keep (fun o e=>s1.extBut _ _ D.iz e) fun o e=>s1.extBut _ _ D.lz e
  cases hx:xs[k]? with
  | none =>
    refine wpAny_bind (k8 hh hi1 hx fun g2 e s2 he=>?_);obtain ⟨oe,hoe,hce⟩:=he;have z2:IsZip g2 z p q .ellipsis:=s2 _ _ D.iz.symm z1;have hez:e≠z:=fun t=>by subst t;rw [z2] at hoe;cases hoe;simp at hce
    exact wpAny_setField_rec z2 (by simp) fun g3 _ s3=>hE g3 e (fun c o c1 _ c3 _ t=>s3.extBut _ _ c1 (s2 _ _ c3 (s1.extBut _ _ c1 t))) ⟨oe,s3.extBut _ _ hez hoe,hce⟩
  | some x =>
    have hy:ys[k]?=none:=by rcases hend with t | t;rw [hx] at t;cases t;exact t
    refine wpAny_bind (uB hi1 D.li hx fun g2 i2 s2=>wpAny_pure ?_);have q2:IsPair g2 q a b:=s2.extBut _ _ D.qi (s1.extBut _ _ D.qz hq);refine wpAny_bind (wpAny_seqItems q2 rfl ?_);refine wpAny_bind (wpAny_updateSeq_pair q2 fun g3 q3 s3=>?_);refine wpAny_bind (wpAny_letGo (wpAny_pure ?_));refine wpAny_bind (wpAny_bind (wpAny_onRaise ?_));show wpAny _ _ (Builtin.SmallTypes.nextOf (Value.ref j)>>=_) _ _ _;have hj3:kz g3 j m k ys:=hj.keep (fun o e=>s3.extBut _ _ D.qj.symm (s2.extBut _ _ D.ij.symm (s1.extBut _ _ D.jz e))) fun o e=>s3.extBut _ _ D.mq (s2.extBut _ _ D.mi (s1.extBut _ _ D.mz e))
    refine wpAny_bind (k8 hh hj3 hy fun g4 e s4 he=>?_);obtain ⟨oe,hoe,hce⟩:=he;have z4:IsZip g4 z p q .ellipsis:=s4 _ _ D.jz.symm (s3.extBut _ _ D.qz.symm (s2.extBut _ _ D.iz.symm z1));have hez:e≠z:=fun t=>by subst t;rw [z4] at hoe;cases hoe;simp at hce
    exact wpAny_setField_rec z4 (by simp) fun g5 _ s5=>hE g5 e (fun c o c1 c2 c3 c4 t=>s5.extBut _ _ c1 (s4 _ _ c4 (s3.extBut _ _ c2 (s2.extBut _ _ c3 (s1.extBut _ _ c1 t))))) ⟨oe,s5.extBut _ _ hez hoe,hce⟩
theorem tq {x y:Value} {Q:Option Value->Shared->Prop} (D:ZA z p q i j l m) (S:yZ s.heap z p q i j l m .none k xs ys) (hx:xs[k]?=some x) (hy:ys[k]?=some y)
    (hQ:∀ h',yZ h' z p q i j l m (rawInt s.heap.objs.size) (k+1) xs ys->IsPair h' s.heap.objs.size x y->(∀ c o,c≠z->c≠q->c≠i->c≠j->s.heap.get? c=some o->h'.get? c=some o)->Q (some (.ref s.heap.objs.size)) { s with heap:=h' }) :
    wpAny (model prog w) A (pyNext (.ref z)) Q E s:=by
  have hT:s.TypeIs (.ref z) "zip" := ⟨_,S.zz,rfl⟩
  unfold pyNext;exact wpAny_bind (wpAny_attempt (wpAny_callSpecial?_slot (name:=Str.ofString "__next__") hT F.slot_zip_next (wpAny_call_entry F.slot_zip_next hT F.entry_zip_next (wO D S hx hy fun h' a b c=>wpAny_pure (hQ h' a b c)) (F.args_zip_next_1 _))))
theorem ve {Q:Option Value->Shared->Prop} (hh:A.handled=none) (D:ZA z p q i j l m) (S:yZ s.heap z p q i j l m .none k xs ys) (hend:xs[k]?=none\/ys[k]?=none)
    (hQ:∀ h',(∀ c o,c≠z->c≠q->c≠i->c≠j->s.heap.get? c=some o->h'.get? c=some o)->Q none { s with heap:=h' }):wpAny (model prog w) A (pyNext (.ref z)) Q E s:=by
  have hT:s.TypeIs (.ref z) "zip" := ⟨_,S.zz,rfl⟩
  unfold pyNext;refine wpAny_bind (wpAny_attempt (wpAny_callSpecial?_slot (name:=Str.ofString "__next__") hT F.slot_zip_next (wpAny_call_entry F.slot_zip_next hT F.entry_zip_next (AT hh D S hend fun h' e hk he=>?_) (F.args_zip_next_1 _))));obtain ⟨o,ho,hc⟩:=he;exact wpAny_bind (wpAny_isInstance (T := "StopIteration") (b:=true) ⟨o,ho,hc⟩ isSubtype_stop (wpAny_pure (hQ _ hk)))
theorem zT (l m:Addr) (xs ys:Array Value):Meets (Builtin.«zip.__new__» ⟨[.type "zip",.ref l,.ref m],[]⟩) (fun _ R s=>tQ s.heap l xs/\tQ s.heap m ys /\
    ∀ h',h'.objs.size=s.heap.objs.size+5->yZ h' (s.heap.objs.size+4) (s.heap.objs.size+2) (s.heap.objs.size+3) s.heap.objs.size (s.heap.objs.size+1) l m .none 0 xs ys->(∀ c o,s.heap.get? c=some o->h'.get? c=some o) ->
      R (.ok (.ret (.ref (s.heap.objs.size+4)))) { s with heap:=h' }) :=
  .of_wp fun prog w A R s h=>by
    obtain ⟨hp,g,d,tk,os⟩:=s;obtain ⟨h1,h2,h⟩:=h;have hsub:=sub_zip;have fin:∀ (oi oj:Obj),kz (hp.push oi) hp.objs.size l 0 xs->kz ((hp.push oi).push oj) (hp.push oi).objs.size m 0 ys ->
        R (.ok (.ret (.ref ((((hp.push oi).push oj).push { cls:=.type "tuple",data:=.seq #[.ref hp.objs.size,.ref (hp.push oi).objs.size] }).push { cls:=.type "tuple",data:=.seq #[.none,.none] }).objs.size)))
          ⟨((((hp.push oi).push oj).push { cls:=.type "tuple",data:=.seq #[.ref hp.objs.size,.ref (hp.push oi).objs.size] }).push { cls:=.type "tuple",data:=.seq #[.none,.none] }).push { cls:=.type "zip",data:=.fields #[.none,.bool false,.bool false,.ref ((hp.push oi).push oj).objs.size,.ref (((hp.push oi).push oj).push { cls:=.type "tuple",data:=.seq #[.ref hp.objs.size,.ref (hp.push oi).objs.size] }).objs.size] },g,d,tk,os⟩:=fun oi oj hi hj=>by
      have e1:(hp.push oi).objs.size=hp.objs.size+1:=Heap.size_push ..;have e2:((hp.push oi).push oj).objs.size=hp.objs.size+2:=by rw [Heap.size_push,e1]
      have e3:(((hp.push oi).push oj).push { cls:=.type "tuple",data:=.seq #[.ref hp.objs.size,.ref (hp.push oi).objs.size] }).objs.size=hp.objs.size+3:=by rw [Heap.size_push,e2]
      have e4:((((hp.push oi).push oj).push { cls:=.type "tuple",data:=.seq #[.ref hp.objs.size,.ref (hp.push oi).objs.size] }).push { cls:=.type "tuple",data:=.seq #[.none,.none] }).objs.size=hp.objs.size+4:=by rw [Heap.size_push,e3]
      rw [e4,e3,e2];rw [e1] at hj ⊢;have kk:∀ (c:Addr) (o a b c':Obj),((hp.push oi).push oj).get? c=some o->(((((hp.push oi).push oj).push a).push b).push c').get? c=some o:=fun c o a b c' e=>Heap.get?_push_of_some _ (Heap.get?_push_of_some _ (Heap.get?_push_of_some _ e))
      refine h _ (by rw [Heap.size_push,Heap.size_push,Heap.size_push,e2]) ⟨?_,?_,⟨.none,.none,?_⟩,?_,?_⟩ fun c o e=>kk _ _ _ _ _ (Heap.get?_push_of_some _ (Heap.get?_push_of_some _ e))
      · have:hp.objs.size+4=((((hp.push oi).push oj).push { cls:=.type "tuple",data:=.seq #[.ref hp.objs.size,.ref (hp.objs.size+1)] }).push { cls:=.type "tuple",data:=.seq #[.none,.none] }).objs.size:=by rw [Heap.size_push,Heap.size_push,e2]
        show Heap.get? _ (hp.objs.size+4)=_;rw [this];exact Heap.get?_push_size _ rfl
      · refine Heap.get?_push_of_some _ (Heap.get?_push_of_some _ ?_);show Heap.get? _ (hp.objs.size+2)=_;rw [<- e2];exact Heap.get?_push_size _ rfl
      · refine Heap.get?_push_of_some _ ?_;have:hp.objs.size+3=(((hp.push oi).push oj).push { cls:=.type "tuple",data:=.seq #[.ref hp.objs.size,.ref (hp.objs.size+1)] }).objs.size:=by rw [Heap.size_push,e2]
        show Heap.get? _ (hp.objs.size+3)=_;rw [this];exact Heap.get?_push_size _ rfl
      · exact hi.keep (fun o e=>kk _ _ _ _ _ (Heap.get?_push_of_some _ e)) fun o e=>kk _ _ _ _ _ (Heap.get?_push_of_some _ e)
      · exact hj.keep (fun o e=>kk _ _ _ _ _ e) fun o e=>kk _ _ _ _ _ e
    rcases h1 with h1 | h1 <;> rcases h2 with h2 | h2
    · have l1:Heap.IsList (Shared.heap ⟨hp,g,d,tk,os⟩) l xs:=h1;have l2:Heap.IsList (Shared.heap ⟨hp.push { cls:=.type "list_iterator",data:=.fields #[.ref l,.int 0 0] },g,d,tk,os⟩) m ys:=Heap.IsList.push h2 _
      wp_walk using wpAny_pyIter_list l1,wpAny_pyIter_list l2
      exact ⟨_,rfl,fin _ _ (.inl ⟨⟨_,Heap.get?_push_size _ rfl,rfl,rfl⟩,Heap.IsList.push h1 _⟩) (.inl ⟨⟨_,Heap.get?_push_size _ rfl,rfl,rfl⟩,Heap.IsList.push l2 _⟩)⟩
    · have l1:Heap.IsList (Shared.heap ⟨hp,g,d,tk,os⟩) l xs:=h1;have l2:Heap.IsTuple (Shared.heap ⟨hp.push { cls:=.type "list_iterator",data:=.fields #[.ref l,.int 0 0] },g,d,tk,os⟩) m ys:=Heap.IsTuple.push h2 _
      wp_walk using wpAny_pyIter_list l1,wpAny_pyIter_tuple l2
      exact ⟨_,rfl,fin _ _ (.inl ⟨⟨_,Heap.get?_push_size _ rfl,rfl,rfl⟩,Heap.IsList.push h1 _⟩) (.inr ⟨⟨_,Heap.get?_push_size _ rfl,rfl,rfl⟩,Heap.IsTuple.push l2 _⟩)⟩
    · have l1:Heap.IsTuple (Shared.heap ⟨hp,g,d,tk,os⟩) l xs:=h1;have l2:Heap.IsList (Shared.heap ⟨hp.push { cls:=.type "tuple_iterator",data:=.fields #[.ref l,.int 0 0] },g,d,tk,os⟩) m ys:=Heap.IsList.push h2 _
      wp_walk using wpAny_pyIter_tuple l1,wpAny_pyIter_list l2
      exact ⟨_,rfl,fin _ _ (.inr ⟨⟨_,Heap.get?_push_size _ rfl,rfl,rfl⟩,Heap.IsTuple.push h1 _⟩) (.inl ⟨⟨_,Heap.get?_push_size _ rfl,rfl,rfl⟩,Heap.IsList.push l2 _⟩)⟩
    · have l1:Heap.IsTuple (Shared.heap ⟨hp,g,d,tk,os⟩) l xs:=h1;have l2:Heap.IsTuple (Shared.heap ⟨hp.push { cls:=.type "tuple_iterator",data:=.fields #[.ref l,.int 0 0] },g,d,tk,os⟩) m ys:=Heap.IsTuple.push h2 _
      wp_walk using wpAny_pyIter_tuple l1,wpAny_pyIter_tuple l2
      exact ⟨_,rfl,fin _ _ (.inr ⟨⟨_,Heap.get?_push_size _ rfl,rfl,rfl⟩,Heap.IsTuple.push h1 _⟩) (.inr ⟨⟨_,Heap.get?_push_size _ rfl,rfl,rfl⟩,Heap.IsTuple.push l2 _⟩)⟩
theorem xi {Q:Value->Shared->Prop} {l m:Addr} (h1:tQ s.heap l xs) (h2:tQ s.heap m ys)
    (h:∀ h',h'.objs.size=s.heap.objs.size+5->yZ h' (s.heap.objs.size+4) (s.heap.objs.size+2) (s.heap.objs.size+3) s.heap.objs.size (s.heap.objs.size+1) l m .none 0 xs ys->(∀ c o,s.heap.get? c=some o->h'.get? c=some o) ->
      Q (.ref (s.heap.objs.size+4)) { s with heap:=h' }):wpAny (model prog w) A (call (.type "zip") [.ref l,.ref m]) Q E s:=by
  refine callType_new F.called_zip (by decide) (F.typeCall_zip_2 _ _) (F.newCall_zip_2 _ _) (fun obj=>F.args_object_init_3 obj _ _) F.entry_zip_new (zT l m xs ys) ⟨h1,h2,fun h' e S k=>?_⟩;exact ⟨⟨_,S.zz,rfl⟩,h h' e S k⟩
end
section
variable {X:Cx} {pins:List (Addr×Obj)} {σ:St} {H:Hp} {s:Shared} {h':Heap}
theorem iI {t':Nat} {fp:List Addr} (I:aF X pins σ H s) (k:∀ b o,b∉fp->s.heap.get? b=some o->h'.get? b=some o) (hf:∀ b∈fp,lK X pins H b):aF X pins σ H { s with heap:=h',toks:=t' }:=by
  have away:∀ b u,H b=some u->b∉fp:=fun b u e z=>by rw [(hf b z).1] at e;cases e
  have frame:X.env.locals∉fp:=fun z=>(hf _ z).2.1 rfl
  refine I.step (g':=s.gens) (d':=s.drawn) (ch:=fp) (fun b hb=>⟨(hf b hb).2.2.2.1,(hf b hb).2.1,(hf b hb).2.2.2.2.1,(hf b hb).2.2.2.2.2⟩) (fun b o _ _ hc e _=>k b o hc e) (fun b o _ _ hc e _=>⟨o.slots,k b o hc e⟩) (fun _ _ _ _ n=>n)
    (fun b o hc e=>⟨o,k b o hc e⟩) (fun _ _ e=>e) (fun _ _ _ e=>e) (fun b ps e=>⟨#[],by rw [e];simp⟩) (fun m ⟨o,es,ep,ho,r⟩=>⟨o,es,ep,k _ o frame ho,r⟩) (fun b u e=>?_) I.bare
  refine (I.hok b u e).stay (fun c v hc q=>k c v ?_ q) (fun _ q=>q) fun _ _ q=>q
  rcases hc with z | z
  · rw [z];exact away b u e
  · exact away c _ z
theorem xZ {h:Heap} {o o':Obj} {b:Addr} (hb:b≠h.objs.size) (e:(h.push o).get? b=some o'):h.get? b=some o':=by
  unfold Heap.get? Heap.push at e;unfold Heap.get?;simp only [Array.getElem?_push] at e;rw [if_neg hb] at e;exact e
theorem uQ {t':Nat} {fp:List Addr} {u1 u2:Value} {v1 v2:V} (I:aF X pins σ H s) (hf:∀ b∈fp,lK X pins H b) (hob:∀ b∈fp,b < s.heap.objs.size) (ht:IsPair h' s.heap.objs.size u1 u2) (k:∀ b o,b∉fp->s.heap.get? b=some o->h'.get? b=some o)
    (r1:bL v1 u1) (r2:bL v2 u2):aF X pins σ (cA H s.heap.objs.size (.tup [v1,v2])) { s with heap:=h',toks:=t' }:=by
  have I1:aF X pins σ (cA H s.heap.objs.size (.tup [v1,v2])) { s with heap:=s.heap.push { cls:=.type "tuple",data:=.seq #[u1,u2] },toks:=s.toks } :=
    I.laid (fun b u e=>Heap.get?_push_of_some _ e) (Nat.le_refl _) ⟨by show 2<=sizeLine;decide,[u1,u2],.cons r1 (.cons r2 .nil),_,Heap.get?_push_size _ rfl,rfl,_,rfl⟩
  refine iI (fp:=fp) (s:={ s with heap:=s.heap.push { cls:=.type "tuple",data:=.seq #[u1,u2] },toks:=s.toks }) I1 (fun b o hb e=>?_) fun b hb=>?_
  · by_cases hz:b=s.heap.objs.size
    · subst hz;have e':(s.heap.push { cls:=.type "tuple",data:=.seq #[u1,u2] }).get? s.heap.objs.size=some o:=e;rw [Heap.get?_push_size _ rfl] at e';cases e';exact ht
    · exact k b o hb (xZ hz e)
  · obtain ⟨f0,f1,f2,f3,f4,f5⟩:=hf b hb;exact ⟨by rw [ar (Nat.ne_of_lt (hob b hb))];exact f0,f1,f2,f3,f4,f5⟩
end
noncomputable def rQ (K:PySem.W.Frag) (H:Hp) (a:Addr) (xs:List V):Bool->Prop
  | true=>gh K H a xs
  | false=>kx K H a xs
noncomputable def fN (h:Heap) (i l:Addr) (k:Nat):Bool->Prop
  | true=>h.IsTupleIter i l k
  | false=>h.IsListIter i l k
theorem fN.keep {h h':Heap} {i l:Addr} {k:Nat} {b:Bool} (x:fN h i l k b) (hi:∀ o,h.get? i=some o->h'.get? i=some o):fN h' i l k b:=by
  cases b
  · obtain ⟨o,e,r⟩:=x;exact ⟨o,hi _ e,r⟩
  · obtain ⟨o,e,r⟩:=x;exact ⟨o,hi _ e,r⟩
theorem fN.there {h:Heap} {i l:Addr} {k:Nat} {b:Bool} (x:fN h i l k b):∃ o,h.get? i=some o/\∀ v,o.data≠.cell v:=by
  cases b
  · obtain ⟨o,e,c,d⟩:=x;exact ⟨o,e,fun v z=>by rw [d] at z;cases z⟩
  · obtain ⟨o,e,c,d⟩:=x;exact ⟨o,e,fun v z=>by rw [d] at z;cases z⟩
section
variable {X:Cx} {pins:List (Addr×Obj)} {σ:St} {H:Hp} {s:Shared}
theorem h8 {a:Addr} {xs:List V} {b:Bool} (I:aF X pins σ H s) (h:rQ X.K H a xs b):∃ its:List Value,bB xs its/\tQ s.heap a its.toArray/\∀ (i:Addr) (k:Nat),fN s.heap i a k b->kz s.heap i a k its.toArray:=by
  cases b
  · obtain ⟨its,rv,p,_⟩:=I.list h;exact ⟨its,rv,.inl p.isList,fun i k z=>.inl ⟨z,p.isList⟩⟩
  · obtain ⟨its,rv,p,_⟩:=I.tuple h;exact ⟨its,rv,.inr p,fun i k z=>.inr ⟨z,p⟩⟩
theorem jK {a:Addr} {xs ys:List V} {b:Bool} (I:aF X pins σ H s) (h:rQ X.K H a xs b) (h':rQ X.K H a ys b):ys=xs:=by
  cases b
  · exact I.list_inj h' h
  · exact I.tuple_inj h' h
theorem kz.toB {h:Heap} {i l:Addr} {k:Nat} {xs:Array Value} {b:Bool} (hl:∀ ys,(b=true->¬ h.IsList l ys)/\(b=false->¬ h.IsTuple l ys)) (x:kz h i l k xs):fN h i l k b:=by
  cases b
  · rcases x with ⟨z,w⟩ | ⟨z,w⟩
    · exact z
    · exact absurd w ((hl xs).2 rfl)
  · rcases x with ⟨z,w⟩ | ⟨z,w⟩
    · exact absurd w ((hl xs).1 rfl)
    · exact z
theorem dC {h:Heap} {l:Addr} {xs ys:Array Value} (a:h.IsList l xs) (b:h.IsTuple l ys):False:=by
  obtain ⟨o,e,c,_⟩:=a;obtain ⟨o',e',c',_⟩:=b;rw [e] at e';cases e';rw [c] at c';injection c' with z
  exact absurd z (by decide)
theorem nJ {a:Addr} {xs:List V} {b:Bool} (I:aF X pins σ H s) (h:rQ X.K H a xs b) {h':Heap} (kp:∀ c o,s.heap.get? c=some o->h'.get? c=some o):∀ ys,(b=true->¬ h'.IsList a ys)/\(b=false->¬ h'.IsTuple a ys):=fun ys=>by
  cases b
  · obtain ⟨its,rv,p,_⟩:=I.list h;refine ⟨fun z=>(by cases z),fun _ w=>?_⟩;obtain ⟨o,e,r⟩:=p.isList;exact dC (h:=h') (xs:=its.toArray) ⟨o,kp _ _ e,r⟩ w
  · obtain ⟨its,rv,p,_⟩:=I.tuple h;refine ⟨fun _ w=>?_,fun z=>by cases z⟩;obtain ⟨o,e,r⟩:=p;exact dC (h:=h') w ⟨o,kp _ _ e,r⟩
end
noncomputable def ER (K:PySem.W.Frag) (l m:Addr) (b c:Bool):It :=
  ⟨fun i H=>∃ xs ys x y,rQ K H l xs b/\rQ K H m ys c/\xs[i]?=some x/\ys[i]?=some y,
   fun i H v H'=>∃ a x y,H a=none/\v=.ref a/\H'=cA H a (.tup [x,y])/\(∀ xs,rQ K H l xs b->xs[i]?=some x)/\∀ ys,rQ K H m ys c->ys[i]?=some y,
   fun i H=>∃ xs ys,rQ K H l xs b/\rQ K H m ys c/\(xs.length<=i\/ys.length<=i)⟩
structure FF (z p q i j l m:Addr) (b c:Bool) (k:Nat) (h:Heap):Prop where
  zz:IsZip h z p q .none
  pp:IsPair h p (.ref i) (.ref j)
  qq:∃ a b,IsPair h q a b
  ii:fN h i l k b
  jj:fN h j m k c
theorem xT {P:Program} {w:World} {K:PySem.W.Frag} {elts:List Expr} {x1} {pos:Pos} {z p q i j l m:Addr} {b c:Bool} (D:ZA z p q i j l m):rd P w K (.Tuple elts x1 pos) (ER K l m b c) [z,p,q,i,j] z (FF z p q i j l m b c) where
  mem:=by simp
  obj:=fun k h st a ha=>by
    simp only [List.mem_cons,List.not_mem_nil,or_false] at ha;rcases ha with rfl | rfl | rfl | rfl | rfl
    · exact ⟨_,st.zz,fun v e=>by cases e⟩
    · exact ⟨_,st.pp,fun v e=>by cases e⟩
    · obtain ⟨_,_,e⟩:=st.qq;exact ⟨_,e,fun v e=>by cases e⟩
    · exact st.ii.there
    · exact st.jj.there
  keep:=fun k h h' st kp=>⟨kp z (by simp) _ st.zz,kp p (by simp) _ st.pp,let ⟨a,b,e⟩:=st.qq;⟨a,b,kp q (by simp) _ e⟩,st.ii.keep fun o e=>kp i (by simp) o e,st.jj.keep fun o e=>kp j (by simp) o e⟩
  item:=by
    intro X hP hw hK hc k pins s σ H E I hf st hg;subst hP hw hK;obtain ⟨xs,ys,x,y,h1,h2,hx,hy⟩:=hg;obtain ⟨its,rv,_,p1⟩:=h8 I h1;obtain ⟨jts,rw',_,p2⟩:=h8 I h2;obtain ⟨u,hu,ru⟩:=rv.get hx;obtain ⟨v,hv,ry⟩:=rw'.get hy;have S:yZ s.heap z p q i j l m .none k its.toArray jts.toArray:=⟨st.zz,st.pp,st.qq,p1 _ _ st.ii,p2 _ _ st.jj⟩
    refine tq D S (x:=u) (y:=v) (by simpa using hu) (by simpa using hv) fun h' S' hp kp=>⟨_,rfl,?_⟩
    have zlt:z < s.heap.objs.size:=Heap.lt_size st.zz;refine wpAny_letOwnedTupleGo_zip (s:={ s with heap:=h' }) S'.zz fun h2' hz2 sb=>?_
    have up:∀ a o,a≠z->h'.get? a=some o->h2'.get? a=some o:=fun a o ha e=>sb.extBut a o ha e
    have hob:∀ a∈[z,p,q,i,j],a < s.heap.objs.size:=fun a ha=>by
      simp only [List.mem_cons,List.not_mem_nil,or_false] at ha;rcases ha with rfl | rfl | rfl | rfl | rfl
      · exact Heap.lt_size st.zz
      · exact Heap.lt_size st.pp
      · obtain ⟨_,_,e⟩:=st.qq;exact Heap.lt_size e
      · obtain ⟨o,e,_⟩:=st.ii.there;exact Heap.lt_size e
      · obtain ⟨o,e,_⟩:=st.jj.there;exact Heap.lt_size e
    have hn:H s.heap.objs.size=none:=I.hok.fresh (Nat.le_refl _);refine ⟨.ref s.heap.objs.size,_,uQ (s:=s) (t':=s.toks) (fp:=[z,p,q,i,j]) (h':=h2') (u1:=u) (u2:=v) (v1:=x) (v2:=y) I hf hob (up _ _ (Nat.ne_of_gt zlt) hp) (fun a o ha e=>?_) ru ry,rfl,⟨_,x,y,hn,rfl,rfl,fun zs hz=>by rw [jK I h1 hz];exact hx,fun zs hz=>by rw [jK I h2 hz];exact hy⟩,?_,fun a ha=>?_⟩
    · simp only [List.mem_cons,List.not_mem_nil,or_false,not_or] at ha;exact up a o ha.1 (kp a o ha.1 ha.2.2.1 ha.2.2.2.1 ha.2.2.2.2 e)
    · have i2:fN h' i l (k+1) b:=by
        refine S'.ii.toB fun ys=>?_
        cases hb:b
        · subst hb;refine ⟨fun z=>(by cases z),fun _ w=>?_⟩;obtain ⟨_,_,pl,_⟩:=I.list h1;obtain ⟨o,e,r⟩:=pl.isList;exact dC (h:=h') (xs:=_) ⟨o,kp _ _ D.lz D.lq D.li D.lj e,r⟩ w
        · subst hb;refine ⟨fun _ w=>?_,fun z=>by cases z⟩;obtain ⟨_,_,pl,_⟩:=I.tuple h1;obtain ⟨o,e,r⟩:=pl;exact dC (h:=h') w ⟨o,kp _ _ D.lz D.lq D.li D.lj e,r⟩
      have j2:fN h' j m (k+1) c:=by
        refine S'.jj.toB fun ys=>?_
        cases hb:c
        · subst hb;refine ⟨fun z=>(by cases z),fun _ w=>?_⟩;obtain ⟨_,_,pl,_⟩:=I.list h2;obtain ⟨o,e,r⟩:=pl.isList;exact dC (h:=h') (xs:=_) ⟨o,kp _ _ D.mz D.mq D.mi D.mj e,r⟩ w
        · subst hb;refine ⟨fun _ w=>?_,fun z=>by cases z⟩;obtain ⟨_,_,pl,_⟩:=I.tuple h2;obtain ⟨o,e,r⟩:=pl;exact dC (h:=h') w ⟨o,kp _ _ D.mz D.mq D.mi D.mj e,r⟩
      exact ⟨hz2,up _ _ D.pz S'.pp,let ⟨a,b,e⟩:=S'.qq;⟨a,b,up _ _ D.qz e⟩,i2.keep fun o e=>up _ _ D.iz e,j2.keep fun o e=>up _ _ D.jz e⟩
    · rw [ar (Nat.ne_of_lt (hob a ha))];exact (hf a ha).1
  done:=by
    intro X hP hw hK hc k pins s σ H E I hf st hg;subst hP hw hK;obtain ⟨xs,ys,h1,h2,hl⟩:=hg;obtain ⟨its,rv,_,p1⟩:=h8 I h1;obtain ⟨jts,rw',_,p2⟩:=h8 I h2;have S:yZ s.heap z p q i j l m .none k its.toArray jts.toArray:=⟨st.zz,st.pp,st.qq,p1 _ _ st.ii,p2 _ _ st.jj⟩
    have e1:=rv.length;have e2:=rw'.length;refine ve (I.ok.hd hc) D S ?_ fun h' kp=>⟨rfl,iI (t':=s.toks) (fp:=[z,p,q,i,j]) I (fun a o ha e=>?_) hf⟩
    · rcases hl with hl | hl
      · left;simp;omega
      · right;simp;omega
    · simp only [List.mem_cons,List.not_mem_nil,or_false,not_or] at ha;exact kp a o ha.1 ha.2.2.1 ha.2.2.2.1 ha.2.2.2.2 e
  self:=fun _ _ _ _ _ st h=>wpAny_pyIter_zip st.zz h
noncomputable def Al (H:Hp) (a:Addr) (ds:List PyData):Bool->Prop
  | true=>∃ vs,H a=some (.tup vs)/\bz H ds vs
  | false=>∃ o vs,H a=some (.frz o (.lst vs))/\bz H ds vs
theorem Al.sq {K:PySem.W.Frag} {H:Hp} {a:Addr} {ds:List PyData} {b:Bool} (h:Al H a ds b):∃ vs,rQ K H a vs b/\bz H ds vs:=by
  cases b
  · obtain ⟨o,vs,e,r⟩:=h;exact ⟨vs,.inl (.inr ⟨o,e⟩),r⟩
  · obtain ⟨vs,e,r⟩:=h;exact ⟨vs,gh.of e,r⟩
theorem Al.kp {H H':Hp} {a:Addr} {ds:List PyData} {b:Bool} (h:Al H a ds b) (k:Kp H H'):Al H' a ds b:=by
  cases b
  · obtain ⟨o,vs,e,r⟩:=h;exact ⟨o,vs,k.2 _ _ _ e,bz.kp k _ _ r⟩
  · obtain ⟨vs,e,r⟩:=h;exact ⟨vs,k.1 _ _ e,bz.kp k _ _ r⟩
noncomputable def Ec (p:PyData×PyData):PyData:=.tuple [p.1,p.2]
noncomputable def lC (xs ys:List PyData):List PyData:=(xs.zip ys).map Ec
theorem w9 {xs ys:List PyData} {i:Nat} {d:PyData} (h:(lC xs ys)[i]?=some d):∃ x y,xs[i]?=some x/\ys[i]?=some y/\d=.tuple [x,y]:=by
  unfold lC at h;rw [List.getElem?_map] at h;cases e:(xs.zip ys)[i]? with
  | none=>rw [e] at h;cases h
  | some p =>
    rw [e] at h;obtain ⟨h1,h2⟩:=List.getElem?_zip_eq_some.mp e;exact ⟨p.1,p.2,h1,h2,(Option.some.inj h).symm⟩
theorem mM (xs ys:List PyData):(lC xs ys).length=min xs.length ys.length:=by unfold lC;simp
theorem AC {K:PySem.W.Frag} {l m:Addr} {b c:Bool} {xs ys:List PyData}:zc (ER K l m b c) (fun H=>Al H l xs b/\Al H m ys c) (lC xs ys) where
  go:=fun i H ⟨h1,h2⟩ hi=>by
    rw [mM] at hi;obtain ⟨vs,s1,r1⟩:=h1.sq (K:=K);obtain ⟨us,s2,r2⟩:=h2.sq (K:=K);obtain ⟨x,hx,_⟩:=r1.get (List.getElem?_eq_getElem (show i < xs.length by omega));obtain ⟨y,hy,_⟩:=r2.get (List.getElem?_eq_getElem (show i < ys.length by omega));exact ⟨vs,us,x,y,s1,s2,hx,hy⟩
  yld:=fun i H v H' d ⟨h1,h2⟩ hd h=>by
    obtain ⟨a,x,y,ha,rfl,rfl,k1,k2⟩:=h;obtain ⟨vs,s1,r1⟩:=h1.sq (K:=K);obtain ⟨us,s2,r2⟩:=h2.sq (K:=K);obtain ⟨dx,dy,e1,e2,rfl⟩:=w9 hd;obtain ⟨x',hx,px⟩:=r1.get e1;obtain ⟨y',hy,py⟩:=r2.get e2;have q1:=k1 vs s1;have q2:=k2 us s2;rw [hx] at q1;rw [hy] at q2;cases q1;cases q2;exact ⟨cq ha _,dA ha (bz.cons px (bz.cons py bz.nil))⟩
  stop:=fun i H ⟨h1,h2⟩ hi=>by
    rw [mM] at hi;obtain ⟨vs,s1,r1⟩:=h1.sq (K:=K);obtain ⟨us,s2,r2⟩:=h2.sq (K:=K);have l1:=r1.length;have l2:=r2.length;exact ⟨vs,us,s1,s2,by omega⟩
theorem Ck {n l m:Nat} (hl:l < n) (hm:m < n):ZA (n+4) (n+2) (n+3) n (n+1) l m:=by
  refine ⟨?_,?_,?_,?_,?_,?_,?_,?_,?_,?_,?_,?_,?_,?_,?_,?_,?_,?_⟩ <;> (intro z;have z':(_:Nat)=_:=z;omega)
section
variable {X:Cx} {elts:List Expr} {x1:Nat} {tp:Pos} {a b:Expr} {fa fb:Fe} {pos p:Pos} {nl:Nat} {G:List Str} {fs:aS->R (List PyData)}
noncomputable def FI (K:PySem.W.Frag) (ta:TA):TI:=fun σ H R=>ta σ H fun vs H1=>∃ l m xs ys b c,vs=[.ref l,.ref m]/\rQ K H1 l xs b/\rQ K H1 m ys c/\R (ER K l m b c) H1
theorem BR {ta:TA} (hg:Gl X "zip") (hm:X.mg "zip" = none) (ha:PA X [a,b] ta) (hs:starEach [a,b] X.env=[(false,eval a X.env),(false,eval b X.env)]) (hs2:starEach [b] X.env=[(false,eval b X.env)]) :
    PI X (.Tuple elts x1 tp) (.Call (.Name "zip" p) [a,b] [] pos) (FI X.K ta):=by
  intro pins s σ H R I h;refine Call_ (ie I hg hm boot_zip (PyProof.Rows.callWith_type1 (df (ha pos pins s σ H _ I h) fun us s1 ⟨vs,H1,I1,r1,q1⟩=>?_) (by rw [hs,hs2]) (by rw [hs2];rfl)));obtain ⟨l,m,xs,ys,b,c,e,h1,h2,q⟩:=q1;subst e;obtain ⟨u,v,rfl,ru,rv⟩:=uF r1;cases ru;cases rv;obtain ⟨its,w1,p1,g1⟩:=h8 I1 h1;obtain ⟨jts,w2,p2,g2⟩:=h8 I1 h2;have ll:l < s1.heap.objs.size:=by rcases p1 with ⟨o,e,_⟩ | ⟨o,e,_⟩ <;> exact Heap.lt_size e
  have lm:m < s1.heap.objs.size:=by rcases p2 with ⟨o,e,_⟩ | ⟨o,e,_⟩ <;> exact Heap.lt_size e
  refine xi p1 p2 fun h' hz S kp=>wpAny_pyIter_zip S.zz ?_
  have D:=Ck ll lm;have I2:aF X pins σ H1 { s1 with heap:=h' }:=I1.kept (t':=s1.toks) kp;have i2:fN h' s1.heap.objs.size l 0 b:=S.ii.toB (nJ I1 h1 kp);have j2:fN h' (s1.heap.objs.size+1) m 0 c:=S.jj.toB (nJ I1 h2 kp);refine ⟨_,[s1.heap.objs.size+4,s1.heap.objs.size+2,s1.heap.objs.size+3,s1.heap.objs.size,s1.heap.objs.size+1],_,_,H1,rfl,I2,xT (b:=b) (c:=c) D,⟨S.zz,S.pp,S.qq,i2,j2⟩,fun a ha=>?_,q⟩;have hle:s1.heap.objs.size<=a:=by
    simp only [List.mem_cons,List.not_mem_nil,or_false] at ha;rcases ha with rfl | rfl | rfl | rfl | rfl
    · exact Nat.le_add_right _ 4
    · exact Nat.le_add_right _ 2
    · exact Nat.le_add_right _ 3
    · exact Nat.le_refl _
    · exact Nat.le_add_right _ 1
  exact I1.fpOk hle (I1.hok.fresh hle)
noncomputable def zC (fa fb:Fe):aS->R (List PyData):=fun ρ=>fa ρ>>=fun x=>fb ρ>>=fun y=>hZ x>>=fun xs=>hZ y>>=fun ys=>.ok (lC xs ys)
theorem sj {H:Hp} {d:PyData} {v:V} {ds:List PyData} (h:Rp H d v) (e:hZ d=.ok ds):∃ a b,v=.ref a/\Al H a ds b:=by
  cases d with
  | list xs =>
    cases e;simp only [Rp] at h;obtain ⟨a,o,vs,rfl,h,r⟩:=h;exact ⟨a,false,rfl,o,vs,h,r⟩
  | tuple xs =>
    cases e;simp only [Rp] at h;obtain ⟨a,vs,rfl,h,r⟩:=h;exact ⟨a,true,rfl,vs,h,r⟩
  | _=>cases e
theorem yO (T:Tb X nl G) (j:Nat) (hG:G[j]?=some ("zip" : Str)) (hm:X.mg "zip" = none) (ha:Z.cI X a fa) (hb:Z.cI X b fb) (h1:aO a=true:=by rfl) (h2:aO b=true:=by rfl):Z.sh X (.Tuple elts x1 tp) (.Call (.Name "zip" p) [a,b] [] pos) (zC fa fb):=⟨have ha:=ha.un;have hb:=hb.un;by
  have g:=T.gl _ (List.mem_of_getElem? hG);refine PI.imp (BR g.1 hm (jd ha (jd hb ni h2) h1) (by rw [bo h1,bo h2];rfl) (by rw [bo h2];rfl)) fun σ H Rk h=>?_
  obtain ⟨ρ,sl,q⟩:=h;unfold zC at q;refine ⟨ρ,sl,?_⟩;unfold ah aJ;cases e1:fa ρ with
  | ex c=>rw [e1] at q;exact q
  | no=>rw [e1] at q;exact q
  | ok x =>
    rw [e1] at q;simp only [R.ok_bind] at q ⊢;cases e2:fb ρ with
    | ex c=>rw [e2] at q;exact q
    | no=>rw [e2] at q;exact q
    | ok y =>
      rw [e2] at q;simp only [R.ok_bind] at q ⊢;cases e3:hZ x with
      | ex c=>exact absurd e3 (by cases x <;> simp [hZ])
      | no=>rw [e3] at q;exact q.elim
      | ok xs =>
        rw [e3] at q;simp only [R.ok_bind] at q;cases e4:hZ y with
        | ex c=>exact absurd e4 (by cases y <;> simp [hZ])
        | no=>rw [e4] at q;exact q.elim
        | ok ys =>
          rw [e4] at q;simp only [R.ok_bind] at q;intro vs H1 s1 ra;simp only [RA] at ra;obtain ⟨v,r',rfl,p1,v',r'',rfl,p2,rfl⟩:=ra;obtain ⟨l,b1,rfl,d1⟩:=sj p1 e3;obtain ⟨m,b2,rfl,d2⟩:=sj p2 e4;obtain ⟨us,u1,_⟩:=d1.sq (K:=X.K);obtain ⟨ws,u2,_⟩:=d2.sq (K:=X.K);exact ⟨l,m,us,ws,b1,b2,rfl,u1,u2,q _ H1 s1 ⟨_,AC,fun H2 k _=>⟨d1.kp k,d2.kp k⟩⟩⟩⟩
end
noncomputable def eD (i j:Nat):PyData->aS->Option aS
  | .tuple [x,y],ρ=>some ((ρ.set i (.val x)).set j (.val y))
  | _,_=>none
section
variable {X:Cx} {nl:Nat} {G:List Str} {x y:Str} {k:Nat} {p1 p2 pos:Pos}
theorem gQ (T:Tb X nl G) (i j:Nat) (hi:(X.N.take nl)[i]?=some x) (hj:(X.N.take nl)[j]?=some y):Z.u6 X (.Tuple [.Name x p1,.Name y p2] k pos) (eD i j):=⟨by
  obtain ⟨i1,i2,i3⟩:=T.nm hi;obtain ⟨j1,j2,j3⟩:=T.nm hj;refine PG.imp (BH T.calm (re (pC T.nd i1 i2 i3) (re (pC T.nd j1 j2 j3) AX))) fun v σ H Q ⟨ρ,d,sl,p,q⟩=>?_
  unfold eD at q;split at q
  · rename_i e;split at e
    · rename_i ρ0 dx dy;cases e;simp only [Rp] at p;obtain ⟨a,vs,rfl,ha,r⟩:=p;obtain ⟨u,r1,rfl,pu,r⟩:=r.cons_inv;obtain ⟨w,r2,rfl,pw,r⟩:=r.cons_inv;rw [r.nil_inv] at ha;refine ⟨a,[u,w],rfl,gh.of ha,rfl,u,[w],rfl,w,[],rfl,rfl,?_⟩;refine q _ (Sl.set (c:=.val dy) (o:=some w) (Sl.set (c:=.val dx) (o:=some u) sl i ⟨u,rfl,pu⟩) j ⟨w,rfl,pw⟩) fun n e h=>?_
      obtain ⟨n1,h⟩:=cQ (fun e z=>by cases z) h;obtain ⟨n2,h⟩:=cQ (fun e z=>by cases z) h;exact ⟨h,by rw [List.getElem?_set,if_neg n1,List.getElem?_set,if_neg n2]⟩
    · cases e
  · exact q.elim⟩
end
theorem jg {own:Nat} {fr:List Nat} {i j:Nat} (hi:i < own) (hj:j < own):∀ ρ d ρ1,eD i j d (az own fr ρ)=some ρ1->lD (az own fr ρ) ρ1:=fun ρ d ρ1 e=>by
  unfold eD at e;split at e
  · rename_i x y _;cases e;refine ⟨by rw [List.length_set,List.length_set],fun n c hn=>?_⟩;have at_own:n < own->c=.non:=fun h=>by
      unfold az at hn;rw [List.getElem?_append_left (by simpa using h),List.getElem?_replicate,if_pos h] at hn;exact (Option.some.inj hn).symm
    by_cases h1:j=n
    · exact .inl (at_own (by omega))
    · by_cases h2:i=n
      · exact .inl (at_own (by omega))
      · exact .inr (by rw [List.getElem?_set,if_neg h1,List.getElem?_set,if_neg h2];exact hn)
  · cases e
open AutoSeq1 (wpAny_loadPart')
noncomputable abbrev jr (h:Heap) (e i:Addr) (k:Int) (f0 old:Value):Prop:=h.get? e=some { cls:=.type "enumerate",dict:=none,data:=.fields #[f0,.bool false,.ref i,rawInt k,.none,old],slots:=#[] }
section
variable {prog:Program} {w:World} {A:Around} {E:Value->Shared->Prop} {s:Shared} {e i l:Addr} {k:Nat} {xs:Array Value}
theorem v7 {x old:Value} {Q:Value->Shared->Prop} (he:jr s.heap e i k .none old) (it:kz s.heap i l k xs) (hli:l≠i) (hle:l≠e) (hei:e≠i) (hx:xs[k]?=some x)
    (hQ:∀ h' old',jr h' e i ((k:Int)+1) (rawInt s.heap.objs.size) old'->kz h' i l (k+1) xs->IsPair h' s.heap.objs.size (.int k s.toks) x->(∀ c o,c≠e->c≠i->s.heap.get? c=some o->h'.get? c=some o)->Q (.ref s.heap.objs.size) { s with heap:=h',toks:=s.toks+1 }) :
    wpAny (model prog w) A (Builtin.«enumerate.__next__» ⟨[.ref e],[]⟩) (fun fin s'=>∃ v,fin=.done (.ret v)/\Q v s') E s:=by
  obtain ⟨hp,g,d,tk,os⟩:=s;show wpAny _ _ (field (Value.ref e) 2>>=_) _ _ _;refine wpAny_bind (wpAny_field he rfl (x:=Value.ref i) rfl ?_);refine wpAny_bind (uB it hli hx fun g1 i1 s1=>?_);replace s1:Heap.SameBut i hp g1:=s1;have e1:jr g1 e i k .none old:=(s1.2 e hei).trans he;show wpAny _ _ (field (Value.ref e) 3>>=_) _ _ (Shared.mk g1 g d tk os);refine wpAny_bind (wpAny_field e1 rfl (x:=rawInt (k:Int)) rfl ?_);show wpAny _ _ (field (Value.ref e) 4>>=_) _ _ (Shared.mk g1 g d tk os);refine wpAny_bind (wpAny_field e1 rfl (x:=Value.none) rfl ?_);show wpAny _ _ (mkInt (k:Int)>>=_) _ _ (Shared.mk g1 g d tk os);refine wpAny_bind (wpAny_mkInt ?_);show wpAny _ _ (setField (Value.ref e) 3 (rawInt ((k:Int)+1))>>=_) _ _ (Shared.mk g1 g d (tk+1) os);refine wpAny_bind (wpAny_setField_rec e1 (by simp) fun g2 e2 s2=>?_);replace s2:Heap.SameBut e g1 g2:=s2;replace e2:jr g2 e i ((k:Int)+1) .none old:=e2;show wpAny _ _ (setField (Value.ref e) 4 Value.none>>=_) _ _ (Shared.mk g2 g d (tk+1) os);refine wpAny_bind (wpAny_setField_rec e2 (by simp) fun g3 e3 s3=>?_);replace s3:Heap.SameBut e g2 g3:=s3;replace e3:jr g3 e i ((k:Int)+1) .none old:=e3;show wpAny _ _ (newTuple [Value.int k tk,x]>>=_) _ _ (Shared.mk g3 g d (tk+1) os);refine wpAny_bind (wpAny_newTuple ?_);have hsz:g3.objs.size=hp.objs.size:=by rw [s3.1,s2.1,s1.1]
  have elt:e < g3.objs.size:=Heap.lt_size e3;have e4:jr (g3.push { cls:=.type "tuple",data:=.seq #[.int k tk,x] }) e i ((k:Int)+1) .none old:=Heap.get?_push_of_some _ e3;have t4:IsPair (g3.push { cls:=.type "tuple",data:=.seq #[.int k tk,x] }) g3.objs.size (.int k tk) x:=Heap.get?_push_size _ rfl;have i3:kz g3 i l (k+1) xs:=i1.keep (fun o q=>s3.extBut _ _ hei.symm (s2.extBut _ _ hei.symm q)) fun o q=>s3.extBut _ _ hle (s2.extBut _ _ hle q)
  have k3:∀ c o,c≠e->c≠i->hp.get? c=some o->g3.get? c=some o:=fun c o c1 c2 q=>s3.extBut _ _ c1 (s2.extBut _ _ c1 (s1.extBut _ _ c2 q))
  show wpAny _ _ (Builtin.SmallTypes.ownedTupleIsFree (Value.ref e)>>=_) _ _ (Shared.mk (g3.push { cls:=.type "tuple",data:=.seq #[.int k tk,x] }) g d (tk+1) os);refine wpAny_bind ?_;unfold Builtin.SmallTypes.ownedTupleIsFree;refine wpAny_bind (wpAny_field e4 rfl (x:=Value.none) rfl (wpAny_pure ?_));simp only [if_true];refine wpAny_bind (wpAny_rule ?_);refine wpAny_bind (wpAny_field e4 rfl (x:=old) rfl ?_);refine wpAny_bind (wpAny_setField_rec e4 (by simp) fun g5 e5 s5=>?_);replace s5:Heap.SameBut e (g3.push { cls:=.type "tuple",data:=.seq #[.int k tk,x] }) g5:=s5;replace e5:jr g5 e i ((k:Int)+1) .none x:=e5;show wpAny _ _ (Builtin.SmallTypes.ownedTupleHandOut (Value.ref e) (Value.ref g3.objs.size)>>=_) _ _ (Shared.mk g5 g d (tk+1) os);refine wpAny_bind ?_;unfold Builtin.SmallTypes.ownedTupleHandOut;refine wpAny_bind (wpAny_setField_rec e5 (by simp) fun g6 e6 s6=>?_);replace s6:Heap.SameBut e g5 g6:=s6;replace e6:jr g6 e i ((k:Int)+1) (rawInt g3.objs.size) x:=e6;refine wpAny_setField_rec e6 (by simp) fun g7 e7 s7=>?_
  replace s7:Heap.SameBut e g6 g7:=s7;replace e7:jr g7 e i ((k:Int)+1) (rawInt g3.objs.size) x:=e7;have up:∀ c o,c≠e->g3.get? c=some o->g7.get? c=some o:=fun c o c1 q=>s7.extBut _ _ c1 (s6.extBut _ _ c1 (s5.extBut _ _ c1 (Heap.get?_push_of_some _ q)))
  have t7:IsPair g7 g3.objs.size (.int k tk) x:=s7.extBut _ _ (Nat.ne_of_gt elt) (s6.extBut _ _ (Nat.ne_of_gt elt) (s5.extBut _ _ (Nat.ne_of_gt elt) t4));rw [hsz] at e7 t7;refine wpAny_bind (wpAny_letGo (wpAny_pure ⟨_,rfl,?_⟩));show Q (.ref g3.objs.size) _;rw [hsz];exact hQ g7 x e7 (i3.keep (fun o q=>up _ _ hei.symm q) fun o q=>up _ _ hle q) t7 fun c o c1 c2 q=>up c o c1 (k3 c o c1 c2 q)
theorem vE {x old:Value} {Q:Option Value->Shared->Prop} (he:jr s.heap e i k .none old) (it:kz s.heap i l k xs) (hli:l≠i) (hle:l≠e) (hei:e≠i) (hx:xs[k]?=some x)
    (hQ:∀ h' old',jr h' e i ((k:Int)+1) (rawInt s.heap.objs.size) old'->kz h' i l (k+1) xs->IsPair h' s.heap.objs.size (.int k s.toks) x->(∀ c o,c≠e->c≠i->s.heap.get? c=some o->h'.get? c=some o)->Q (some (.ref s.heap.objs.size)) { s with heap:=h',toks:=s.toks+1 }) :
    wpAny (model prog w) A (pyNext (.ref e)) Q E s:=by
  have hT:s.TypeIs (.ref e) "enumerate" := ⟨_,he,rfl⟩
  unfold pyNext;exact wpAny_bind (wpAny_attempt (wpAny_callSpecial?_slot (name:=Str.ofString "__next__") hT F.slot_enumerate_next (wpAny_call_entry F.slot_enumerate_next hT F.entry_enumerate_next (v7 he it hli hle hei hx fun h' o a b c d=>wpAny_pure (hQ h' o a b c d)) (F.args_enumerate_next_1 _))))
theorem wT {old:Value} {Q:Option Value->Shared->Prop} (hh:A.handled=none) (he:jr s.heap e i k .none old) (it:kz s.heap i l k xs) (hx:xs[k]?=none) (hQ:∀ h',(∀ c o,c≠i->s.heap.get? c=some o->h'.get? c=some o)->Q none { s with heap:=h' }) :
    wpAny (model prog w) A (pyNext (.ref e)) Q E s:=by
  have hT:s.TypeIs (.ref e) "enumerate" := ⟨_,he,rfl⟩
  unfold pyNext;refine wpAny_bind (wpAny_attempt (wpAny_callSpecial?_slot (name:=Str.ofString "__next__") hT F.slot_enumerate_next (wpAny_call_entry F.slot_enumerate_next hT F.entry_enumerate_next ?_ (F.args_enumerate_next_1 _))));show wpAny _ _ (field (Value.ref e) 2>>=_) _ _ _;refine wpAny_bind (wpAny_field he rfl (x:=Value.ref i) rfl ?_);refine wpAny_bind (k8 hh it hx fun h' x k1 ⟨o,ho,hc⟩=>?_);exact wpAny_bind (wpAny_isInstance (T := "StopIteration") (b:=true) ⟨o,ho,hc⟩ isSubtype_stop (wpAny_pure (hQ _ fun c o c1 q=>k1 c o c1 q)))
theorem xD (l:Addr) (xs:Array Value):Meets (Builtin.«enumerate.__new__» ⟨[.type "enumerate",.ref l],[]⟩) (fun _ R s=>tQ s.heap l xs /\
    ∀ h',jr h' (s.heap.objs.size+1) s.heap.objs.size 0 .none .none->kz h' s.heap.objs.size l 0 xs->(∀ c o,s.heap.get? c=some o->h'.get? c=some o)->R (.ok (.ret (.ref (s.heap.objs.size+1)))) { s with heap:=h' }) :=
  .of_wp fun prog w A R s h=>by
    obtain ⟨hp,g,d,tk,os⟩:=s;obtain ⟨h1,h⟩:=h;have hsub:=sub_enumerate;have fin:∀ oi:Obj,kz (hp.push oi) hp.objs.size l 0 xs->R (.ok (.ret (.ref (hp.push oi).objs.size))) ⟨(hp.push oi).push { cls:=.type "enumerate",data:=.fields #[.none,.bool false,.ref hp.objs.size,rawInt 0,.none,.none] },g,d,tk,os⟩:=fun oi hi=>by
      have e1:(hp.push oi).objs.size=hp.objs.size+1:=Heap.size_push ..;rw [e1];refine h _ ?_ (hi.keep (fun o q=>Heap.get?_push_of_some _ q) fun o q=>Heap.get?_push_of_some _ q) fun c o q=>Heap.get?_push_of_some _ (Heap.get?_push_of_some _ q)
      show Heap.get? _ (hp.objs.size+1)=_;rw [<- e1];exact Heap.get?_push_size _ rfl
    rcases h1 with h1 | h1
    · have l1:Heap.IsList (Shared.heap ⟨hp,g,d,tk,os⟩) l xs:=h1;obtain ⟨o,ho,_,_,_⟩:=id h1;have ho':(Shared.heap ⟨hp,g,d,tk,os⟩).get? l=some o:=ho
      wp_walk using wpAny_loadPart' ho'
      refine wpAny_stack_any fun st=>wpAny_pure ?_
      split
      · rename_i c _ _ _ _ _;cases (c==Value.type "enumerate")
        · wp_walk using wpAny_loadPart' ho',wpAny_pyIter_list l1
          exact ⟨_,rfl,fin _ (.inl ⟨⟨_,Heap.get?_push_size _ rfl,rfl,rfl⟩,Heap.IsList.push h1 _⟩)⟩
        · wp_walk using wpAny_loadPart' ho',wpAny_pyIter_list l1
          exact ⟨_,rfl,fin _ (.inl ⟨⟨_,Heap.get?_push_size _ rfl,rfl,rfl⟩,Heap.IsList.push h1 _⟩)⟩
      · wp_walk using wpAny_loadPart' ho',wpAny_pyIter_list l1
        exact ⟨_,rfl,fin _ (.inl ⟨⟨_,Heap.get?_push_size _ rfl,rfl,rfl⟩,Heap.IsList.push h1 _⟩)⟩
    · have l1:Heap.IsTuple (Shared.heap ⟨hp,g,d,tk,os⟩) l xs:=h1;obtain ⟨o,ho,_,_,_⟩:=id h1;have ho':(Shared.heap ⟨hp,g,d,tk,os⟩).get? l=some o:=ho
      wp_walk using wpAny_loadPart' ho'
      refine wpAny_stack_any fun st=>wpAny_pure ?_
      split
      · rename_i c _ _ _ _ _;cases (c==Value.type "enumerate")
        · wp_walk using wpAny_loadPart' ho',wpAny_pyIter_tuple l1
          exact ⟨_,rfl,fin _ (.inr ⟨⟨_,Heap.get?_push_size _ rfl,rfl,rfl⟩,Heap.IsTuple.push h1 _⟩)⟩
        · wp_walk using wpAny_loadPart' ho',wpAny_pyIter_tuple l1
          exact ⟨_,rfl,fin _ (.inr ⟨⟨_,Heap.get?_push_size _ rfl,rfl,rfl⟩,Heap.IsTuple.push h1 _⟩)⟩
      · wp_walk using wpAny_loadPart' ho',wpAny_pyIter_tuple l1
        exact ⟨_,rfl,fin _ (.inr ⟨⟨_,Heap.get?_push_size _ rfl,rfl,rfl⟩,Heap.IsTuple.push h1 _⟩)⟩
theorem vq {Q:Value->Shared->Prop} {l:Addr} (h1:tQ s.heap l xs)
    (h:∀ h',jr h' (s.heap.objs.size+1) s.heap.objs.size 0 .none .none->kz h' s.heap.objs.size l 0 xs->(∀ c o,s.heap.get? c=some o->h'.get? c=some o)->Q (.ref (s.heap.objs.size+1)) { s with heap:=h' }) :
    wpAny (model prog w) A (call (.type "enumerate") [.ref l]) Q E s:=by
  refine callType_new F.called_enumerate (by decide) (F.typeCall_enumerate_1 _) (F.newCall_enumerate_1 _) (fun obj=>F.args_object_init_2 obj _) F.entry_enumerate_new (xD l xs) ⟨h1,fun h' e S k=>?_⟩;exact ⟨⟨_,e,rfl⟩,h h' e S k⟩
end
end D2
namespace D2
open PySem PySem.Spec PyProof.Rows L2
noncomputable def E4 (K:PySem.W.Frag) (l:Addr) (b:Bool):It :=
  ⟨fun i H=>∃ xs x,rQ K H l xs b/\xs[i]?=some x,fun i H v H'=>∃ a x,H a=none/\v=.ref a/\H'=cA H a (.tup [.int i,x])/\∀ xs,rQ K H l xs b->xs[i]?=some x,fun i H=>∃ xs,rQ K H l xs b/\xs.length<=i⟩
structure FK (e i l:Addr) (b:Bool) (k:Nat) (h:Heap):Prop where
  ee:∃ old,jr h e i k .none old
  ii:fN h i l k b
theorem vO {P:Program} {w:World} {K:PySem.W.Frag} {elts:List Expr} {x1} {pos:Pos} {e i l:Addr} {b:Bool} (hei:e≠i) (hle:l≠e) (hli:l≠i):rd P w K (.Tuple elts x1 pos) (E4 K l b) [e,i] e (FK e i l b) where
  mem:=by simp
  obj:=fun k h st a ha=>by
    simp only [List.mem_cons,List.not_mem_nil,or_false] at ha;rcases ha with rfl | rfl
    · obtain ⟨_,q⟩:=st.ee;exact ⟨_,q,fun v e=>by cases e⟩
    · exact st.ii.there
  keep:=fun k h h' st kp=>⟨let ⟨o,q⟩:=st.ee;⟨o,kp e (by simp) _ q⟩,st.ii.keep fun o q=>kp i (by simp) o q⟩
  item:=by
    intro X hP hw hK hc k pins s σ H E I hf st hg;subst hP hw hK;obtain ⟨xs,x,h1,hx⟩:=hg;obtain ⟨its,rv,_,p1⟩:=h8 I h1;obtain ⟨u,hu,ru⟩:=rv.get hx;obtain ⟨old,he⟩:=st.ee;refine vE he (p1 _ _ st.ii) hli hle hei (x:=u) (by simpa using hu) fun h' old' e' i' hp kp=>⟨_,rfl,?_⟩
    have elt:e < s.heap.objs.size:=Heap.lt_size he;have hob:∀ a∈[e,i],a < s.heap.objs.size:=fun a ha=>by
      simp only [List.mem_cons,List.not_mem_nil,or_false] at ha;rcases ha with rfl | rfl
      · exact elt
      · obtain ⟨o,q,_⟩:=st.ii.there;exact Heap.lt_size q
    have hn:H s.heap.objs.size=none:=I.hok.fresh (Nat.le_refl _);refine wpAny_letOwnedTupleGo_enum (s:={ s with heap:=h',toks:=s.toks+1 }) e' fun h2' e2 sb=>?_
    have up:∀ a o,a≠e->h'.get? a=some o->h2'.get? a=some o:=fun a o ha q=>sb.extBut a o ha q
    refine ⟨.ref s.heap.objs.size,_,uQ (s:=s) (t':=s.toks+1) (fp:=[e,i]) (h':=h2') (u1:=.int k s.toks) (u2:=u) (v1:=.int k) (v2:=x) I hf hob (up _ _ (Nat.ne_of_gt elt) hp) (fun a o ha q=>?_) ⟨_,rfl⟩ ru,rfl,⟨_,x,hn,rfl,rfl,fun zs hz=>by rw [jK I h1 hz];exact hx⟩,?_,fun a ha=>?_⟩
    · simp only [List.mem_cons,List.not_mem_nil,or_false,not_or] at ha;exact up a o ha.1 (kp a o ha.1 ha.2 q)
    · have i2:fN h' i l (k+1) b:=by
        refine i'.toB fun ys=>?_
        cases hb:b
        · subst hb;refine ⟨fun z=>(by cases z),fun _ w=>?_⟩;obtain ⟨_,_,pl,_⟩:=I.list h1;obtain ⟨o,q,r⟩:=pl.isList;exact dC (h:=h') (xs:=_) ⟨o,kp _ _ hle hli q,r⟩ w
        · subst hb;refine ⟨fun _ w=>?_,fun z=>by cases z⟩;obtain ⟨_,_,pl,_⟩:=I.tuple h1;obtain ⟨o,q,r⟩:=pl;exact dC (h:=h') w ⟨o,kp _ _ hle hli q,r⟩
      exact ⟨⟨_,by have q:jr h2' e i ((k:Int)+1) .none old':=e2;simpa using q⟩,i2.keep fun o q=>up _ _ hei.symm q⟩
    · rw [ar (Nat.ne_of_lt (hob a ha))];exact (hf a ha).1
  done:=by
    intro X hP hw hK hc k pins s σ H E I hf st hg;subst hP hw hK;obtain ⟨xs,h1,hl⟩:=hg;obtain ⟨its,rv,_,p1⟩:=h8 I h1;obtain ⟨old,he⟩:=st.ee;have e1:=rv.length;refine wT (I.ok.hd hc) he (p1 _ _ st.ii) (by simp;omega) fun h' kp=>⟨rfl,iI (t':=s.toks) (fp:=[e,i]) I (fun a o ha q=>?_) hf⟩
    simp only [List.mem_cons,List.not_mem_nil,or_false,not_or] at ha;exact kp a o ha.2 q
  self:=fun _ _ _ _ _ st h=>let ⟨_,q⟩:=st.ee;wpAny_pyIter_enum q h
noncomputable def de:Nat->List PyData->List PyData
  | _,[]=>[]
  | k,d::ds=>.tuple [.int k,d]::de (k+1) ds
theorem fT:∀ (k:Nat) (ds:List PyData),(de k ds).length=ds.length
  | _,[]=>rfl
  | k,d::ds=>by unfold de;rw [List.length_cons,List.length_cons,fT]
theorem oG:∀ {k:Nat} {ds:List PyData} {i:Nat} {d:PyData},(de k ds)[i]?=some d->∃ x,ds[i]?=some x/\d=.tuple [.int ((k+i:Nat):Int),x]
  | k,[],i,d,h=>by unfold de at h;simp at h
  | k,x::ds,0,d,h=>by
    unfold de at h;simp at h;exact ⟨x,rfl,by rw [<- h];simp⟩
  | k,x::ds,i+1,d,h=>by
    unfold de at h;rw [List.getElem?_cons_succ] at h;obtain ⟨y,h1,h2⟩:=oG h;refine ⟨y,by simpa using h1,?_⟩;rw [h2];have:k+1+i=k+(i+1):=by omega
    rw [this]
theorem yt {K:PySem.W.Frag} {l:Addr} {b:Bool} {xs:List PyData}:zc (E4 K l b) (fun H=>Al H l xs b) (de 0 xs) where
  go:=fun i H h1 hi=>by
    rw [fT] at hi;obtain ⟨vs,s1,r1⟩:=h1.sq (K:=K);obtain ⟨x,hx,_⟩:=r1.get (List.getElem?_eq_getElem hi);exact ⟨vs,x,s1,hx⟩
  yld:=fun i H v H' d h1 hd h=>by
    obtain ⟨a,x,ha,rfl,rfl,k1⟩:=h;obtain ⟨vs,s1,r1⟩:=h1.sq (K:=K);obtain ⟨dx,e1,rfl⟩:=oG hd;obtain ⟨x',hx,px⟩:=r1.get e1;have q1:=k1 vs s1;rw [hx] at q1;cases q1;refine ⟨cq ha _,dA ha (bz.cons ?_ (bz.cons px bz.nil))⟩;rw [Nat.zero_add];exact cF
  stop:=fun i H h1 hi=>by
    rw [fT] at hi;obtain ⟨vs,s1,r1⟩:=h1.sq (K:=K);have l1:=r1.length;exact ⟨vs,s1,by omega⟩
section
variable {X:Cx} {elts:List Expr} {x1:Nat} {tp:Pos} {a b:Expr} {fa fb:Fe} {pos p:Pos} {nl:Nat} {G:List Str} {fs:aS->R (List PyData)}
noncomputable def FO (K:PySem.W.Frag) (ta:TA):TI:=fun σ H R=>ta σ H fun vs H1=>∃ l xs b,vs=[.ref l]/\rQ K H1 l xs b/\R (E4 K l b) H1
theorem Aq {ta:TA} (hg:Gl X "enumerate") (hm:X.mg "enumerate" = none) (ha:PA X [a] ta) (hs:starEach [a] X.env=[(false,eval a X.env)]):PI X (.Tuple elts x1 tp) (.Call (.Name "enumerate" p) [a] [] pos) (FO X.K ta):=by
  intro pins s σ H R I h;refine Call_ (ie I hg hm boot_enumerate (PyProof.Rows.callWith_type1 (df (ha pos pins s σ H _ I h) fun us s1 ⟨vs,H1,I1,r1,q1⟩=>?_) hs rfl));obtain ⟨l,xs,b,e,h1,q⟩:=q1;subst e;obtain ⟨u,rfl,ru⟩:=fO r1;cases ru;obtain ⟨its,w1,p1,g1⟩:=h8 I1 h1;have ll:l < s1.heap.objs.size:=by rcases p1 with ⟨o,e,_⟩ | ⟨o,e,_⟩ <;> exact Heap.lt_size e
  refine vq p1 fun h' hz S kp=>wpAny_pyIter_enum hz ?_
  have I2:aF X pins σ H1 { s1 with heap:=h' }:=I1.kept (t':=s1.toks) kp;have i2:fN h' s1.heap.objs.size l 0 b:=S.toB (nJ I1 h1 kp);refine ⟨_,[s1.heap.objs.size+1,s1.heap.objs.size],_,_,H1,rfl,I2,vO (b:=b) (Nat.ne_of_gt (Nat.lt_succ_self _)) (Nat.ne_of_lt (Nat.lt_succ_of_lt ll)) (Nat.ne_of_lt ll),⟨⟨_,hz⟩,i2⟩,fun a ha=>?_,q⟩;have hle:s1.heap.objs.size<=a:=by
    simp only [List.mem_cons,List.not_mem_nil,or_false] at ha;rcases ha with rfl | rfl
    · exact Nat.le_add_right _ 1
    · exact Nat.le_refl _
  exact I1.fpOk hle (I1.hok.fresh hle)
noncomputable def ld (fa:Fe):aS->R (List PyData):=fun ρ=>fa ρ>>=fun x=>hZ x>>=fun xs=>.ok (de 0 xs)
theorem jk (T:Tb X nl G) (j:Nat) (hG:G[j]?=some ("enumerate" : Str)) (hm:X.mg "enumerate" = none) (ha:Z.cI X a fa) (h1:aO a=true:=by rfl):Z.sh X (.Tuple elts x1 tp) (.Call (.Name "enumerate" p) [a] [] pos) (ld fa):=⟨have ha:=ha.un;by
  have g:=T.gl _ (List.mem_of_getElem? hG);refine PI.imp (Aq g.1 hm (jd ha ni h1) (by rw [bo h1];rfl)) fun σ H Rk h=>?_
  obtain ⟨ρ,sl,q⟩:=h;unfold ld at q;refine ⟨ρ,sl,?_⟩;unfold ah aJ;cases e1:fa ρ with
  | ex c=>rw [e1] at q;exact q
  | no=>rw [e1] at q;exact q
  | ok x =>
    rw [e1] at q;simp only [R.ok_bind] at q ⊢;cases e3:hZ x with
    | ex c=>exact absurd e3 (by cases x <;> simp [hZ])
    | no=>rw [e3] at q;exact q.elim
    | ok xs =>
      rw [e3] at q;simp only [R.ok_bind] at q;intro vs H1 s1 ra;simp only [RA] at ra;obtain ⟨v,r',rfl,p1,rfl⟩:=ra;obtain ⟨l,b1,rfl,d1⟩:=sj p1 e3;obtain ⟨us,u1,_⟩:=d1.sq (K:=X.K);exact ⟨l,us,b1,rfl,u1,q _ H1 s1 ⟨_,yt,fun H2 k _=>d1.kp k⟩⟩⟩
end
section
variable {X:Cx} {nl:Nat} {G:List Str} {x:Str} {e:Expr} {f:Fe} {q1 q2 q3 q4:Pos}
theorem qY (T:Tb X nl G) (n:Nat) (hN:X.N[n]?=some x) (he:Z.cI X e f) (hst:aO e=true:=by rfl) (hline:(q2.endLine==q3.line)=true:=by rfl) (hs:swapsWith (.Call (.Attribute (.Name x q1) "append" q2) [e] [] q3) none q4.line X.env=pure false:=by rfl) (hbase:attributeBase (.Name x q1) "append" X.env (eval (.Name x q1) X.env)=eval (.Name x q1) X.env:=by rfl):Z.kA X (.Expr (.Call (.Attribute (.Name x q1) "append" q2) [e] [] q3) q4) (ji n f):=⟨have he:=he.un;fun Fm=>by
  have hm:=T.vis x (List.mem_of_getElem? hN);have sc:starEach [e] X.env=(false,eval e X.env)::starEach [] X.env:=bo hst;refine PS.imp (AK (A6 PySem.F.plainAttrs_list PySem.F.slot_list_append PySem.F.type_list_append oE (kC hN hm.1 hm.2.1 hm.2.2) (jd he ni hst) hbase (by rw [sc];rfl) hline sc rfl) hs) fun D σ H h=>?_
  obtain ⟨ρ,sl,q⟩:=h;unfold ji at q;cases ef:f ρ with
  | ex c=>rw [ef] at q;exact q.elim
  | no=>rw [ef] at q;exact q.elim
  | ok d =>
    rw [ef] at q;simp only [lS,R.ok_bind] at q;cases er:ρ[n]? with
    | none=>rw [er] at q;exact q.elim
    | some c =>
      rw [er] at q;cases c with
      | non=>exact q.elim
      | exc p=>exact q.elim
      | val d'=>exact q.elim
      | own d' =>
        cases d' with
        | list ds =>
          dsimp only at q;by_cases hz:ds.length < sizeLine
          · rw [if_pos hz] at q;obtain ⟨o,h2,w',rfl,p2⟩:=sl.sl.at er;simp only [iA] at p2;obtain ⟨a',vs,rfl,ha,r⟩:=p2;refine ⟨.ref a',h2,.inl ⟨rfl,_,kx.of ha⟩,ρ,sl.sl,?_⟩;unfold ah aJ;rw [ef];intro us H1 s1 ra;simp only [RA] at ra;obtain ⟨v,r',rfl,p1,rfl⟩:=ra;have ha1:=s1 _ _ ha;refine ⟨a',vs,v,rfl,rfl,ha1,by rw [r.length];exact hz,q _ _ ((sl.mono s1).change er h2 ha1 (.inl ⟨_,rfl⟩) ?_)⟩;simp only [iA];exact ⟨a',_,rfl,ba,bz.kp (fX ha1 (.inl ⟨_,rfl⟩)) _ _ (bz.append (r.mono s1) (bz.cons p1 bz.nil))⟩
          · rw [if_neg hz] at q;exact q.elim
        | _=>exact q.elim⟩
end
noncomputable def iy (g:Fs):Fs:=fun ρ=>lS (g ρ)
theorem Tb.nox {X:Cx} {nl:Nat} {G:List Str} (T:Tb X nl G):Tb X.nox nl G:=⟨T.hu,T.calm,T.nd,T.vis,T.loc,T.gl⟩
section
variable {X:Cx} {nl:Nat} {G:List Str} {st:Stmt} {g:Fs} {pos:Pos}
theorem cY (h:Z.kA X.nox st g):Z.kA X st (iy g):=⟨have h:=h.un;fun Fm=>by
  intro pins s σ H D I ⟨ρ,sl,q⟩;refine wpAny_mono (h Fm pins s σ H D (I.wish _) ⟨ρ,sl,?_⟩) (fun _ _ q=>q.unwish) fun _ _ z=>False.elim z
  unfold iy at q;cases e:g ρ with
  | ok o =>
    rw [e] at q;cases o <;> exact q
  | ex c=>rw [e] at q;exact q.elim
  | no=>rw [e] at q;exact q.elim⟩
noncomputable def dm (t:aS->R Bool) (g:Fs):Nat->Fs
  | 0,_=>.no
  | n+1,ρ=>t ρ>>=fun b=>if b=true then g ρ>>=fun o=>(match o with
      | .nx ρ2=>dm t g n ρ2
      | .ct ρ2=>dm t g n ρ2
      | .bk ρ2=>.ok (.nx ρ2)
      | .rt r=>.ok (.rt r)) else .ok (.nx ρ)
noncomputable def l9 (n:Nat) (t:aS->R Bool) (g:Fs):Fs:=dm t g n
theorem jM {c:Expr} {body:List Stmt} {t:aS->R Bool} (n:Nat) (hp:PassesOwn (model X.prog X.w) X.A X.env X.xe) (ht:Z.lO X c t) (hb:Z.kO X body g):Z.kA X (.While c body [] pos) (l9 n t g):=⟨have ht:=ht.un;have hb:=hb.un;fun Fm=>by
  refine PS.imp (xF hp ht (hb Fm)) fun D σ H ⟨ρ,sl,q⟩=>⟨fun m σ' H'=>∃ ρ',ir Fm H' σ' ρ'/\zP X Fm (dm t g m ρ') D,⟨n,ρ,sl,q⟩,fun m σ1 H1 ⟨ρ1,sl1,q1⟩=>?_⟩
  cases m with
  | zero=>exact q1.elim
  | succ k =>
    have q2:Bb X Fm (fun ρ=>t ρ>>=fun b=>if b=true then g ρ>>=fun o=>(match o with
      | .nx ρ2=>dm t g k ρ2
      | .ct ρ2=>dm t g k ρ2
      | .bk ρ2=>.ok (.nx ρ2)
      | .rt r=>.ok (.rt r)) else .ok (.nx ρ)) D σ1 H1:=⟨ρ1,sl1,q1⟩
    refine (u5 (f:=t) (k:=fun ρ b=>if b=true then g ρ>>=fun o=>(match o with
      | .nx ρ2=>dm t g k ρ2
      | .ct ρ2=>dm t g k ρ2
      | .bk ρ2=>.ok (.nx ρ2)
      | .rt r=>.ok (.rt r)) else .ok (.nx ρ)) q2).post fun b H2 ⟨ρ2,sl2,_,q3⟩=>?_
    cases b with
    | false=>exact q3 σ1 H2 sl2
    | true =>
      have q4:zP X Fm (g ρ2>>=fun o=>(match o with
      | .nx ρ2=>dm t g k ρ2
      | .ct ρ2=>dm t g k ρ2
      | .bk ρ2=>.ok (.nx ρ2)
      | .rt r=>.ok (.rt r))) D:=q3
      show if true=true then _ else _
      rw [if_pos rfl];refine ⟨fun σ' H'=>∃ ρ',ir Fm H' σ' ρ'/\zP X Fm (dm t g k ρ') D,fun σ' H' z=>⟨k,Nat.lt_succ_self k,z⟩,ρ2,sl2,?_⟩;cases eg:g ρ2 with
      | ex c=>rw [eg] at q4;exact q4
      | no=>rw [eg] at q4;exact q4
      | ok o =>
        rw [eg] at q4;cases o with
        | nx ρ4=>exact fun σ' H' s'=>⟨ρ4,s',q4⟩
        | ct ρ4=>exact fun σ' H' s'=>⟨ρ4,s',q4⟩
        | bk ρ4=>exact q4
        | rt r=>exact q4⟩
end
noncomputable def Xh (X:Cx) (p:Addr) (ob:Obj):Cx:={ X with A:=X.A.mark (some (.ref p)),calm:=false,xe:=fun _ _=>False,pn:=(p,ob)::X.pn }
structure FG (X:Cx) (nl:Nat) (G:List Str):Prop where
  hu:X.A.units+64 < cLine
  nd:X.N.Nodup
  vis:∀ x∈X.N,CI X.env.scope x/\(x==("__debug__" : Str))=false/\(x==("__classdict__" : Str))=false
  loc:∀ x∈X.N.take nl,A8 X.env.scope x/\(X.fn x=true\/X.env.scope.names.lookup x=some .local)
  gl:∀ x∈G,Gl X x/\(x==("__debug__" : Str))=false/\x≠("__name__" : Str)
theorem Tb.h {X:Cx} {nl:Nat} {G:List Str} (T:Tb X nl G) (p:Addr) (ob:Obj):FG (Xh X p ob) nl G:=⟨T.hu,T.nd,T.vis,T.loc,T.gl⟩
section
variable {X:Cx} {a b c:Expr} {fa fb fc:Fe} {pos p2:Pos} {nl:Nat} {G:List Str} {x:Str} {p:Pos}
theorem tZ:∀ {xs:List V} {vs:List Value},vs.length=xs.length->(∀ (j:Nat) (v:Value),vs[j]?=some v->∃ x,xs[j]?=some x/\bL x v)->bB xs vs
  | [],[],_,_=>.nil
  | [],_::_,e,_=>by cases e
  | _::_,[],e,_=>by cases e
  | x::xs,v::vs,e,h=>by
    obtain ⟨y,e1,r⟩:=h 0 v rfl;cases e1;exact .cons r (tZ (by simpa using e) fun j u hu=>by
      obtain ⟨z,e2,r2⟩:=h (j+1) u (by simpa using hu);exact ⟨z,by simpa using e2,r2⟩)
end
noncomputable def jZ (p:Int->Int->Bool) (n:Int) (ns:List Int):Int:=ns.foldl (fun a b=>if p b a=true then b else a) n
theorem jA {p:Int->Int->Bool} {le:Int->Int->Prop} (h1:∀ a b,p b a=true->le b a) (h2:∀ a b,¬ p b a=true->le a b) (tr:∀ a b c,le a b->le b c->le a c) (rf:∀ a,le a a):∀ (ns:List Int) (n:Int),jZ p n ns∈n::ns/\∀ a∈n::ns,le (jZ p n ns) a
  | [],n=>⟨by simp [jZ],fun a ha=>by simp at ha;subst ha;exact rf _⟩
  | m::ns,n=>by
    obtain ⟨g1,g2⟩:=jA h1 h2 tr rf ns (if p m n=true then m else n);have e:jZ p n (m::ns)=jZ p (if p m n=true then m else n) ns:=rfl;rw [e];refine ⟨?_,fun a ha=>?_⟩
    · rcases List.mem_cons.mp g1 with z | z
      · rw [z];split <;> simp
      · exact List.mem_cons_of_mem _ (List.mem_cons_of_mem _ z)
    · have k:=g2 _ List.mem_cons_self;rcases List.mem_cons.mp ha with rfl | ha
      · refine tr _ _ _ k ?_;split
        · rename_i z;exact h1 _ _ z
        · exact rf _
      · rcases List.mem_cons.mp ha with rfl | ha
        · refine tr _ _ _ k ?_;split
          · exact rf _
          · rename_i z;exact h2 _ _ z
        · exact g2 a (List.mem_cons_of_mem _ ha)
noncomputable def qC (n:Int) (ns:List Int):Int:=jZ (fun b a=>decide (b < a)) n ns
noncomputable def n9 (n:Int) (ns:List Int):Int:=jZ (fun b a=>decide (a < b)) n ns
theorem kX (n:Int) (ns:List Int):qC n ns∈n::ns/\∀ a∈n::ns,qC n ns<=a :=
  jA (le:=(·<=·)) (fun a b h=>by simp at h;omega) (fun a b h=>by simp at h;omega) (fun a b c=>Int.le_trans) Int.le_refl ns n
theorem jh (n:Int) (ns:List Int):n9 n ns∈n::ns/\∀ a∈n::ns,a<=n9 n ns :=
  jA (le:=fun a b=>b<=a) (fun a b h=>by simp at h;omega) (fun a b h=>by simp at h;omega) (fun a b c h1 h2=>Int.le_trans h2 h1) Int.le_refl ns n
section
variable {X:Cx} {a b c:Expr} {fa fb fc:Fe} {pos p2:Pos} {nl:Nat} {G:List Str} {x:Str} {p:Pos}
theorem jF:∀ {its:List Value} {ns:List Int},IntsAre its ns->∃ ys:List (Int×Tok),its=ys.map (fun p=>Value.int p.1 p.2)/\ys.map (·.1)=ns
  | _,_,.nil=>⟨[],rfl,rfl⟩
  | _,_,.cons n t h=>by
    obtain ⟨ys,e1,e2⟩:=jF h;exact ⟨(n,t)::ys,by rw [List.map_cons,e1],by rw [List.map_cons,e2]⟩
theorem Db (hc:X.calm=true):di X (.builtin "min") (fun xs H Q=>∃ p n ns,xs=[.ref p]/\kx X.K H p ((n::ns).map V.int)/\Q (.int (qC n ns)) H):=by
  intro pins s σ H xs us Q I r h;obtain ⟨p,n,ns,rfl,hq,q⟩:=h;obtain ⟨u,rfl,rx⟩:=fO r;cases rx;obtain ⟨its,rv,pl,hz⟩:=I.list hq;obtain ⟨ys,e1,e2⟩:=jF (ej rv);have hl:s.heap.IsList p (intItems ys.toArray):=by
    have:intItems ys.toArray=its.toArray:=by rw [e1];simp [intItems]
    rw [this];exact pl.isList
  have hlen:ys.length=ns.length+1:=by have:=congrArg List.length e2;simpa using this
  refine min_intList (I.ok.hd hc) hl (by simp;omega) fun v h' tk hv hk=>?_
  obtain ⟨t,rfl⟩:=intItems_at hv;obtain ⟨g1,g2⟩:=argBest_lt (numAt ys.toArray) (ys.toArray.size-1);generalize argBest (fun i j=>decide (numAt ys.toArray i < numAt ys.toArray j)) (ys.toArray.size-1)=w at g1 g2 hv ⊢;have el:ys.toArray.toList.map (·.1)=n::ns:=e2;have m1:numAt ys.toArray w∈n::ns:=by
    rw [numAt_eq,el];refine getD_mem ?_;simp at g1 ⊢;omega
  obtain ⟨k1,k2⟩:=kX n ns;have e3:numAt ys.toArray w=qC n ns:=by
    refine Int.le_antisymm ?_ (k2 _ m1);obtain ⟨j,hj,e⟩:=mem_getD k1;have:=g2 j (by simp at hj ⊢;omega);rw [numAt_eq ys.toArray j,el,e] at this;exact this
  rw [e3];exact ⟨.int _,H,I.kept hk,⟨_,rfl⟩,q⟩
theorem vh (hc:X.calm=true):di X (.builtin "max") (fun xs H Q=>∃ p n ns,xs=[.ref p]/\kx X.K H p ((n::ns).map V.int)/\Q (.int (n9 n ns)) H):=by
  intro pins s σ H xs us Q I r h;obtain ⟨p,n,ns,rfl,hq,q⟩:=h;obtain ⟨u,rfl,rx⟩:=fO r;cases rx;obtain ⟨its,rv,pl,hz⟩:=I.list hq;obtain ⟨ys,e1,e2⟩:=jF (ej rv);have hl:s.heap.IsList p (intItems ys.toArray):=by
    have:intItems ys.toArray=its.toArray:=by rw [e1];simp [intItems]
    rw [this];exact pl.isList
  have hlen:ys.length=ns.length+1:=by have:=congrArg List.length e2;simpa using this
  refine max_intList (I.ok.hd hc) hl (by simp;omega) fun v h' tk hv hk=>?_
  obtain ⟨t,rfl⟩:=intItems_at hv;obtain ⟨g1,g2⟩:=argBest_gt (numAt ys.toArray) (ys.toArray.size-1);generalize argBest (fun i j=>decide (numAt ys.toArray i > numAt ys.toArray j)) (ys.toArray.size-1)=w at g1 g2 hv ⊢;have el:ys.toArray.toList.map (·.1)=n::ns:=e2;have m1:numAt ys.toArray w∈n::ns:=by
    rw [numAt_eq,el];refine getD_mem ?_;simp at g1 ⊢;omega
  obtain ⟨k1,k2⟩:=jh n ns;have e3:numAt ys.toArray w=n9 n ns:=by
    refine Int.le_antisymm (k2 _ m1) ?_;obtain ⟨j,hj,e⟩:=mem_getD k1;have:=g2 j (by simp at hj ⊢;omega);rw [numAt_eq ys.toArray j,el,e] at this;exact this
  rw [e3];exact ⟨.int _,H,I.kept hk,⟨_,rfl⟩,q⟩
noncomputable def Fy:PyData->R PyData
  | .list ds=>match bg ds with
    | some (n::ns)=>.ok (.int (qC n ns))
    | _=>.no
  | _=>.no
noncomputable def oF:PyData->R PyData
  | .list ds=>match bg ds with
    | some (n::ns)=>.ok (.int (n9 n ns))
    | _=>.no
  | _=>.no
theorem oQ (T:Tb X nl G) (j:Nat) (hG:G[j]?=some ("max" : Str)) (hm:X.mg "max" = none) (ha:Z.dF X a fa) (he:aO a=true:=by rfl):Z.cI X (.Call (.Name "max" p) [a] [] pos) (e1 oF fa):=⟨have ha:=ha.un;by
  refine wx T j hG hm fE PyProof.Rows.boot_max (vh T.calm) (fun H x d Q hx q=>?_) ha he;cases d with
  | list ds =>
    simp only [oF] at q;split at q
    · rename_i n ns ei;rw [dl ei] at hx;obtain ⟨a',vs,rfl,h,r⟩:=dc (K:=X.K) hx;rw [gc r] at h;exact ⟨a',n,ns,rfl,h,q _ H (aB.refl _) cF⟩
    · exact q.elim
  | _=>exact q.elim⟩
end
section
variable {prog:Program} {w:World} {A:Around} {E:Value->Shared->Prop} {s:Shared}
theorem n4 {R:List Value->Shared->Prop} {r:Addr} {a b c:Int} {t u v:Tok} {n:Nat} (hh:A.handled=none) (hr:IsRange s.heap r a b c t u v) (hsmall:Builtin.Range.small a b c=true)
    (hn:Builtin.Range.rangeSize a b c=n) (hlen:n<=2 ^ 24)
    (h:∀ (h':Heap) (tk:Nat) (acc:Array Value),(∀ b o,s.heap.get? b=some o->h'.get? b=some o)->ItemsOf (fun i v=>∃ t,v=.int (a+i*c) t) acc n->R acc.toList { s with heap:=h',toks:=tk }) :
    wpAny (model prog w) A (collect (.ref r)) R E s:=by
  unfold collect;refine wpAny_bind (wpAny_runValue (codeAny_builtin F.entry_proto_collect ?_));rw [Around.under_plainId PySem.F.plain_proto_collect _];show wpAny _ A.in1 (newList []>>=fun l=>again (.builtin "list.__iadd__" ⟨[l,.ref r],[]⟩)) _ _ s;refine wpAny_bind (wpAny_newObj_type ?_);refine wpAny_pure ⟨plainId_quiet PySem.F.plain_list_iadd _,codeAny_builtin F.entry_list_iadd ?_⟩;rw [Around.under_plainId PySem.F.plain_list_iadd _];have hS₁:(s.heap.push { cls:=.type "list",data:=.seq ([]:List Value).toArray }).get? s.heap.objs.size=some { cls:=.type "list",data:=.seq #[] }:=Heap.get?_push_size _ rfl;show wpAny _ A.in1 (Builtin.List.listExtendWith (.ref s.heap.objs.size) (.ref r) (.ref s.heap.objs.size)) _ _ _;have key:=wpAny_extend_range (prog:=prog) (w:=w) (A:=A) (s:={ s with heap:=s.heap.push { cls:=.type "list",data:=.seq ([]:List Value).toArray } })
    (R:=fun (q:Result) (s':Shared)=>∃ (h':Heap) (tk:Nat) (acc':Array Value) (c':Nat),q=.ok (.ret (.ref s.heap.objs.size))/\s'={ s with heap:=h',toks:=tk } /\
      (∀ b o,s.heap.get? b=some o->h'.get? b=some o)/\h'.get? s.heap.objs.size=some { cls:=.type "list",dict:=none,data:=.seq acc' c',slots:=#[] }/\ItemsOf (fun i v=>∃ t,v=.int (a+i*c) t) acc' n)
    hh (Heap.get?_push_of_some _ hr) hsmall hn hlen s.heap.objs.size (.ref s.heap.objs.size) 0 hS₁
    (fun h' tk acc' c' hk hS' hacc=>⟨h',tk,acc',c',rfl,rfl,fun b o e=>hk b o (Nat.ne_of_lt (Heap.lt_size e)) (Heap.get?_push_of_some _ e),hS',hacc⟩)
  refine wpAny_mono key (fun fin s' x=>?_) fun e s' x=>?_
  · cases fin with
    | done f =>
      obtain ⟨h',tk,acc',c',e,rfl,hk,hS',hacc⟩:=x;cases e;show wpAny _ A (load s.heap.objs.size>>=_) _ _ _;refine wpAny_bind (wpAny_load hS' ?_);exact wpAny_pure (h h' tk acc' hk hacc)
    | again c' =>
      obtain ⟨hq,hc⟩:=x;refine ⟨hq,codeAny_mono hc fun q s' ⟨h',tk,acc',c',e,e2,hk,hS',hacc⟩=>?_⟩;subst e e2;show wpAny _ A (load s.heap.objs.size>>=_) _ _ _;refine wpAny_bind (wpAny_load hS' ?_);exact wpAny_pure (h h' tk acc' hk hacc)
  · obtain ⟨h',tk,acc',c',e,_⟩:=x;cases e
theorem lH (r:Addr) (a b c:Int) (t u v:Tok) (n:Nat) (hsmall:Builtin.Range.small a b c=true) (hn:Builtin.Range.rangeSize a b c=n) (hlen:n<=2 ^ 24):Meets (Builtin.«tuple.__new__» ⟨[.type "tuple",.ref r],[]⟩)
      (fun A R s=>A.handled=none/\IsRange s.heap r a b c t u v/\∀ (h':Heap) (tk:Nat) (acc:Array Value),(∀ b o,s.heap.get? b=some o->h'.get? b=some o)->ItemsOf (fun i v=>∃ t,v=.int (a+i*c) t) acc n ->
        R (.ok (.ret (.ref h'.objs.size))) { s with heap:=h'.push { cls:=.type "tuple",data:=.seq acc },toks:=tk }) :=
  .of_wp fun prog w A R s h=>by
    obtain ⟨hh,hr,h⟩:=h;have hsub:=sub_tuple_self;have hinit:=init_tuple_lookup;have hmh:=madeHere_tuple;have hT:s.TypeIs (.ref r) "range" := ⟨_,hr,rfl⟩
    have hh1:A.in1.handled=none:=hh
    wp_walk using wpAny_typeOf hT,n4 hh1 hr hsmall hn hlen
    intro h' tk acc hk hacc;show wpAny _ _ (Builtin.Tuple.tupleExact acc.toList.toArray>>=fun v=>ret v) _ _ _;unfold Builtin.Tuple.tupleExact;refine wpAny_bind (wpAny_newObj_type ?_ (show acc.toList.toArray.size<=sizeLine by simp only [Array.toArray_toList];rw [hacc.1,sizeLine_eq];omega));refine wpAny_pure ⟨_,rfl,?_⟩;have e:acc.toList.toArray=acc:=by simp
    rw [e];exact h h' tk acc hk hacc
theorem kQ {Q:Value->Shared->Prop} {r:Addr} {a b c:Int} {t u v:Tok} {n:Nat} (hh:A.handled=none) (hr:IsRange s.heap r a b c t u v) (hsmall:Builtin.Range.small a b c=true) (hn:Builtin.Range.rangeSize a b c=n) (hlen:n<=2 ^ 24)
    (h:∀ (h':Heap) (tk:Nat) (acc:Array Value),(∀ b o,s.heap.get? b=some o->h'.get? b=some o)->ItemsOf (fun i v=>∃ t,v=.int (a+i*c) t) acc n->Q (.ref h'.objs.size) { s with heap:=h'.push { cls:=.type "tuple",data:=.seq acc },toks:=tk }) :
    wpAny (model prog w) A (call (.type "tuple") [.ref r]) Q E s:=by
  refine callType_new F.called_tuple (by decide) (F.typeCall_tuple_1 _) (F.newCall_tuple_1 _) (fun obj=>F.args_object_init_2 obj _) F.entry_tuple_new
    (lH r a b c t u v n hsmall hn hlen) ⟨hh,hr,fun h' tk acc hk hacc=>⟨⟨_,Heap.get?_push_size _ rfl,rfl⟩,h h' tk acc hk hacc⟩⟩
end
section
variable {X:Cx} {a b c:Expr} {fa fb fc:Fe} {pos p2:Pos} {nl:Nat} {G:List Str} {x:Str} {p:Pos} {fs:aS->R (List PyData)} {pos2:Pos}
noncomputable def i4 (lo:Int) (n:Nat):List V:=(List.range n).map fun (k:Nat)=>.int (lo+k)
theorem v4 {H:Hp} (lo:Int) (n:Nat):bz H (bR lo n) (i4 lo n):=by
  have key:∀ l:List Nat,bz H (l.map fun (k:Nat)=>PyData.int (lo+k)) (l.map fun (k:Nat)=>V.int (lo+k)):=by
    intro l;induction l with
    | nil=>exact bz.nil
    | cons k l ih=>exact bz.cons cF ih
  exact key _
theorem tI {lo:Int} {n:Nat} {acc:Array Value} (h:ItemsOf (fun i v=>∃ t,v=.int (lo+(i:Int)*1) t) acc n):bB (i4 lo n) acc.toList:=by
  refine tZ (by rw [Array.length_toList,h.1];simp [i4]) fun j v hj=>?_
  obtain ⟨t,e⟩:=h.2 j v (by rw [<- Array.getElem?_toList];exact hj);have hjn:j < n:=by
    have:=(List.getElem?_eq_some_iff.mp hj).1;rw [Array.length_toList,h.1] at this;exact this
  refine ⟨.int (lo+j),?_,t,by rw [e];simp⟩;unfold i4;rw [List.getElem?_map,List.getElem?_range hjn];rfl
theorem sE (lo:Int) (n:Nat):(i4 lo n).length=n:=by simp [i4]
noncomputable def EK (mk:List V->HO) (ta:TA):TE:=fun σ H Q=>ta σ H fun vs H1=>∃ j:Int,vs=[.int j]/\j<=16777216/\-(2 ^ 62)<=j/\∀ l,H1 l=none->Q (.ref l) (cA H1 l (mk (i4 0 j.toNat)))
theorem yc {ta:TA} (T:Tb X nl G) (i:Nat) (hGi:G[i]?=some ("tuple" : Str)) (hmi:X.mg "tuple" = none) (j:Nat) (hG:G[j]?=some ("range" : Str)) (hm:X.mg "range" = none) (ha:PA X [a] ta) (hs:aO a=true:=by rfl) :
    PE X (.Call (.Name "tuple" p) [.Call (.Name "range" p2) [a] [] pos2] [] pos) (EK .tup ta):=by
  intro pins s σ H Q I h;have g1:=T.gl _ (List.mem_of_getElem? hGi);have g2:=T.gl _ (List.mem_of_getElem? hG);have sc:starEach [Expr.Call (.Name "range" p2) [a] [] pos2] X.env=(false,eval (Expr.Call (.Name "range" p2) [a] [] pos2) X.env)::starEach [] X.env:=bo (by rfl);refine Call_ (ie I g1.1 hmi PyProof.Rows.boot_tuple (PyProof.Rows.callWith_type1 ?_ sc rfl));rw [sc];refine Calls.spliced_cons ?_;refine Call_ (ie I g2.1 hm boot_range (PyProof.Rows.callWith_type1 (df (ha pos2 pins s σ H _ I h) fun us s1 ⟨vs,H1,I1,r1,q1⟩=>?_) (bo hs) rfl));obtain ⟨n,e,h1,h2,q⟩:=q1;subst e;obtain ⟨u,rfl,t,rfl⟩:=fO r1;refine call_range_1 (Calls.spliced_nil ?_);have hsz:Builtin.Range.rangeSize 0 n 1=n.toNat:=by rw [rangeSize_one];split <;> omega
  refine kQ (n:=n.toNat) (I1.ok.hd T.calm) (IsRange.new ..) (small_one (by omega) (by omega) (by omega) (by omega)) hsz (by omega) fun h' tk acc kp hacc=>?_
  have kp':∀ b o,s1.heap.get? b=some o->h'.get? b=some o:=fun b o e=>kp b o (Heap.get?_push_of_some _ e)
  have hg:s1.heap.get? h'.objs.size=none:=by
    cases e:s1.heap.get? h'.objs.size with
    | none=>rfl
    | some o=>exact absurd (Heap.lt_size (kp' _ _ e)) (Nat.lt_irrefl _)
  have hn:=qS I1 hg;refine ⟨.ref h'.objs.size,_,rH (s:=s1) (t':=tk) (o:=.tup (i4 0 n.toNat)) I1 (fun b o e=>Heap.get?_push_of_some _ (kp' b o e)) hg hn ⟨by rw [sE,sizeLine_eq];omega,acc.toList,tI hacc,_,Heap.get?_push_size _ rfl,rfl,_,by simp;rfl⟩,rfl,q _ hn⟩
noncomputable def Dc (mk:List PyData->PyData):List PyData->R PyData
  | [.int j]=>if j<=16777216/\-(2 ^ 62)<=j then .ok (mk (bR 0 j.toNat)) else .no
  | _=>.no
noncomputable def xJ (fs:aS->R (List PyData)):Fe:=fun ρ=>fs ρ>>=Dc .tuple
theorem vK (T:Tb X nl G) (i:Nat) (hGi:G[i]?=some ("tuple" : Str)) (hmi:X.mg "tuple" = none) (j:Nat) (hG:G[j]?=some ("range" : Str)) (hm:X.mg "range" = none) (ha:Z.sg X [a] fs) (hs:aO a=true:=by rfl):Z.cI X (.Call (.Name "tuple" p) [.Call (.Name "range" p2) [a] [] pos2] [] pos) (xJ fs):=⟨have ha:=ha.un;PE.imp (yc T i hGi hmi j hG hm ha hs) fun σ H Q h=>(kD (I:=Rp) (f:=fs) (k:=fun _=>Dc .tuple) (fM (X:=X) fE Q) h).post fun vs H1 ⟨_,ds,_,_,p1,q1⟩=>by
    unfold Dc at q1;split at q1
    · rename_i n;split at q1
      · rename_i hz;simp only [RA] at p1;obtain ⟨v,r',rfl,p,rfl⟩:=p1;have ev:v=.int n:=by simpa only [Rp] using p
        subst ev;exact ⟨n,rfl,hz.1,hz.2,fun l hl=>q1 _ _ (cq hl _) (dA hl (v4 0 n.toNat))⟩
      · exact q1.elim
    · exact q1.elim⟩
end
section
variable {X:Cx} {a b:Expr} {fa fb:Fe} {pos p2:Pos}
noncomputable def Fu:PyData->PyData->R PyData
  | .list xs,.int k=>if -(2 ^ 63)<=k/\k < 2 ^ 63/\xs.length*k.toNat<=sizeLine then .ok (.list (List.replicate k.toNat xs).flatten) else .no
  | _,_=>.no
end
theorem bz.set {H:Hp} {d:PyData} {v:V} (p:Rp H d v):∀ {ds:List PyData} {vs:List V} (j:Nat),bz H ds vs->bz H (ds.set j d) (vs.set j v)
  | [],vs,j,r=>by rw [r.nil_inv];exact bz.nil
  | d'::ds,vs,j,r=>by
    obtain ⟨v',r',rfl,p',t⟩:=r.cons_inv;cases j with
    | zero=>exact bz.cons p t
    | succ j=>exact bz.cons p' (bz.set p j t)
noncomputable def gf (i:Nat) (fk fv:Fe):Fs:=fun ρ=>fv ρ>>=fun v=>lS (fk ρ)>>=fun k=>match ρ[i]?,k with
  | some (.own (.list ds)),.int n=>match uu ds.length n with
    | some j=>.ok (.nx (ρ.set i (.own (.list (ds.set j v)))))
    | none=>.no
  | _,_=>.no
section
variable {X:Cx} {nl:Nat} {G:List Str} {x:Str} {f:Fe} {e:Expr}
theorem gO {k v:Expr} {fk fv:Fe} {q1 q2 q3:Pos} (T:Tb X nl G) (n:Nat) (hN:X.N[n]?=some x) (hk:Z.cI X.nox k fk) (hv:Z.cI X v fv) (hs:swapsWithSole [.Subscript (.Name x q1) k q2] v q3.line X.env=pure false:=by rfl) (hw:swappedStores [.Subscript (.Name x q1) k q2] v X.env=pure none:=by rfl) (h1:(assignEach [.Subscript (.Name x q1) k q2] X.env).map (·.2)=[assign (.Subscript (.Name x q1) k q2) X.env]:=by rfl) (ha:∀ v,assign (.Subscript (.Name x q1) k q2) X.env v=(do
      let ov <- holding [v] (eval (.Name x q1) X.env)
      let iv <- holding [v,ov] (eval k X.env)
      standAt q2
      holding [v,ov,iv] (setItem ov iv v)
      release [v,ov,iv] []):=by intro _;rfl):Z.kA X (.Assign [.Subscript (.Name x q1) k q2] v q3) (gf n fk fv):=⟨have hk:=hk.un;have hv:=hv.un;fun Fm=>by
  have hm:=T.vis x (List.mem_of_getElem? hN);have hkX:PE X k (fun σ H Q=>jI X.nox iO fk σ H Q):=fun pins s σ H Q I h=>wpAny_mono (hk pins s σ H Q (I.wish _) h) (fun v s' ⟨y,H',I',r,q⟩=>⟨y,H',I'.unwish,r,q⟩) fun _ _ z=>False.elim z
  refine PS.imp (Cf hv (CB (kC hN hm.1 hm.2.1 hm.2.2) hkX x5 ha) hs hw h1) fun D σ H h=>?_
  refine (my (P:=iO) (f:=fv) (k:=fun ρ v=>lS (fk ρ)>>=fun k=>match ρ[n]?,k with
    | some (.own (.list ds)),.int m=>match uu ds.length m with
      | some j=>.ok (.nx (ρ.set n (.own (.list (ds.set j v)))))
      | none=>.no
    | _,_=>.no) h).post fun vv H1 ⟨ρ1,dv,sl1,_,p1,q1⟩=>?_
  cases ef:fk ρ1 with
  | ex c=>rw [ef] at q1;exact q1.elim
  | no=>rw [ef] at q1;exact q1.elim
  | ok kd =>
    rw [ef] at q1;simp only [lS,R.ok_bind] at q1;cases er:ρ1[n]? with
    | none=>rw [er] at q1;exact q1.elim
    | some c =>
      rw [er] at q1;cases c with
      | non=>exact q1.elim
      | exc p=>exact q1.elim
      | val d'=>exact q1.elim
      | own d' =>
        cases d' with
        | list ds =>
          cases kd with
          | int m =>
            dsimp only at q1;cases ei:uu ds.length m with
            | none=>rw [ei] at q1;exact q1.elim
            | some j =>
              rw [ei] at q1;obtain ⟨o,h2,w',rfl,p2⟩:=sl1.sl.at er;simp only [iA] at p2;obtain ⟨a',vs,rfl,ha',r⟩:=p2;refine ⟨.ref a',h2,ρ1,sl1.sl,?_⟩;rw [ef];intro yv H3 s3 p3;have ev:yv=.int m:=by simpa only [Rp] using p3
              have ha3:=s3 _ _ ha';have r3:=r.mono s3;refine ⟨a',vs,m,j,rfl,ev,ha3,by rw [r.length];exact ei,q1 _ _ ((sl1.mono s3).change er h2 ha3 (.inl ⟨_,rfl⟩) ?_)⟩;simp only [iA];exact ⟨a',_,rfl,ba,bz.kp (fX ha3 (.inl ⟨_,rfl⟩)) _ _ (bz.set (p1.mono s3) j r3)⟩
          | _=>exact q1.elim
        | _=>exact q1.elim⟩
noncomputable def Ey (g:Int->Int->Int):PyData->PyData->R PyData
  | .int i,.int j=>.ok (.int (g i j))
  | _,_=>.no
noncomputable def wn (i:Nat) (g:Int->Int->Int) (f:Fe):Fs:=fun ρ=>ae i ρ>>=fun x=>f ρ>>=fun y=>Ey g x y>>=fun z=>.ok (.nx (ρ.set i (.val z)))
theorem AL {op:Operator} {g:Int->Int->Int} {pos pos':Pos} (ho:E7 X op (FB g)) (T:Tb X nl G) (i:Nat) (hN:(X.N.take nl)[i]?=some x) (he:cI X e f):kA X (.AugAssign (.Name x pos') op e pos) (wn i g f):=fun Fm=>by
  obtain ⟨n1,n2,n3⟩:=T.nm hN;refine PS.imp (Bs T.nd n1 n2 he ho n3) fun D σ H h=>?_
  obtain ⟨ρ,sl,q⟩:=h;unfold wn at q;cases ev:ae i ρ with
  | ex c=>exact absurd ev (by unfold ae;split <;> simp)
  | no=>rw [ev] at q;exact q.elim
  | ok dx =>
    rw [ev] at q;simp only [R.ok_bind] at q;have hc:ρ[i]?=some (.val dx):=by
      unfold ae at ev;split at ev
      · rename_i d hd;cases ev;exact hd
      · cases ev
    obtain ⟨o,h2,w',rfl,p2⟩:=sl.sl.at hc;refine ⟨w',h2,?_⟩;refine (my (P:=iO) (f:=f) (k:=fun ρ y=>Ey g dx y>>=fun z=>.ok (.nx (ρ.set i (.val z)))) ⟨ρ,sl,q⟩).post fun v H1 ⟨ρ1,d,sl1,s1,p,q1⟩=>?_
    cases dx with
    | int a =>
      cases d with
      | int b =>
        have e1:w'=.int a:=by simpa only [Rp] using p2
        have e2:v=.int b:=by simpa only [Rp] using p
        subst e1;subst e2;exact ⟨a,b,rfl,rfl,q1 _ H1 (sl1.set i (fun e z=>by cases z) ⟨.int (g a b),rfl,cF⟩)⟩
      | _=>exact q1.elim
    | _=>exact q1.elim
theorem vH {pos pos':Pos} (T:Tb X nl G) (i:Nat) (hN:(X.N.take nl)[i]?=some x) (he:Z.cI X e f):Z.kA X (.AugAssign (.Name x pos') .Add e pos) (wn i (fun a b=>a+b) f):=⟨have he:=he.un;AL BI T i hN he⟩
end
section
variable {X:Cx} {o e:Expr} {fo fe:Fe} {apos cpos:Pos}
noncomputable def D7:PyData->R Unit
  | .list _=>.ok ()
  | _=>.no
end
noncomputable def w5:bh->bh
  | .own _=>.non
  | c=>c
noncomputable def il (i:Nat) (d:PyData) (ρ:aS):aS:=(ρ.map w5).set i (.val d)
noncomputable def jv:PyData->R PyData
  | .none=>.ok .none
  | .bool b=>.ok (.bool b)
  | .int k=>.ok (.int k)
  | .str x=>.ok (.str x)
  | .tuple ds=>match bg ds with
    | some _=>.ok (.tuple ds)
    | none=>.no
  | _=>.no
theorem xY {d:PyData} {c:Str}:jv d≠.ex c:=by
  cases d with
  | tuple ds =>
    show (match bg ds with | some _=>R.ok (PyData.tuple ds) | none=>.no)≠_;cases bg ds <;> exact fun z=>nomatch z
  | _=>exact fun z=>nomatch z
noncomputable def gy (i:Nat) (f:Fe):Fe:=fun ρ=>match ρ[i]? with
  | some (.own d)=>lS (f (il i d ρ))>>=jv
  | _=>f ρ
section
variable {X:Cx} {pins:List (Addr×Obj)} {σ:St} {H H1:Hp} {s s':Shared} {a:Addr} {u:HO} {o:Obj}
theorem vD (h:H a=some u) (S:aB (cA H a (.frz o u)) H1):aB H (cA H1 a u):=fun b x e=>by
  by_cases hb:b=a
  · subst hb;rw [ba];rw [h] at e;exact e
  · rw [ar hb];exact S b x (by rw [ar hb];exact e)
theorem ye (I:aF X pins σ H s) (h:H a=some u) (hm:(∃ xs,u=.lst xs)\/∃ ks,u=.dK ks) (S:aB (cA H a (.frz o u)) H1) (J:aF X pins σ H1 s'):aF X pins σ (cA H1 a u) s':=by
  have ha:H1 a=some (.frz o u):=S a _ ba;have nt:∀ b xs,H1 b=some (.tup xs)->b≠a:=fun b xs q z=>by subst z;rw [ha] at q;cases q
  have nb:∀ b ps,H1 b=some (.tbl ps)->b≠a:=fun b ps q z=>by subst z;rw [ha] at q;cases q
  have nw:∀ b y,H1 b=some (.own y)->b≠a:=fun b y q z=>by subst z;rw [ha] at q;cases q
  have nn:∀ b,H1 b=none->b≠a:=fun b q z=>by subst z;rw [ha] at q;cases q
  have st:∀ b x,bW X.prog X.w H1 s'.heap b x->bW X.prog X.w (cA H1 a u) s'.heap b x:=fun b x q =>
    q.stay (fun c v _ e=>e) (fun c e=>by rw [ar (nw _ _ e)];exact e) fun c xs e=>by rw [ar (nt _ _ e)];exact e
  refine ⟨J.ok,J.os,J.bare,⟨J.base.keep,J.base.slot,fun b ob' e n hx=>?_,J.base.there,fun b xs e=>?_,fun b ob' v e=>?_,fun b ps e=>?_⟩,J.loc,J.cell,?_,fun x c e=>?_,fun p hp=>?_,fun b x e=>?_,J.len⟩
  · have:=J.base.free b ob' e n hx;rw [ar (nn _ this)];exact this
  · have:=J.base.tups b xs e;rw [ar (nt _ _ this)];exact this
  · have q:=I.base.frzs b ob' v e;have hb:b≠a:=fun z=>by subst z;rw [h] at q;rcases hm with ⟨_,rfl⟩ | ⟨_,rfl⟩ <;> cases q
    rw [ar hb];exact J.base.frzs b ob' v e
  · obtain ⟨m,q⟩:=J.base.tbls b ps e;exact ⟨m,by rw [ar (nb _ _ q)];exact q⟩
  · rw [ar (nn _ J.free)];exact J.free
  · rw [ar (nn _ (J.freeC x c e))];exact J.freeC x c e
  · obtain ⟨p1,p2,p3⟩:=J.pin p hp;exact ⟨p1,by rw [ar (nn _ p2)];exact p2,p3⟩
  · by_cases hb:b=a
    · subst hb;rw [ba] at e;cases e;obtain ⟨_,q⟩:=(show bW X.prog X.w H1 s'.heap b (.frz o u) from J.hok b _ ha)
      exact st b u q
    · rw [ar hb] at e;exact st b x (J.hok b x e)
theorem uq {ρ:aS} {i:Nat} {d:PyData} {v:V} (sl:Sl H σ ρ) (k:Kp H H1) (hv:σ[i]?=some (some v)) (hr:Rp H1 d v):Sl H1 σ (il i d ρ):=by
  unfold il;refine ⟨by rw [List.length_set,List.length_map];exact sl.1,fun j c w' e1 e2=>?_⟩;rw [List.getElem?_set] at e1;by_cases hij:i=j
  · subst hij;rw [if_pos rfl] at e1;split at e1
    · cases e1;rw [hv] at e2;cases e2;exact ⟨_,rfl,hr⟩
    · cases e1
  · rw [if_neg hij,List.getElem?_map] at e1;cases ec:ρ[j]? with
    | none=>rw [ec] at e1;cases e1
    | some c' =>
      rw [ec] at e1;have e1':w5 c'=c:=Option.some.inj e1;subst e1';have q:=sl.2 j c' w' ec e2;cases c' with
      | exc p=>exact q
      | non=>exact True.intro
      | val d'=>obtain ⟨v,z1,z2⟩:=q;exact ⟨v,z1,Rp.kp k _ _ z2⟩
      | own d'=>exact True.intro
end
theorem oP {H H':Hp}:∀ {ns:List Int} {vs:List V},bz H (ns.map .int) vs->bz H' (ns.map .int) vs
  | [],vs,r=>by rw [r.nil_inv];exact bz.nil
  | n::ns,vs,r=>by
    rw [List.map_cons] at r;obtain ⟨v,r',rfl,p,t⟩:=r.cons_inv;exact bz.cons (by simp only [Rp] at p ⊢;exact p) (oP t)
theorem zm {H H':Hp} {d d':PyData} {v:V} (kt:∀ b xs,H b=some (.tup xs)->H' b=some (.tup xs)) (h:jv d=.ok d') (r:Rp H d v):Rp H' d' v:=by
  cases d with
  | tuple ds =>
    cases ei:bg ds with
    | none =>
      rw [show jv (.tuple ds)=(match bg ds with | some _=>R.ok (PyData.tuple ds) | none=>.no) from rfl,ei] at h;cases h
    | some ns =>
      rw [show jv (.tuple ds)=(match bg ds with | some _=>R.ok (PyData.tuple ds) | none=>.no) from rfl,ei] at h;cases h;simp only [Rp] at r ⊢;obtain ⟨a,vs,e,ha,q⟩:=r;rw [dl ei] at q ⊢;exact ⟨a,vs,e,kt a vs ha,oP q⟩
  | none=>cases h;simp only [Rp] at r ⊢;exact r
  | bool b=>cases h;simp only [Rp] at r ⊢;exact r
  | int i=>cases h;simp only [Rp] at r ⊢;exact r
  | str x=>cases h;simp only [Rp] at r ⊢;exact r
  | list ds=>cases h
  | dict kvs=>cases h
theorem cI.lent {X:Cx} {e:Expr} {f:Fe} (i:Nat) (h:cI X e f):cI X e (gy i f):=by
  intro pins s σ H Q I q;obtain ⟨ρ,sl,q⟩:=q;by_cases ho:∃ d,ρ[i]?=some (.own d)
  · obtain ⟨d,ho⟩:=ho;have el:gy i f ρ=(lS (f (il i d ρ))>>=jv):=by unfold gy;rw [ho]
    rw [el] at q;have go:∀ (a:Addr) (u:HO) (hu:H a=some u) (hm:(∃ xs,u=.lst xs)\/∃ ks,u=.dK ks) (o:Obj) (J:aF X pins σ (cA H a (.frz o u)) s) (sl1:Sl (cA H a (.frz o u)) σ (il i d ρ)),wpAny (model X.prog X.w) X.A (eval e X.env) (EP X pins σ Q) X.xe s:=fun a u hu hm o J sl1=>by
      cases ef:f (il i d ρ) with
      | no=>rw [ef] at q;exact q.elim
      | ex c=>rw [ef] at q;exact q.elim
      | ok d1 =>
        rw [ef] at q;change uR X iO (jv d1) H Q at q;cases ea:jv d1 with
        | no=>rw [ea] at q;exact q.elim
        | ex c=>exact (xY ea).elim
        | ok d2 =>
          rw [ea] at q;refine df (h pins s σ (cA H a (.frz o u)) (fun v H'=>aB (cA H a (.frz o u)) H'/\Rp H' d1 v) J ⟨il i d ρ,sl1,by rw [ef];exact fun v H' hs p=>⟨hs,p⟩⟩) fun w s' ⟨v,H',J',r,hs,p⟩=>?_
          exact ⟨v,cA H' a u,ye I hu hm hs J',r,q v _ (vD hu hs) (zm (fun b xs e=>by
            have hb:b≠a:=fun z=>by subst z;rw [hs b _ ba] at e;cases e
            rw [ar hb];exact e) ea p)⟩
    obtain ⟨w',h2,v,rfl,qo⟩:=sl.at ho;cases d <;> simp only [iA] at qo
    · rename_i ds;obtain ⟨a,vs,rfl,ha,r⟩:=qo;obtain ⟨o,J⟩:=ge I ha (.inl ⟨_,rfl⟩);have kp:=fX (o':=.frz o (.lst vs)) ha (.inl ⟨_,rfl⟩);have hr:Rp (cA H a (.frz o (.lst vs))) (.list ds) (.ref a):=by
        simp only [Rp];exact ⟨a,o,vs,rfl,ba,bz.kp kp _ _ r⟩
      exact go a _ ha (.inl ⟨_,rfl⟩) o J (uq sl kp h2 hr)
    · rename_i ds;obtain ⟨a,vs,rfl,ha,r⟩:=qo;obtain ⟨o,J⟩:=ge I ha (.inr ⟨_,rfl⟩);have kp:=fX (o':=.frz o (.dK vs)) ha (.inr ⟨_,rfl⟩);have hr:Rp (cA H a (.frz o (.dK vs))) (.dict ds) (.ref a):=by
        simp only [Rp];exact .inl ⟨a,o,vs,rfl,ba,dQ.kp kp _ _ r⟩
      exact go a _ ha (.inr ⟨_,rfl⟩) o J (uq sl kp h2 hr)
  · have el:gy i f ρ=f ρ:=by
      unfold gy;split
      · rename_i d e1;exact (ho ⟨d,e1⟩).elim
      · rfl
    rw [el] at q;exact h pins s σ H Q I ⟨ρ,sl,q⟩
theorem nk {X:Cx} {e:Expr} {f:Fe} (i:Nat) (h:Z.cI X e f):Z.cI X e (gy i f) :=
  ⟨D2.cI.lent i h.un⟩
noncomputable def yA (C:Addr) (names:List Str) (ds:List PyData):PyData:=.dict ((.none,.int C)::(names.zip ds).map fun p=>(.str p.1,p.2))
noncomputable def sV (f:Str):List (PyData×PyData)->R PyData
  | []=>.no
  | (.str x,d)::r=>if x=f then .ok d else sV f r
  | _::_=>.no
noncomputable def jQ (C:Addr) (f:Str):PyData->R PyData
  | .dict ((.none,.int c)::kvs)=>if c=(C:Int) then sV f kvs else .no
  | _=>.no
noncomputable def rh (C:Addr) (names:List Str) (fs:aS->R (List PyData)):Fe:=fun ρ=>fs ρ>>=fun ds=>.ok (yA C names ds)
noncomputable def Ez (C:Addr) (names:List Str):Sp:=fun vs H Q _=>∃ x dx ws,vs=.ref x::ws/\H x=some (.ins C dx [])/\ws.length=names.length/\∀ H',H' x=some (.ins C dx (names.zip ws))->(∀ b,b≠x->H' b=H b)->Q .non H'
section
variable {X:Cx} {pins:List (Addr×Obj)} {σ:St} {H:Hp} {s:Shared} {a C dx:Addr} {fs:List (Str×V)}
theorem rZ (I:aF X pins σ H s) (h:H a=some (.ins C dx fs)):∃ o,aF X pins σ (cA H a (.frz o (.ins C dx fs))) s:=by
  have ob:=I.hok a _ h;obtain ⟨o,hg⟩:=pY ob;have nt:∀ b xs,H b=some (.tup xs)->b≠a:=fun b xs q z=>by subst z;rw [h] at q;cases q
  have nf:∀ b o' u',H b=some (.frz o' u')->b≠a:=fun b o' u' q z=>by subst z;rw [h] at q;cases q
  have nb:∀ b ps,H b=some (.tbl ps)->b≠a:=fun b ps q z=>by subst z;rw [h] at q;cases q
  have nw:∀ b y,H b=some (.own y)->b≠a:=fun b y q z=>by subst z;rw [h] at q;cases q
  have nn:∀ b,H b=none->b≠a:=fun b q z=>by subst z;rw [h] at q;cases q
  have st:∀ b x,bW X.prog X.w H s.heap b x->bW X.prog X.w (cA H a (.frz o (.ins C dx fs))) s.heap b x:=fun b x q =>
    q.stay (fun c v _ e=>e) (fun c e=>by rw [ar (nw _ _ e)];exact e) fun c xs e=>by rw [ar (nt _ _ e)];exact e
  refine ⟨o,⟨I.ok,I.os,I.bare,⟨I.base.keep,I.base.slot,fun b ob' e n hx=>?_,I.base.there,fun b xs e=>?_,fun b ob' v e=>?_,fun b ps e=>?_⟩,I.loc,I.cell,?_,fun x c e=>?_,fun p hp=>?_,fun b x e=>?_,I.len⟩⟩
  · have:=I.base.free b ob' e n hx;rw [ar (nn _ this)];exact this
  · have:=I.base.tups b xs e;rw [ar (nt _ _ this)];exact this
  · have:=I.base.frzs b ob' v e;rw [ar (nf _ _ _ this)];exact this
  · obtain ⟨m,q⟩:=I.base.tbls b ps e;exact ⟨m,by rw [ar (nb _ _ q)];exact q⟩
  · rw [ar (nn _ I.free)];exact I.free
  · rw [ar (nn _ (I.freeC x c e))];exact I.freeC x c e
  · obtain ⟨p1,p2,p3⟩:=I.pin p hp;exact ⟨p1,by rw [ar (nn _ p2)];exact p2,p3⟩
  · by_cases hb:b=a
    · subst hb;rw [ba] at e;cases e;exact ⟨hg,st b _ ob⟩
    · rw [ar hb] at e;exact st b x (I.hok b x e)
theorem zw {o':HO} (h:H a=some (.ins C dx fs)):Kp H (cA H a o'):=by
  refine ⟨fun b xs e=>?_,fun b o v e=>?_⟩
  · rw [ar];exact e;rintro rfl;rw [h] at e;cases e
  · rw [ar];exact e;rintro rfl;rw [h] at e;cases e
end
theorem u9 {H:Hp}:∀ {names:List Str} {ds:List PyData} {vs:List V},bz H ds vs->sf H ((names.zip ds).map fun p=>(.str p.1,p.2)) (names.zip vs)
  | [],ds,vs,_=>by simp only [List.zip_nil_left,List.map_nil,sf]
  | n::names,[],vs,r=>by
    simp only [bz] at r;subst r;simp only [List.zip_nil_right,List.map_nil,sf]
  | n::names,d::ds,vs,r=>by
    simp only [bz] at r;obtain ⟨v,t,rfl,p,q⟩:=r;simp only [List.zip_cons_cons,List.map_cons,sf,Bl];exact ⟨n,v,_,rfl,⟨rfl,p⟩,u9 q⟩
theorem uA {H:Hp} {f:Str} {d:PyData}:∀ {kvs:List (PyData×PyData)} {fs:List (Str×V)},sf H kvs fs->sV f kvs=.ok d->∃ v,fs.lookup f=some v/\Rp H d v
  | [],fs,_,e=>by cases e
  | (k,d')::kvs,fs,r,e=>by
    simp only [sf,Bl] at r;obtain ⟨x,v,t,rfl,⟨rfl,p⟩,q⟩:=r;simp only [sV] at e;by_cases h:x=f
    · rw [if_pos h] at e;cases e;subst h;exact ⟨v,by rw [List.lookup_cons_self],p⟩
    · rw [if_neg h] at e;obtain ⟨w,w1,w2⟩:=uA q e;refine ⟨w,?_,w2⟩;rw [List.lookup_cons];have:(f==x)=false:=by
        cases z:f==x with
        | false=>rfl
        | true=>exact (h (eq_of_beq z).symm).elim
      rw [this];exact w1
theorem ue {f:Str} {c:Str}:∀ {kvs:List (PyData×PyData)},sV f kvs≠.ex c
  | [],e=>by cases e
  | (k,d)::kvs,e=>by
    cases k <;> simp only [sV] at e <;> try cases e
    split at e
    · cases e
    · exact ue e
section
variable {X:Cx} {e:Expr} {es:List Expr} {fe:Fe} {pos p:Pos} {nl:Nat} {G:List Str} {x:Str}
theorem qP {k:Nat} {C f:Addr} {fd:FuncData} {ps names:List Str} {fs:aS->R (List PyData)} (M:Mk X.K C f) (F:bf X.prog X.w X.K X.mg X.base (cV X.prog X.w X.mg) k f fd ps (Ez C names)) (hr:eJ (k+1) X.A) (T:Tb X nl G) (j:Nat) (hG:G[j]?=some x) (hm:X.mg x=some (.ref C)) (hb:bO X.K fd ps []) (ha:Z.sg X (e::es) fs) (hfs:∀ ρ ds,fs ρ=.ok ds->ds.length=names.length) (he:(e::es).all aO=true:=by rfl):Z.cI X (.Call (.Name x p) (e::es) [] pos) (rh C names fs):=⟨have ha:=ha.un;by
  rw [List.all_cons,Bool.and_eq_true] at he;have g:=T.gl x (List.mem_of_getElem? hG);intro pins s σ H Q I ⟨ρ,sl,q⟩;unfold rh at q;have base:=zD (p:=p) (pos:=pos) M F hr g.1 hm hb .nil ur ha g.2.1 (bo he.1) (l6 he.2);cases e1:fs ρ with
  | ex c=>rw [e1] at q;exact df (base pins s σ H (fun _ _=>False) I ⟨ρ,sl,by rw [e1];exact q⟩) fun u s' ⟨v,H',I',r,z⟩=>z.elim
  | no=>rw [e1] at q;exact q.elim
  | ok ds =>
    rw [e1] at q;have q':uR X iO (.ok (yA C names ds)) H Q:=q;refine df (base pins s σ H (fun v H'=>∃ a dx vs,v=.ref a/\H a=none/\H' a=some (.ins C dx (names.zip vs))/\bz H' ds vs/\aB H H') I ⟨ρ,sl,?_⟩) fun u s' ⟨v,H',I',r,a,dx,vs,ev,hn,ha',rp,sm⟩=>?_
    · rw [e1];intro vs H1 s1 r1 y dy hy hdy hne;rw [List.append_nil];have r2:=mO.mp r1;refine ⟨y,dy,vs,rfl,ba,by rw [r2.length];exact hfs ρ ds e1,fun H' h1 h2=>⟨rfl,y,dy,vs,rfl,s1.free hy,h1,?_,?_⟩⟩
      · have sm:aB H1 H':=fun b o eb=>by
          rw [h2 b (aR eb hy),ar (aR eb hy),ar (aR eb hdy)];exact eb
        exact r2.mono sm
      · intro b o eb;have eb1:=s1 b o eb;rw [h2 b (aR eb1 hy),ar (aR eb1 hy),ar (aR eb1 hdy)];exact eb1
    · subst ev;obtain ⟨o,J⟩:=rZ I' ha';have kp:=zw (o':=.frz o (.ins C dx (names.zip vs))) ha';refine ⟨.ref a,_,J,r,q' _ _ (fun b x eb=>by rw [ar (aR eb hn)];exact sm b x eb) ?_⟩;show Rp _ (yA C names ds) _;unfold yA;simp only [Rp];refine .inr ⟨a,o,C,dx,_,rfl,ba,?_⟩;simp only [wG];exact ⟨True.intro,sf.kp kp _ _ (u9 rp)⟩⟩
noncomputable def Di (K:PySem.W.Frag) (ta:TE) (f:Str):TE:=fun σ H Q=>ta σ H fun x H1=>∃ a o C dx fs v,x=.ref a/\H1 a=some (.frz o (.ins C dx fs))/\wJ K C/\dS K C f/\fs.lookup f=some v/\Q v H1
theorem AG {f:Str} {ta:TE} (he:PE X e ta) (hb:attributeBase e f X.env (eval e X.env)=eval e X.env):PE X (.Attribute e f pos) (Di X.K ta f):=by
  intro pins s σ H Q I h;refine Ax hb (df (he pins s σ H _ I h) fun u s1 ⟨x,H1,I1,rx,a,o,C,dx,fs,v,ex,ea,c,n,l,q⟩=>?_);subst ex;obtain rfl:u=Value.ref a:=rx;obtain ⟨_,d,z,ne,ob,mA,nn,r,qq⟩:=(show bW X.prog X.w H1 s1.heap a (.frz o (.ins C dx fs)) from I1.hok a _ ea)
  obtain ⟨u',hu,ru⟩:=kU.some_of (v:=v) (o:=mA f) (by rw [<- l];exact r f);exact zd I1.kIn ⟨ob,nn,ne⟩ (c.get f) c.hd n hu (wj ru) ⟨v,H1,I1.tok _,ru,q⟩
theorem jY {C:Addr} {f:Str} (cl:wJ X.K C) (na:dS X.K C f) (he:Z.cI X e fe) (hb:attributeBase e f X.env (eval e X.env)=eval e X.env:=by rfl):Z.cI X (.Attribute e f pos) (e1 (jQ C f) fe):=⟨have he:=he.un;by
  refine PE.imp (AG he hb) fun σ H Q h=>?_
  refine (fy (P:=iO) (f:=fe) (k:=fun _ x=>jQ C f x) (fM (X:=X) fE Q) h).post fun v H1 ⟨_,d1,_,_,p1,q1⟩=>?_
  unfold jQ at q1;split at q1
  · rename_i c kvs;split at q1
    · rename_i hc;cases ef:sV f kvs with
      | no=>rw [ef] at q1;exact q1.elim
      | ex c=>exact (ue ef).elim
      | ok d =>
        rw [ef] at q1;have p2:Rp H1 (.dict ((.none,.int c)::kvs)) v:=p1;simp only [Rp] at p2;rcases p2 with ⟨a,o,ks,rfl,ha,r⟩ | ⟨a,o,C',dx,fs,rfl,ha,r⟩
        · simp only [dQ,yY] at r;obtain ⟨κ,_,_,_,⟨r1,_⟩,_⟩:=r;cases κ <;> cases r1
        · simp only [wG] at r;obtain ⟨r1,r2⟩:=r;have hC:c=(C':Int):=by injection r1 with _ r3;injection r3
          have hCC:C'=C:=by
            have:(C':Int)=(C:Int):=hC.symm.trans hc;exact Int.ofNat.inj this
          subst hCC;obtain ⟨w,w1,w2⟩:=uA r2 ef;exact ⟨a,o,C',dx,fs,w,rfl,ha,cl,na,w1,q1 w H1 (aB.refl _) w2⟩
    · exact q1.elim
  · exact q1.elim⟩
end
theorem DL {a b c:Str} {x y z:V} (h1:¬ a=b) (h2:¬ a=c) (h3:¬ b=c):gN c z (gN b y (gN a x []))=[(a,x),(b,y),(c,z)]:=by
  simp only [gN,if_neg h1,if_neg h2,if_neg h3]
noncomputable abbrev g9:=List PyData->R PyData
structure iq (P:Program) (w:World) (K:PySem.W.Frag) (mg:Str->Option Value) (base:Heap) (k:Nat) (x:Str) (ps:List Str) (F:g9) (f:Addr) (fd:FuncData):Prop where
  ok:bf P w K mg base (cV P w mg) k f fd ps (dz F ps.length)
  m:mg x=some (.ref f)
  kp:PySem.W.keepIn K (.ref f)=true
  b:bO K fd ps []
theorem aC {X:Cx} {k:Nat} {f:Addr} {fd:FuncData} {ps:List Str} {F:g9} {x:Str} {p pos:Pos} {e:Expr} {es:List Expr} {fs:aS->R (List PyData)} {nl:Nat} {G:List Str} (C:iq X.prog X.w X.K X.mg X.base k x ps F f fd) (hr:eJ k X.A) (T:Tb X nl G) (j:Nat) (hG:G[j]?=some x) (ha:Z.sg X (e::es) fs) (hlen:(e::es).length=ps.length) (hfs:∀ ρ ds,fs ρ=.ok ds->ds.length=ps.length) (he:(e::es).all aO=true:=by rfl):Z.cI X (.Call (.Name x p) (e::es) [] pos) (aG F fs):=⟨have ha:=ha.un;zn C.ok hr T j hG C.m C.kp C.b ha hlen hfs he⟩
structure cP (K:PySem.W.Frag) (x:Str) (st:Stmt) (f:Addr) (fd:FuncData):Prop where
  ns:PySem.W.nsIn K mainGlobals x=some (some (.ref f))
  fn:gI K x x st f fd
theorem bd {K:PySem.W.Frag} {x:Str} {st:Stmt} {f:Addr} {oc:Value} {od an:Option Addr} {osl:Array (Option Value)} {kV doc pm cdv ct:Value} (a:PySem.W.nsIn K mainGlobals x=some (some (.ref f))) (l:K.lookup f=some ⟨oc,od,.func (PySem.W.fnOf x x (dJ st) (cN st) (ai st) .none kV doc pm an cdv ct),osl⟩) (c:PySem.W.codeIn K cdv x=true) (k:PySem.W.keepIn K (.ref f)=true) :
    cP K x st f (PySem.W.fnOf x x (dJ st) (cN st) (ai st) .none kV doc pm an cdv ct):=⟨a,ss l c k⟩
noncomputable def Es (i:Nat) (g:Fs):Fs:=fun ρ=>match ρ[i]? with
  | some (.own d)=>g (ρ.set i (.val d))
  | _=>g ρ
theorem AW {X:Cx} {st:Stmt} {g:Fs} (i:Nat) (h:Z.kA X st g):Z.kA X st (Es i g):=⟨have h:=h.un;fun Fm=>by
  intro pins s σ H D I ⟨ρ,sl,q⟩;unfold Es at q;split at q
  · rename_i d e;obtain ⟨H2,v,I2,sl2,_,_⟩:=A4 I sl e;exact h Fm pins s σ H2 D I2 ⟨_,sl2,q⟩
  · exact h Fm pins s σ H D I ⟨ρ,sl,q⟩⟩
end D2
namespace D2
open PySem PySem.Spec PyProof.Rows L2 PySem.Builtin PySem.Builtin.Str
end D2
set_option maxHeartbeats 400000
namespace D2
open PySem PySem.Spec PyProof.Rows L2 PySem.Builtin
end D2
namespace D2
open PySem PySem.Spec PyProof.Rows L2
end D2
namespace HT
open PySem PySem.Spec PyProof.Rows L2
theorem xA (A:Around) (s:Shared) (a:Int) (t:Tok) (c:Int) (u:Tok) (prog:Program) (w:World) (E:Value->Shared->Prop) (Q:Value->Shared->Prop) (h:Q (.bool (decide (c < a))) s) :
    wpAny (model prog w) A (richCompare .Gt (.int a t) (.int c u)) Q E s :=
  (PyProof.Rows.gt_int h:wpAny (model prog w) A (compareOp .Gt (.int a t) (.int c u)) Q E s)
theorem tP (x y:Int) (xs ys:List Int):lexLt (y::ys) (x::xs)=if x=y then lexLt ys xs else decide (y < x):=by
  rw [lexLt_cons];by_cases h:x=y
  · rw [if_pos h,if_pos h.symm]
  · rw [if_neg h,if_neg fun z=>h z.symm]
section
open PySem.SeqAt
open PySem.AutoSeq1 (wpAny_loadPart')
open PySem.MeetsSeq PySem.MeetsSeq2 PySem.MeetsSeq3
theorem nN (l b:Addr) (items items2:Array Value) (n n2:Nat) (dd dd2:Option Addr) (sl sl2:Array (Option Value)) (ns ms:List Int) (hi:IntsAre items.toList ns) (hj:IntsAre items2.toList ms) :
    Meets (Builtin.«tuple.__gt__» ⟨[.ref l,.ref b],[]⟩)
      (fun _ R s=>s.heap.get? l=some { cls:=.type "tuple",dict:=dd,data:=.seq items n,slots:=sl }/\s.heap.get? b=some { cls:=.type "tuple",dict:=dd2,data:=.seq items2 n2,slots:=sl2 } /\
        R (.ok (.ret (.bool (lexLt ms ns)))) s) :=
  .of_wp fun prog w A R s h=>by
    obtain ⟨hp,g,d,tk,os⟩:=s;obtain ⟨hl,hb,h⟩:=h;have f2:=AutoSeq1.sub_tuple_tuple;have z1:items.size=ns.length:=by rw [<- hi.length];simp
    have z2:items2.size=ms.length:=by rw [<- hj.length];simp
    wp_walk using wpAny_loadPart' hl,wpAny_loadPart' hb,wpAny_forIn_list _ (fun dW b s'=>b.1=none/\s'=⟨hp,g,d,tk,os⟩/\∃ (vs ws:List Value) (ns' ms':List Int),dW=vs.zip ws /\
      IntsAre vs ns'/\IntsAre ws ms'/\ns'.length+items2.size=ms'.length+items.size/\R (.ok (.ret (.bool (lexLt ms' ns')))) ⟨hp,g,d,tk,os⟩) _
    case turn =>
      rintro ⟨y,x⟩ dW b s' ⟨hb',rfl,vs,ws,ns',ms',hz,hvi,hwi,hlen,hR⟩;cases hvi with
      | nil=>rw [List.zip_nil_left] at hz;cases hz
      | cons a t hvi' =>
        cases hwi with
        | nil=>rw [List.zip_nil_right] at hz;cases hz
        | cons c u hwi' =>
          rw [List.zip_cons_cons] at hz;injection hz with hyx hrest
          injection hyx with hy hx
          subst hy hx;rw [tP] at hR;simp only [List.length_cons] at hlen;obtain ⟨e,he,hiff⟩:=qZ A.in1 ⟨hp,g,d,tk,os⟩ a t c u;refine wpAny_bind (he prog w _ _ ?_);cases e with
          | true =>
            rw [if_pos (hiff.mp rfl)] at hR
            wp_walk
            exact ⟨rfl,rfl,_,_,_,_,hrest,hvi',hwi',by omega,hR⟩
          | false =>
            rw [if_neg (fun q=>absurd (hiff.mpr q) Bool.false_ne_true)] at hR;have hri:=xA A.in1 ⟨hp,g,d,tk,os⟩ a t c u prog w
            wp_walk using hri
            exact ⟨_,rfl,by simpa using hR⟩
    case fin =>
      rintro ⟨b1,b2⟩ s' ⟨hb',rfl,vs,ws,ns',ms',hz,hvi,hwi,hlen,hR⟩;simp only at hb';subst hb';have hv:lexLt ms' ns'=decide (items2.size < items.size):=by
        cases hvi with
        | nil =>
          cases hwi with
          | nil =>
            simp only [List.length_nil] at hlen;rw [ju];exact (decide_eq_false (by omega)).symm
          | cons c u hw =>
            simp only [List.length_nil,List.length_cons] at hlen;rw [iP];exact (decide_eq_false (by omega)).symm
        | cons a t hv =>
          cases hwi with
          | nil =>
            simp only [List.length_nil,List.length_cons] at hlen;rw [iN];exact (decide_eq_true (by omega)).symm
          | cons c u hw =>
            rw [List.zip_cons_cons] at hz;cases hz
      rw [hv] at hR
      wp_walk
      exact ⟨_,rfl,by simpa [Builtin.Tuple.tupleCompareSizes] using hR⟩
    case h =>
      exact ⟨rfl,rfl,items.toList,items2.toList,ns,ms,rfl,hi,hj,by omega,h⟩
end
section
variable {prog:Program} {w:World} {A:Around} {E:Value->Shared->Prop} {s:Shared}
theorem gt_tupInts {l b:Addr} {items items2:Array Value} {ns ms:List Int} {Q:Value->Shared->Prop} (hl:IsTup s.heap l items) (hb:IsTup s.heap b items2) (hi:IntsAre items.toList ns) (hj:IntsAre items2.toList ms)
    (hu:A.units < cLine) (h:Q (.bool (lexLt ms ns)) s):wpAny (model prog w) A (compareOp .Gt (.ref l) (.ref b)) Q E s:=by
  obtain ⟨⟨cls,dd,data,sl⟩,ho,hc,n,hd⟩:=id hl;obtain ⟨⟨cls2,dd2,data2,sl2⟩,ho2,hc2,n2,hd2⟩:=id hb;simp only at hc hd hc2 hd2;subst hc hd hc2 hd2;exact richCompare_meets_room (op:=.Gt) ⟨_,ho,rfl⟩ ⟨_,ho2,rfl⟩ PySem.F.slot_tuple_gt PySem.F.entry_tuple_gt (PySem.F.args_tuple_gt_2 _ _) (nN l b items items2 n n2 dd dd2 sl sl2 ns ms hi hj)
    ⟨ho,ho2,show Value.bool (lexLt ms ns)≠Value.notImplemented/\Q (.bool (lexLt ms ns)) s from ⟨(fun x=>nomatch x),h⟩⟩ hu
end
end HT
namespace D2
open PySem PySem.Spec PyProof.Rows L2
section
variable {X:Cx} {a b c:Expr} {fa fb fc:Fe} {pos p2:Pos} {nl:Nat} {G:List Str} {x:Str} {p:Pos}
theorem Cl (hu:X.A.units < cLine):jx X (compareOp .Gt) (fun x y H Q=>∃ a b ns ms,x=.ref a/\y=.ref b/\gh X.K H a (ns.map V.int)/\gh X.K H b (ms.map V.int)/\Q (.bl (HT.lexLt ms ns)) H):=by
  intro pins s σ H x y v u Q I rx ry h;obtain ⟨a,b,ns,ms,rfl,rfl,ha,hb,q⟩:=h;cases rx;cases ry;obtain ⟨its,r1,p1,_⟩:=I.tuple ha;obtain ⟨its2,r2,p2,_⟩:=I.tuple hb;exact HT.gt_tupInts p1 p2 (ej r1) (ej r2) hu ⟨.bl (HT.lexLt ms ns),H,I,rfl,q⟩
noncomputable def nU:PyData->PyData->R PyData
  | .tuple ds,.tuple es=>match bg ds,bg es with
    | some ns,some ms=>.ok (.bool (HT.lexLt ms ns))
    | _,_=>.no
  | _,_=>.no
theorem Cd (ns ms:List Int):nU (.tuple (ns.map .int)) (.tuple (ms.map .int))=.ok (.bool (HT.lexLt ms ns)):=by
  show (match bg (ns.map .int),bg (ms.map .int) with | some ns,some ms=>R.ok (PyData.bool (HT.lexLt ms ns)) | _,_=>.no)=_;rw [dj,dj]
theorem Bp:cW X iO (fun x y H Q=>∃ a b ns ms,x=.ref a/\y=.ref b/\gh X.K H a (ns.map V.int)/\gh X.K H b (ms.map V.int)/\Q (.bl (HT.lexLt ms ns)) H) nU:=fun H x y dx dy Q hx hy q=>by
  cases dx with
  | tuple ds =>
    cases dy with
    | tuple es =>
      cases e1:bg ds with
      | none=>rw [show nU (.tuple ds) (.tuple es)=(match bg ds,bg es with | some ns,some ms=>R.ok (PyData.bool (HT.lexLt ms ns)) | _,_=>.no) from rfl,e1] at q;exact q.elim
      | some ns =>
        cases e2:bg es with
        | none=>rw [show nU (.tuple ds) (.tuple es)=(match bg ds,bg es with | some ns,some ms=>R.ok (PyData.bool (HT.lexLt ms ns)) | _,_=>.no) from rfl,e1,e2] at q;exact q.elim
        | some ms =>
          rw [show nU (.tuple ds) (.tuple es)=(match bg ds,bg es with | some ns,some ms=>R.ok (PyData.bool (HT.lexLt ms ns)) | _,_=>.no) from rfl,e1,e2] at q;obtain ⟨a1,v1,rfl,h1,r1⟩:=cJ hx;obtain ⟨a2,v2,rfl,h2,r2⟩:=cJ hy;rw [dl e1] at r1;rw [dl e2] at r2;rw [gc r1] at h1;rw [gc r2] at h2;exact ⟨a1,a2,ns,ms,rfl,rfl,gh.of h1,gh.of h2,q _ H (aB.refl _) e9⟩
    | _=>exact q.elim
  | _=>exact q.elim
theorem vN (hu:X.A.units+64 < cLine) (ha:Z.dF X a fa) (hb:Z.dF X b fb):Z.lO X (.Compare a [.Gt] [b] pos) (tE (e2 nU fa fb)):=⟨have ha:=ha.un;have hb:=hb.un;gz (Cl (by omega)) Bp ha hb (iB _)⟩
end
section
variable {X:Cx} {o e:Expr} {fo fe:Fe} {apos cpos:Pos}
theorem ym:Fw X "list.count" (fun x xs H Q=>∃ (l:Addr) (ns:List Int) (k:Int),x=.ref l/\xs=[.int k]/\kx X.K H l (ns.map V.int)/\Q (.int (ns.count k:Nat)) H):=by
  intro pins s σ H x xs v us Q I rx rs h;obtain ⟨l,ns,k,rfl,rfl,hq,q⟩:=h;cases rx;obtain ⟨u,rfl,t,rfl⟩:=fO rs;obtain ⟨its,rv,pl,hz⟩:=I.list hq;exact count_list_ints pl.isList (ej rv) ⟨.int _,H,I.tok _,⟨_,rfl⟩,q⟩
noncomputable def iC:PyData->PyData->R PyData
  | .list ds,.int k=>match bg ds with
    | some ns=>.ok (.int (ns.count k:Nat))
    | none=>.no
  | _,_=>.no
noncomputable def pB (fo fe:Fe):Fe:=fun ρ=>fo ρ>>=fun x=>D7 x>>=fun _=>fe ρ>>=fun y=>iC x y
theorem sD (ho:Z.dF X o fo) (he:Z.cI X e fe) (hb:attributeBase o "count" X.env (eval o X.env)=eval o X.env:=by rfl) (hst:aO e=true:=by rfl) (hline:(apos.endLine==cpos.line)=true:=by rfl):Z.cI X (.Call (.Attribute o "count" apos) [e] [] cpos) (pB fo fe):=⟨have ho:=ho.un;have he:=he.un;by
  have sc:starEach [e] X.env=(false,eval e X.env)::starEach [] X.env:=bo hst;refine PE.imp (A6 PySem.F.plainAttrs_list PySem.F.slot_list_count PySem.F.type_list_count ym ho (jd he ni hst) hb (by rw [sc];rfl) hline sc rfl) fun σ H Q h=>?_
  refine (fy (P:=yX) (f:=fo) (k:=fun ρ x=>D7 x>>=fun _=>fe ρ>>=fun y=>iC x y) (fM (X:=X) fE Q) h).post fun v H1 ⟨ρ1,d1,sl1,_,p1,q1⟩=>?_
  cases d1 with
  | list ds =>
    obtain ⟨a,vs,rfl,h1,r1⟩:=dc (K:=X.K) p1;refine ⟨.inl ⟨rfl,_,h1⟩,?_⟩;have q1:uR X iO (ah fe aJ ρ1>>=one (iC (.list ds))) H1 Q:=by
      have e0:(ah fe aJ ρ1>>=one (iC (.list ds)))=(fe ρ1>>=fun y=>iC (.list ds) y):=by
        unfold ah aJ;cases fe ρ1 <;> rfl
      rw [e0];exact q1
    refine (kD (I:=Rp) (f:=ah fe aJ) (k:=fun _=>one (iC (.list ds))) (fM (X:=X) fE Q) ⟨ρ1,sl1,q1⟩).post fun us H2 ⟨_,ds2,_,s2,p2,q2⟩=>?_
    unfold one at q2;split at q2
    · rename_i d2;simp only [RA] at p2;obtain ⟨w,r',rfl,p2,rfl⟩:=p2;cases d2 with
      | int k =>
        have ew:w=.int k:=by simpa only [Rp] using p2
        subst ew;simp only [iC] at q2;cases ei:bg ds with
        | none=>rw [ei] at q2;exact q2.elim
        | some ns =>
          rw [ei] at q2;have p3:=gV.mono p1 s2;rw [dl ei] at p3;obtain ⟨a',vs',ea,h3,r3⟩:=dc (K:=X.K) p3;cases ea;rw [gc r3] at h3;exact ⟨a,ns,k,rfl,rfl,h3,q2 _ H2 (aB.refl _) cF⟩
      | _=>exact q2.elim
    · exact q2.elim
  | _=>exact q1.elim⟩
end
noncomputable def Cr (lo:Int) (n:Nat):It:=⟨fun i _=>i < n,fun i H x H'=>H'=H/\x=.int (lo-i),fun i _=>n<=i⟩
theorem vZ {P:Program} {w:World} {K:PySem.W.Frag} {tg:Expr} (it:Addr) (lo:Int) (n:Nat):rd P w K tg (Cr lo n) [it] it (fun i h=>IsRangeIter h it (lo+(i:Nat)*(-1)) ((n:Int)-(i:Nat)) (-1)) where
  mem:=by simp
  obj:=fun i h st b hb=>by
    have e:b=it:=by simpa using hb
    subst e;exact ⟨_,st,fun v z=>by
      have z':Data.fields _=Data.cell v:=z;cases z'⟩
  keep:=fun i h h' st k=>k it (by simp) _ st
  item:=by
    intro X hP hw hK hc i pins s σ H E I hf st hg;subst hP hw hK;obtain ⟨f0,f1,f2,f3,f4,f5⟩:=hf it (by simp);have W:=Walks.range (prog:=X.prog) (w:=X.w) (I.ok.hd hc) it lo (-1) n;refine W.item i s _ _ hg st fun v h' tk hv st' kk=>?_
    obtain ⟨t,rfl⟩:=hv;have I1:aF X pins σ H { s with heap:=h',toks:=tk }:=I.turned (fun b o hb e=>kk b o (by simpa using hb) e) f0 f1 f3 f4 f5;refine ⟨_,rfl,uH (s:={ s with heap:=h',toks:=tk }) (n := "range_iterator") st' rfl rfl (by decide) ⟨.int (lo-i),H,I1,⟨t,?_⟩,⟨rfl,rfl⟩,st',fun b hb=>(hf b hb).1⟩⟩;congr 1;omega
  done:=by
    intro X hP hw hK hc i pins s σ H E I hf st hg;subst hP hw hK;obtain ⟨f0,f1,f2,f3,f4,f5⟩:=hf it (by simp);exact wpAny_pyNext_range_end (I.ok.hd hc) st (by have:n<=i:=hg;omega) fun h' eb=>⟨rfl,I.turned (t':=s.toks) (fun b o hb e=>eb b o hb e) f0 f1 f3 f4 f5⟩
  self:=fun _ _ _ _ _ st h=>wpAny_pyIter_rangeiter st h
theorem oU (a b:Int):Builtin.Range.rangeSize a b (-1)=if b < a then a-b else 0:=by
  unfold Builtin.Range.rangeSize;rw [if_neg (by decide)];by_cases h:a > b
  · rw [if_pos h,if_pos h];show (a-b-1) / 1+1=_;rw [Int.ediv_one];omega
  · rw [if_neg h,if_neg h]
theorem sA {a b:Int} (ha:-(2 ^ 62)<=a) (ha':a < 2 ^ 62) (hb:-(2 ^ 62)<=b) (hb':b < 2 ^ 62):Builtin.Range.small a b (-1)=true:=by
  unfold Builtin.Range.small;rw [oU];simp only [Builtin.Range.rangeFitsLong,Bool.and_eq_true,Bool.or_eq_true,decide_eq_true_eq,beq_iff_eq,show ¬ ((-1:Int) > 0) by decide,if_false];split <;> omega
section
variable {X:Cx} {tg a b c:Expr} {fa fb fc:Fe} {pos p2:Pos} {nl:Nat} {G:List Str} {x:Str} {p:Pos} {fs:aS->R (List PyData)}
noncomputable def Dv (ta:TA):TI:=fun σ H R=>ta σ H fun vs H1=>∃ i j:Int,vs=[.int i,.int j,.int (-1)]/\(-(2 ^ 62)<=i/\i < 2 ^ 62/\-(2 ^ 62)<=j/\j < 2 ^ 62)/\R (Cr i (i-j).toNat) H1
theorem wg {ta:TA} (hg:Gl X "range") (hm:X.mg "range" = none) (ha:PA X [a,b,c] ta) (hs:starEach [a,b,c] X.env=[(false,eval a X.env),(false,eval b X.env),(false,eval c X.env)]) (hs2:starEach [b,c] X.env=[(false,eval b X.env),(false,eval c X.env)]) :
    PI X tg (.Call (.Name "range" p) [a,b,c] [] pos) (Dv ta):=by
  intro pins s σ H R I h;refine Call_ (ie I hg hm boot_range (PyProof.Rows.callWith_type1 (df (ha pos pins s σ H _ I h) fun us s1 ⟨vs,H1,I1,r1,q1⟩=>?_) (by rw [hs,hs2]) (by rw [hs2];rfl)));obtain ⟨i,j,e,⟨q1,q2,q3,q4⟩,q⟩:=q1;subst e;cases r1 with
  | cons r rr =>
    cases rr with
    | cons r' rr =>
      cases rr with
      | cons r'' rr =>
        cases rr;obtain ⟨t,rfl⟩:=r;obtain ⟨t',rfl⟩:=r';obtain ⟨t'',rfl⟩:=r'';refine call_range_3 (by decide) ?_ (.inl (PyProof.noPylong_small (by omega)));refine wpAny_pyIter_range (IsRange.new ..) (sA q1 q2 q3 q4) ?_;have I2:aF X pins σ H1 { s1 with heap:=s1.heap.push { cls:=.type "range",data:=.fields #[.int i t,.int j t',.int (-1) t''] },toks:=s1.toks }:=I1.kept fun b o e=>Heap.get?_push_of_some _ e
        refine ⟨_,[_],_,_,H1,rfl,I2.kept (t':=s1.toks) fun b o e=>Heap.get?_push_of_some _ e,vZ _ i (i-j).toNat,?_,fun b hb=>?_,q⟩
        · have e1:i+((0:Nat):Int)*(-1)=i:=by simp
          have e2:(((i-j).toNat:Nat):Int)-((0:Nat):Int)=Builtin.Range.rangeSize i j (-1):=by rw [oU];split <;> omega
          rw [e1,e2];exact Heap.get?_push_size _ rfl
        · have e:=List.mem_singleton.mp hb;subst e;exact I2.fpOk (Nat.le_refl _) (I2.hok.fresh (Nat.le_refl _))
noncomputable def gL (lo:Int) (n:Nat):List PyData:=(List.range n).map fun (k:Nat)=>.int (lo-k)
noncomputable def sP:List PyData->R (List PyData)
  | [.int i,.int j,.int k]=>if k=-1/\-(2 ^ 62)<=i/\i < 2 ^ 62/\-(2 ^ 62)<=j/\j < 2 ^ 62 then .ok (gL i (i-j).toNat) else .no
  | _=>.no
noncomputable def oK (fs:aS->R (List PyData)):aS->R (List PyData):=fun ρ=>fs ρ>>=sP
theorem xI {lo:Int} {n:Nat}:zc (Cr lo n) (fun _=>True) (gL lo n) where
  go:=fun i H _ hi=>by
    show i < n;simpa [gL] using hi
  yld:=fun i H x H' d _ hd ⟨e,y⟩=>by
    subst e;subst y;refine ⟨aB.refl _,?_⟩;unfold gL at hd;rw [List.getElem?_map] at hd;cases h:(List.range n)[i]? with
    | none=>rw [h] at hd;cases hd
    | some k =>
      rw [h] at hd;have hk:k=i:=by
        rw [List.getElem?_range] at h
        · exact (Option.some.inj h).symm
        · have:=(List.getElem?_eq_some_iff.mp h).1;simpa using this
      subst hk;cases hd;exact cF
  stop:=fun i H _ hi=>by
    show n<=i;simpa [gL] using hi
theorem ly (T:Tb X nl G) (j:Nat) (hG:G[j]?=some ("range" : Str)) (hm:X.mg "range" = none) (ha:Z.sg X [a,b,c] fs) (hl:∀ ρ ds,fs ρ=.ok ds->ds.length=3) (hs:aO a=true:=by rfl) (hs2:aO b=true:=by rfl) (hs3:aO c=true:=by rfl):Z.sh X tg (.Call (.Name "range" p) [a,b,c] [] pos) (oK fs):=⟨have ha:=ha.un;by
  have sc:starEach [c] X.env=[(false,eval c X.env)]:=bo hs3;have sb:starEach [b,c] X.env=[(false,eval b X.env),(false,eval c X.env)]:=(bo hs2).trans (by rw [sc]);have sa:starEach [a,b,c] X.env=[(false,eval a X.env),(false,eval b X.env),(false,eval c X.env)]:=(bo hs).trans (by rw [sb]);refine PI.imp (wg (T.gl _ (List.mem_of_getElem? hG)).1 hm ha sa sb) fun σ H Rk ⟨ρ,sl,q⟩=>?_
  refine ⟨ρ,sl,?_⟩;dsimp only [oK] at q;cases e:fs ρ with
  | ex c=>rw [e] at q;exact q
  | no=>rw [e] at q;exact q
  | ok ds =>
    rw [e] at q;have hlen:=hl ρ ds e;intro vs H1 s1 r1
    match ds,hlen with
    | [d1,d2,d3],_ =>
      simp only [RA] at r1;obtain ⟨v1,r',rfl,p1,v2,r'',rfl,p2,v3,r''',rfl,p3,rfl⟩:=r1;cases d1 with
      | int i =>
        cases d2 with
        | int j =>
          cases d3 with
          | int k =>
            have e1:v1=.int i:=by simpa only [Rp] using p1
            have e2:v2=.int j:=by simpa only [Rp] using p2
            have e3:v3=.int k:=by simpa only [Rp] using p3
            subst e1 e2 e3;by_cases hz:k=-1/\-(2 ^ 62)<=i/\i < 2 ^ 62/\-(2 ^ 62)<=j/\j < 2 ^ 62
            · rw [R.ok_bind,show sP [.int i,.int j,.int k]=.ok (gL i (i-j).toNat) from if_pos hz] at q;exact ⟨i,j,by rw [hz.1],hz.2,q _ H1 s1 ⟨_,xI,fun _ _ _=>True.intro⟩⟩
            · rw [R.ok_bind,show sP [.int i,.int j,.int k]=.no from if_neg hz] at q;exact q.elim
          | _=>exact q.elim
        | _=>exact q.elim
      | _=>exact q.elim⟩
end
noncomputable def zG (prog:Program) (w:World) (A:Around) (op:CmpOp) (P:Nat->Value->Prop) (bt:Nat->Nat->Bool) (Gd:Heap->Prop):Prop :=
  ∀ (i j:Nat) (u v:Value) (s:Shared) (Q E:Value->Shared->Prop),Gd s.heap->P i u->P j v->Q (.bool (bt i j)) s->wpAny (model prog w) A (richCompare op u v) Q E s
section
variable {prog:Program} {w:World} {A:Around} {R:Result->Shared->Prop} {I:Addr} {fp wr:List Addr} {n:Nat} {P:Nat->Value->Prop} {St:Nat->Heap->Prop} {Gd:Heap->Prop}
theorem Ag (W:Walks prog w A.in1 I fp wr n P St) (bt:Nat->Nat->Bool) (cm:zG prog w A.in1 .Gt P bt Gd) (S:Addr) (nS:S∉fp) (hG:∀ h h',Gd h->(∀ b o,b∉wr->b≠S->h.get? b=some o->h'.get? b=some o)->Gd h') :
    ∀ (left at_:Nat) (s:Shared) (bst:Value) (c:Nat),n-(at_+1)=left->at_+1<=n->Gd s.heap->St (at_+1) s.heap->P (argBest bt at_) bst ->
    s.heap.get? S=some { cls:=.type "list",dict:=none,data:=.seq #[bst,bst] c,slots:=#[] } ->
    (∀ v h' tk,P (argBest bt (n-1)) v->(∀ b o,b∉wr->b≠S->s.heap.get? b=some o->h'.get? b=some o)->R (.ok (.ret v)) { s with heap:=h',toks:=tk }) ->
    codeAny (model prog w) A (.builtin "max.loop" ⟨[.ref I,.none,.ref S],[]⟩) R s:=by
  have nW:S∉wr:=fun z=>nS (W.sub _ z)
  have nm:(toString "max" ++ toString ".loop" : String) = "max.loop" := by decide
  intro left;induction left with
  | zero =>
    intro at_ s bst c e1 e2 g st pb hS fin;have en:at_+1=n:=by omega
    refine codeAny_builtin PySem.F.entry_max_loop ?_;rw [Around.under_plainId PySem.F.plain_max_loop _];show wpAny _ A.in1 (seqItems? (.ref S)>>=_) _ _ s;refine wpAny_bind (wpAny_seqItems hS rfl ?_);show wpAny _ A.in1 (tryCatch (pyNext (.ref I)) _>>=_) _ _ s;refine wpAny_bind (wpAny_tryCatch (W.done s _ _ (en ▸ st) fun h' tk kp=>?_));have hS2:=kp S _ nW hS;show wpAny _ A.in1 (updateSeq S (fun _=>#[])>>=_) _ _ _;exact wpAny_bind (wpAny_updateSeq hS2 rfl (wpAny_bind (wpAny_letGo (wpAny_pure (fin bst _ tk (by rw [<- en];exact pb) fun b o nb ns e=>(Heap.get?_update_other _ _ (Ne.symm ns)).trans (kp b o nb e))))))
  | succ left ih =>
    intro at_ s bst c e1 e2 g st pb hS fin;have lt:at_+1 < n:=by omega
    refine codeAny_builtin PySem.F.entry_max_loop ?_;rw [Around.under_plainId PySem.F.plain_max_loop _];show wpAny _ A.in1 (seqItems? (.ref S)>>=_) _ _ s;refine wpAny_bind (wpAny_seqItems hS rfl ?_);show wpAny _ A.in1 (tryCatch (pyNext (.ref I)) _>>=_) _ _ s;refine wpAny_bind (wpAny_tryCatch (W.item (at_+1) s _ _ lt st fun v h' tk pv st2 kp=>?_));have hS2:=kp S _ nW hS;have g2:Gd h':=hG _ _ g fun b o nb _ e=>kp b o nb e
    show wpAny _ A.in1 (tryCatch (holding [v,v] (richCompare .Gt v bst>>=_)) _>>=_) _ _ _;refine wpAny_bind (wpAny_tryCatch (wpAny_holding (wpAny_bind (cm (at_+1) (argBest bt at_) v bst _ _ _ g2 pv pb ?_))));refine wpAny_bind (wpAny_holding (wpAny_truthy_bool (wpAny_bind (wpAny_letGo (wpAny_pure ?_)))));cases hb:bt (at_+1) (argBest bt at_) with
    | true =>
      simp only [if_true];refine wpAny_bind (wpAny_updateSeq hS2 rfl (wpAny_bind (wpAny_letGo ?_)));rw [nm];refine wpAny_pure ⟨plainId_quiet PySem.F.plain_max_loop _,ih (at_+1) _ v _ (by omega) lt (hG _ _ g2 fun b o _ ns e=>(Heap.get?_update_other _ _ (Ne.symm ns)).trans e) (W.frame _ _ _ st2 fun b hf o e=>(Heap.get?_update_other _ _ (fun z:S=b=>nS (by rw [z];exact hf))).trans e) (by simp only [argBest,hb,if_true];exact pv) (Heap.get?_update_self _ hS2 rfl)
        fun v' h2 tk2 pv' kp2=>fin v' h2 tk2 pv' fun b o nb ns e=>kp2 b o nb ns ((Heap.get?_update_other _ _ (Ne.symm ns)).trans (kp b o nb e))⟩
    | false =>
      simp only [Bool.false_eq_true,if_false];refine wpAny_bind (wpAny_letGo ?_);rw [nm];exact wpAny_pure ⟨plainId_quiet PySem.F.plain_max_loop _,ih (at_+1) _ bst c (by omega) lt g2 st2 (by simp only [argBest,hb,Bool.false_eq_true,if_false];exact pb) hS2 fun v' h2 tk2 pv' kp2=>fin v' h2 tk2 pv' fun b o nb ns e=>kp2 b o nb ns (kp b o nb e)⟩
theorem zX {x:Value} {Q:Value->Shared->Prop} {E:Value->Shared->Prop} {s:Shared}
    (h:wpAny (model prog w) A.in1 (pyIter x) (fun it s₂=>∃ I fp wr n P St bt Gd,it=.ref I/\Walks prog w A.in1 I fp wr n P St/\St 0 s₂.heap/\(∀ b∈fp,b < s₂.heap.objs.size)/\0 < n/\zG prog w A.in1 .Gt P bt Gd/\Gd s₂.heap /\
      (∀ h h',Gd h->(∀ b o,b∉wr->b≠s₂.heap.objs.size->h.get? b=some o->h'.get? b=some o)->Gd h') /\
      ∀ v h' tk,P (argBest bt (n-1)) v->(∀ b o,b∉wr->s₂.heap.get? b=some o->h'.get? b=some o)->Q v { s₂ with heap:=h',toks:=tk }) E s) :
    wpAny (model prog w) A (call (.builtin "max") [x]) Q E s:=by
  have nm:(toString "max" ++ toString ".loop" : String) = "max.loop" := by decide
  refine call_function_tree PySem.F.kind_max PySem.F.plain_max PySem.F.entry_max (PySem.F.args_max1 _) ?_;show wpAny _ A.in1 (Builtin.Builtins.bindParams "max" ["key","default"] 0 ⟨[],[]⟩>>=_) _ _ s;refine wpAny_bind (wpAny_of_eq (show Builtin.Builtins.bindParams "max" ["key","default"] 0 ⟨[],[]⟩=pure [none,none] from rfl) ?_);refine wpAny_bind (wpAny_pure ?_);refine wpAny_bind (wpAny_mono h (fun it s₂ q=>?_) fun _ _ e=>e);obtain ⟨I,fp,wr,n,P,St,bt,Gd,rfl,W,st,hfp,hn,cm,g,hG,fin⟩:=q;refine wpAny_bind (wpAny_newObj_type ?_);have nS:s₂.heap.objs.size∉fp:=fun z=>Nat.lt_irrefl _ (hfp _ z)
  have nW:s₂.heap.objs.size∉wr:=fun z=>nS (W.sub _ z)
  rw [nm];refine wpAny_pure ⟨plainId_quiet PySem.F.plain_max_loop _,?_⟩;have gp:Gd (s₂.heap.push { cls:=.type "list",data:=.seq #[] }):=hG _ _ g fun b o _ _ e=>Heap.get?_push_of_some _ e
  have stp:=W.frame 0 _ (s₂.heap.push { cls:=.type "list",data:=.seq #[] }) st fun b _ o e=>Heap.get?_push_of_some _ e
  have hS:(s₂.heap.push { cls:=.type "list",data:=.seq #[] }).get? s₂.heap.objs.size=some { cls:=.type "list",dict:=none,data:=.seq #[] 0,slots:=#[] }:=Heap.get?_push_size _ rfl;refine codeAny_builtin PySem.F.entry_max_loop ?_;rw [Around.under_plainId PySem.F.plain_max_loop _];show wpAny _ A.in1 (seqItems? (.ref s₂.heap.objs.size)>>=_) _ _ _;refine wpAny_bind (wpAny_seqItems hS rfl ?_);show wpAny _ A.in1 (tryCatch (pyNext (.ref I)) _>>=_) _ _ _;refine wpAny_bind (wpAny_tryCatch (W.item 0 _ _ _ hn stp fun v h' tk pv st2 kp=>?_));have hS2:=kp _ _ nW hS;show wpAny _ A.in1 (updateSeq s₂.heap.objs.size (fun _=>#[v,v])>>=_) _ _ _;refine wpAny_bind (wpAny_updateSeq hS2 rfl ?_);rw [nm];refine wpAny_pure ⟨plainId_quiet PySem.F.plain_max_loop _,Ag W bt cm s₂.heap.objs.size nS hG _ 0 _ v _ rfl hn (hG _ _ gp fun b o nb ns e=>(Heap.get?_update_other _ _ (Ne.symm ns)).trans (kp b o nb e)) (W.frame _ _ _ st2 fun b hf o e=>(Heap.get?_update_other _ _ (fun z:s₂.heap.objs.size=b=>nS (by rw [z];exact hf))).trans e) pv (Heap.get?_update_self _ hS2 rfl) fun v' h2 tk2 pv' kp2=>?_⟩;exact fin v' h2 tk2 pv' fun b o nb e=>kp2 b o nb (Nat.ne_of_lt (Heap.lt_size e)) ((Heap.get?_update_other _ _ (Nat.ne_of_gt (Heap.lt_size e))).trans (kp b o nb (Heap.get?_push_of_some _ e)))
theorem zx (W:Walks prog w A.in1 I fp wr n P St) (bt:Nat->Nat->Bool) (cm:zG prog w A.in1 .Lt P bt Gd) (S:Addr) (nS:S∉fp) (hG:∀ h h',Gd h->(∀ b o,b∉wr->b≠S->h.get? b=some o->h'.get? b=some o)->Gd h') :
    ∀ (left at_:Nat) (s:Shared) (bst:Value) (c:Nat),n-(at_+1)=left->at_+1<=n->Gd s.heap->St (at_+1) s.heap->P (argBest bt at_) bst ->
    s.heap.get? S=some { cls:=.type "list",dict:=none,data:=.seq #[bst,bst] c,slots:=#[] } ->
    (∀ v h' tk,P (argBest bt (n-1)) v->(∀ b o,b∉wr->b≠S->s.heap.get? b=some o->h'.get? b=some o)->R (.ok (.ret v)) { s with heap:=h',toks:=tk }) ->
    codeAny (model prog w) A (.builtin "min.loop" ⟨[.ref I,.none,.ref S],[]⟩) R s:=by
  have nW:S∉wr:=fun z=>nS (W.sub _ z)
  have nm:(toString "min" ++ toString ".loop" : String) = "min.loop" := by decide
  intro left;induction left with
  | zero =>
    intro at_ s bst c e1 e2 g st pb hS fin;have en:at_+1=n:=by omega
    refine codeAny_builtin PySem.F.entry_min_loop ?_;rw [Around.under_plainId PySem.F.plain_min_loop _];show wpAny _ A.in1 (seqItems? (.ref S)>>=_) _ _ s;refine wpAny_bind (wpAny_seqItems hS rfl ?_);show wpAny _ A.in1 (tryCatch (pyNext (.ref I)) _>>=_) _ _ s;refine wpAny_bind (wpAny_tryCatch (W.done s _ _ (en ▸ st) fun h' tk kp=>?_));have hS2:=kp S _ nW hS;show wpAny _ A.in1 (updateSeq S (fun _=>#[])>>=_) _ _ _;exact wpAny_bind (wpAny_updateSeq hS2 rfl (wpAny_bind (wpAny_letGo (wpAny_pure (fin bst _ tk (by rw [<- en];exact pb) fun b o nb ns e=>(Heap.get?_update_other _ _ (Ne.symm ns)).trans (kp b o nb e))))))
  | succ left ih =>
    intro at_ s bst c e1 e2 g st pb hS fin;have lt:at_+1 < n:=by omega
    refine codeAny_builtin PySem.F.entry_min_loop ?_;rw [Around.under_plainId PySem.F.plain_min_loop _];show wpAny _ A.in1 (seqItems? (.ref S)>>=_) _ _ s;refine wpAny_bind (wpAny_seqItems hS rfl ?_);show wpAny _ A.in1 (tryCatch (pyNext (.ref I)) _>>=_) _ _ s;refine wpAny_bind (wpAny_tryCatch (W.item (at_+1) s _ _ lt st fun v h' tk pv st2 kp=>?_));have hS2:=kp S _ nW hS;have g2:Gd h':=hG _ _ g fun b o nb _ e=>kp b o nb e
    show wpAny _ A.in1 (tryCatch (holding [v,v] (richCompare .Lt v bst>>=_)) _>>=_) _ _ _;refine wpAny_bind (wpAny_tryCatch (wpAny_holding (wpAny_bind (cm (at_+1) (argBest bt at_) v bst _ _ _ g2 pv pb ?_))));refine wpAny_bind (wpAny_holding (wpAny_truthy_bool (wpAny_bind (wpAny_letGo (wpAny_pure ?_)))));cases hb:bt (at_+1) (argBest bt at_) with
    | true =>
      simp only [if_true];refine wpAny_bind (wpAny_updateSeq hS2 rfl (wpAny_bind (wpAny_letGo ?_)));rw [nm];refine wpAny_pure ⟨plainId_quiet PySem.F.plain_min_loop _,ih (at_+1) _ v _ (by omega) lt (hG _ _ g2 fun b o _ ns e=>(Heap.get?_update_other _ _ (Ne.symm ns)).trans e) (W.frame _ _ _ st2 fun b hf o e=>(Heap.get?_update_other _ _ (fun z:S=b=>nS (by rw [z];exact hf))).trans e) (by simp only [argBest,hb,if_true];exact pv) (Heap.get?_update_self _ hS2 rfl)
        fun v' h2 tk2 pv' kp2=>fin v' h2 tk2 pv' fun b o nb ns e=>kp2 b o nb ns ((Heap.get?_update_other _ _ (Ne.symm ns)).trans (kp b o nb e))⟩
    | false =>
      simp only [Bool.false_eq_true,if_false];refine wpAny_bind (wpAny_letGo ?_);rw [nm];exact wpAny_pure ⟨plainId_quiet PySem.F.plain_min_loop _,ih (at_+1) _ bst c (by omega) lt g2 st2 (by simp only [argBest,hb,Bool.false_eq_true,if_false];exact pb) hS2 fun v' h2 tk2 pv' kp2=>fin v' h2 tk2 pv' fun b o nb ns e=>kp2 b o nb ns (kp b o nb e)⟩
theorem zZ {x:Value} {Q:Value->Shared->Prop} {E:Value->Shared->Prop} {s:Shared}
    (h:wpAny (model prog w) A.in1 (pyIter x) (fun it s₂=>∃ I fp wr n P St bt Gd,it=.ref I/\Walks prog w A.in1 I fp wr n P St/\St 0 s₂.heap/\(∀ b∈fp,b < s₂.heap.objs.size)/\0 < n/\zG prog w A.in1 .Lt P bt Gd/\Gd s₂.heap /\
      (∀ h h',Gd h->(∀ b o,b∉wr->b≠s₂.heap.objs.size->h.get? b=some o->h'.get? b=some o)->Gd h') /\
      ∀ v h' tk,P (argBest bt (n-1)) v->(∀ b o,b∉wr->s₂.heap.get? b=some o->h'.get? b=some o)->Q v { s₂ with heap:=h',toks:=tk }) E s) :
    wpAny (model prog w) A (call (.builtin "min") [x]) Q E s:=by
  have nm:(toString "min" ++ toString ".loop" : String) = "min.loop" := by decide
  refine call_function_tree PySem.F.kind_min PySem.F.plain_min PySem.F.entry_min (PySem.F.args_min1 _) ?_;show wpAny _ A.in1 (Builtin.Builtins.bindParams "min" ["key","default"] 0 ⟨[],[]⟩>>=_) _ _ s;refine wpAny_bind (wpAny_of_eq (show Builtin.Builtins.bindParams "min" ["key","default"] 0 ⟨[],[]⟩=pure [none,none] from rfl) ?_);refine wpAny_bind (wpAny_pure ?_);refine wpAny_bind (wpAny_mono h (fun it s₂ q=>?_) fun _ _ e=>e);obtain ⟨I,fp,wr,n,P,St,bt,Gd,rfl,W,st,hfp,hn,cm,g,hG,fin⟩:=q;refine wpAny_bind (wpAny_newObj_type ?_);have nS:s₂.heap.objs.size∉fp:=fun z=>Nat.lt_irrefl _ (hfp _ z)
  have nW:s₂.heap.objs.size∉wr:=fun z=>nS (W.sub _ z)
  rw [nm];refine wpAny_pure ⟨plainId_quiet PySem.F.plain_min_loop _,?_⟩;have gp:Gd (s₂.heap.push { cls:=.type "list",data:=.seq #[] }):=hG _ _ g fun b o _ _ e=>Heap.get?_push_of_some _ e
  have stp:=W.frame 0 _ (s₂.heap.push { cls:=.type "list",data:=.seq #[] }) st fun b _ o e=>Heap.get?_push_of_some _ e
  have hS:(s₂.heap.push { cls:=.type "list",data:=.seq #[] }).get? s₂.heap.objs.size=some { cls:=.type "list",dict:=none,data:=.seq #[] 0,slots:=#[] }:=Heap.get?_push_size _ rfl;refine codeAny_builtin PySem.F.entry_min_loop ?_;rw [Around.under_plainId PySem.F.plain_min_loop _];show wpAny _ A.in1 (seqItems? (.ref s₂.heap.objs.size)>>=_) _ _ _;refine wpAny_bind (wpAny_seqItems hS rfl ?_);show wpAny _ A.in1 (tryCatch (pyNext (.ref I)) _>>=_) _ _ _;refine wpAny_bind (wpAny_tryCatch (W.item 0 _ _ _ hn stp fun v h' tk pv st2 kp=>?_));have hS2:=kp _ _ nW hS;show wpAny _ A.in1 (updateSeq s₂.heap.objs.size (fun _=>#[v,v])>>=_) _ _ _;refine wpAny_bind (wpAny_updateSeq hS2 rfl ?_);rw [nm];refine wpAny_pure ⟨plainId_quiet PySem.F.plain_min_loop _,zx W bt cm s₂.heap.objs.size nS hG _ 0 _ v _ rfl hn (hG _ _ gp fun b o nb ns e=>(Heap.get?_update_other _ _ (Ne.symm ns)).trans (kp b o nb e)) (W.frame _ _ _ st2 fun b hf o e=>(Heap.get?_update_other _ _ (fun z:s₂.heap.objs.size=b=>nS (by rw [z];exact hf))).trans e) pv (Heap.get?_update_self _ hS2 rfl) fun v' h2 tk2 pv' kp2=>?_⟩;exact fin v' h2 tk2 pv' fun b o nb e=>kp2 b o nb (Nat.ne_of_lt (Heap.lt_size e)) ((Heap.get?_update_other _ _ (Nat.ne_of_gt (Heap.lt_size e))).trans (kp b o nb (Heap.get?_push_of_some _ e)))
end
noncomputable def fI (p:List Int->List Int->Bool) (r:List Int) (rs:List (List Int)):List Int:=rs.foldl (fun a b=>if p b a=true then b else a) r
theorem uD {p:List Int->List Int->Bool} {rows:List (List Int)}:∀ k:Nat,k < rows.length->argBest (fun i j=>p (rows.getD i []) (rows.getD j [])) k<=k/\rows.getD (argBest (fun i j=>p (rows.getD i []) (rows.getD j [])) k) []=fI p (rows.getD 0 []) ((rows.drop 1).take k)
  | 0,_=>⟨Nat.le_refl _,rfl⟩
  | k+1,h=>by
    obtain ⟨h1,h2⟩:=uD (p:=p) (rows:=rows) k (by omega);have e:(rows.drop 1).take (k+1)=(rows.drop 1).take k++[rows.getD (k+1) []]:=by
      rw [List.take_succ,List.getElem?_drop,List.getElem?_eq_getElem (show 1+k < rows.length by omega)];have e0:rows.getD (k+1) []=rows[1+k]'(by omega):=by
        rw [List.getD_eq_getElem?_getD,List.getElem?_eq_getElem h];simp [Nat.add_comm]
      rw [e0];rfl
    have e2:fI p (rows.getD 0 []) ((rows.drop 1).take (k+1))=if p (rows.getD (k+1) []) (fI p (rows.getD 0 []) ((rows.drop 1).take k))=true then rows.getD (k+1) [] else fI p (rows.getD 0 []) ((rows.drop 1).take k):=by
      rw [e];unfold fI;rw [List.foldl_append];rfl
    rw [e2,<- h2];generalize hb:(fun i j=>p (rows.getD i []) (rows.getD j []))=bt at h1 ⊢;have hc:bt (k+1) (argBest bt k)=p (rows.getD (k+1) []) (rows.getD (argBest bt k) []):=by rw [<- hb]
    rw [show argBest bt (k+1)=if bt (k+1) (argBest bt k)=true then k+1 else argBest bt k from rfl,hc];split
    · exact ⟨Nat.le_refl _,rfl⟩
    · exact ⟨Nat.le_succ_of_le h1,rfl⟩
noncomputable def eo (H:Hp):List V->List (List Int)->Prop
  | [],rs=>rs=[]
  | v::vs,rs=>∃ a r rs',v=.ref a/\rs=r::rs'/\H a=some (.tup (r.map V.int))/\eo H vs rs'
theorem eo.len {H:Hp}:∀ {vs:List V} {rs:List (List Int)},eo H vs rs->vs.length=rs.length
  | [],rs,h=>by simp only [eo] at h;rw [h];rfl
  | v::vs,rs,h=>by
    simp only [eo] at h;obtain ⟨a,r,rs',_,rfl,_,t⟩:=h;rw [List.length_cons,List.length_cons,t.len]
theorem eo.get {H:Hp}:∀ {vs:List V} {rs:List (List Int)} {i:Nat},eo H vs rs->i < rs.length->∃ a,vs[i]?=some (.ref a)/\H a=some (.tup ((rs.getD i []).map V.int))
  | [],rs,i,h,hi=>by simp only [eo] at h;rw [h] at hi;simp at hi
  | v::vs,rs,i,h,hi=>by
    simp only [eo] at h;obtain ⟨a,r,rs',rfl,rfl,ha,t⟩:=h;cases i with
    | zero=>exact ⟨a,rfl,ha⟩
    | succ i =>
      obtain ⟨b,h1,h2⟩:=t.get (i:=i) (by simpa using hi);exact ⟨b,by simpa using h1,by simpa using h2⟩
section
variable {X:Cx}
theorem vR {pins:List (Addr×Obj)} {σ:L2.St} {H:Hp} {s:Shared} (I:aF X pins σ H s) {a:Addr} {r:List Int} (ha:H a=some (.tup (r.map V.int))):∃ items,IsTup s.heap a items/\IntsAre items.toList r:=by
  obtain ⟨its,r1,p1,_⟩:=I.tuple (gh.of ha);exact ⟨its.toArray,p1,ej r1⟩
theorem IsTup.kept {h h':Heap} {a:Addr} {items:Array Value} (t:IsTup h a items) (k:∀ o,h.get? a=some o->h'.get? a=some o):IsTup h' a items:=by
  obtain ⟨o,e,q⟩:=t;exact ⟨o,k o e,q⟩
theorem ox {m:String} {p:List Int->List Int->Bool} (hc:X.calm=true)
    (wk:∀ {x:Value} {Q E:Value->Shared->Prop} {s:Shared},wpAny (model X.prog X.w) X.A.in1 (pyIter x) (fun it s₂=>∃ (I:Addr) (fp wr:List Addr) (n:Nat) (P:Nat->Value->Prop) (St:Nat->Heap->Prop) (bt:Nat->Nat->Bool) (Gd:Heap->Prop),it=.ref I/\Walks X.prog X.w X.A.in1 I fp wr n P St/\St 0 s₂.heap/\(∀ b∈fp,b < s₂.heap.objs.size)/\0 < n/\(∀ (i j:Nat) (u v:Value) (s:Shared) (Q E:Value->Shared->Prop),Gd s.heap->P i u->P j v->Q (.bool (bt i j)) s->(∃ a b r1 r2 items items2,u=.ref a/\v=.ref b/\bt i j=p r1 r2/\IsTup s.heap a items/\IsTup s.heap b items2/\IntsAre items.toList r1/\IntsAre items2.toList r2))/\Gd s₂.heap /\
      (∀ h h':Heap,Gd h->(∀ b o,b∉wr->b≠s₂.heap.objs.size->h.get? b=some o->h'.get? b=some o)->Gd h') /\
      ∀ v h' tk,P (argBest bt (n-1)) v->(∀ b o,b∉wr->s₂.heap.get? b=some o->h'.get? b=some o)->Q v { s₂ with heap:=h',toks:=tk }) E s->wpAny (model X.prog X.w) X.A (call (.builtin m) [x]) Q E s) :
    di X (.builtin m) (fun xs H Q=>∃ l vs r rs,xs=[.ref l]/\kx X.K H l vs/\eo H vs (r::rs)/\∀ a,H a=some (.tup ((fI p r rs).map V.int))->Q (.ref a) H):=by
  intro pins s σ H xs us Q I r0 h;obtain ⟨l,vs,r,rs,rfl,hq,hr,q⟩:=h;obtain ⟨u,rfl,rx⟩:=fO r0;cases rx;obtain ⟨its,rv,pl,hz⟩:=I.list hq;have hh:X.A.in1.handled=none:=I.ok.hd hc;have hlt:l < s.heap.objs.size:=by obtain ⟨o,e,_⟩:=pl.isList;exact Heap.lt_size e
  have hlen:its.length=(r::rs).length:=by rw [<- rv.length,hr.len]
  have at_:∀ (i:Nat) (v:Value),its.toArray[i]?=some v->i < (r::rs).length/\∃ a,v=.ref a/\H a=some (.tup (((r::rs).getD i []).map V.int)):=fun i v e=>by
    have e':its[i]?=some v:=by simpa using e
    have hi:i < its.length:=(List.getElem?_eq_some_iff.mp e').1;rw [hlen] at hi;obtain ⟨a,e1,e2⟩:=hr.get hi;obtain ⟨w,e3,e4⟩:=rv.get e1;rw [e'] at e3;cases e3;cases e4;exact ⟨hi,a,rfl,e2⟩
  have old:∀ {a r'},H a=some (.tup r')->a < s.heap.objs.size:=fun {a r'} e=>Nat.lt_of_not_le fun z=>by
    rw [I.hok.fresh z] at e;cases e
  refine wk (wpAny_pyIter_list pl.isList ?_);refine ⟨s.heap.objs.size,_,_,its.toArray.size,_,_,fun i j=>p ((r::rs).getD i []) ((r::rs).getD j []),fun h=>∀ a r',H a=some (.tup (r'.map V.int))->∃ items,IsTup h a items/\IntsAre items.toList r',rfl,Walks.list hh s.heap.objs.size l (Nat.ne_of_lt hlt) its.toArray,⟨⟨_,Heap.get?_push_size _ rfl,rfl,rfl⟩,?_⟩,fun b hb=>?_,by rw [List.size_toArray,hlen];simp,fun i j u v s' Q' E' g pu pv _=>?_,fun a r' ha=>?_,fun h h' g k a r' ha=>?_,fun v h' tk pv kp=>?_⟩
  · obtain ⟨o,e,r'⟩:=pl.isList;exact ⟨o,Heap.get?_push_of_some _ e,r'⟩
  · have hs:(s.heap.push { cls:=.type "list_iterator",data:=.fields #[.ref l,rawInt 0] }).objs.size=s.heap.objs.size+1:=Heap.size_push ..;show b < (s.heap.push { cls:=.type "list_iterator",data:=.fields #[.ref l,rawInt 0] }).objs.size;rw [hs];simp at hb;rcases hb with rfl | rfl
    · exact Nat.lt_succ_self _
    · exact Nat.lt_succ_of_lt hlt
  · obtain ⟨_,a,rfl,ha⟩:=at_ i u pu;obtain ⟨_,b,rfl,hb⟩:=at_ j v pv;obtain ⟨i1,t1,n1⟩:=g a _ ha;obtain ⟨i2,t2,n2⟩:=g b _ hb;exact ⟨a,b,_,_,i1,i2,rfl,rfl,rfl,t1,t2,n1,n2⟩
  · obtain ⟨items,t,n⟩:=vR I ha;exact ⟨items,IsTup.kept t fun o e=>Heap.get?_push_of_some _ e,n⟩
  · obtain ⟨items,t,n⟩:=g a r' ha;have hs:(s.heap.push { cls:=.type "list_iterator",data:=.fields #[.ref l,rawInt 0] }).objs.size=s.heap.objs.size+1:=Heap.size_push ..;have hlo:=old ha;refine ⟨items,IsTup.kept t fun o e=>k a o (fun z=>Nat.lt_irrefl _ (by have z':=List.mem_singleton.mp z;rw [z'] at hlo;exact hlo)) (fun z=>?_) e,n⟩;have z':a=(s.heap.push { cls:=.type "list_iterator",data:=.fields #[.ref l,rawInt 0] }).objs.size:=z;rw [hs] at z';rw [z'] at hlo;exact Nat.lt_irrefl _ (Nat.lt_of_succ_lt hlo)
  · obtain ⟨b1,b2⟩:=uD (p:=p) (rows:=r::rs) rs.length (by simp);have hn:its.toArray.size-1=rs.length:=by rw [List.size_toArray,hlen];simp
    rw [hn] at pv;obtain ⟨_,a,rfl,ha⟩:=at_ _ v pv;rw [b2] at ha;have e3:((r::rs).drop 1).take rs.length=rs:=by simp
    rw [e3] at ha;refine ⟨.ref a,H,I.kept (t':=tk) fun b o e=>kp b o (fun z=>?_) (Heap.get?_push_of_some _ e),rfl,q a ha⟩;rw [List.mem_singleton.mp z] at e;exact absurd (Heap.lt_size e) (Nat.lt_irrefl _)
theorem wp (hc:X.calm=true) (hu:X.A.units+64 < cLine):di X (.builtin "max") (fun xs H Q=>∃ l vs r rs,xs=[.ref l]/\kx X.K H l vs/\eo H vs (r::rs)/\∀ a,H a=some (.tup ((fI (fun b a=>HT.lexLt a b) r rs).map V.int))->Q (.ref a) H) :=
  ox hc fun {x Q E s} h=>zX (wpAny_mono h (fun it s₂ ⟨I,fp,wr,n,P,St,bt,Gd,e,W,st,hfp,hn,cm,g,hG,fin⟩=>⟨I,fp,wr,n,P,St,bt,Gd,e,W,st,hfp,hn,fun i j u v s Q E g' pu pv hQ=>by
    obtain ⟨a,b,r1,r2,i1,i2,rfl,rfl,eb,t1,t2,n1,n2⟩:=cm i j u v s Q E g' pu pv hQ;exact HT.gt_tupInts (A:=X.A.in1) t1 t2 n1 n2 (show X.A.units+1 < cLine by omega) (by rw [<- eb];exact hQ),g,hG,fin⟩) fun _ _ e=>e)
theorem vz (hc:X.calm=true) (hu:X.A.units+64 < cLine):di X (.builtin "min") (fun xs H Q=>∃ l vs r rs,xs=[.ref l]/\kx X.K H l vs/\eo H vs (r::rs)/\∀ a,H a=some (.tup ((fI (fun b a=>HT.lexLt b a) r rs).map V.int))->Q (.ref a) H) :=
  ox hc fun {x Q E s} h=>zZ (wpAny_mono h (fun it s₂ ⟨I,fp,wr,n,P,St,bt,Gd,e,W,st,hfp,hn,cm,g,hG,fin⟩=>⟨I,fp,wr,n,P,St,bt,Gd,e,W,st,hfp,hn,fun i j u v s Q E g' pu pv hQ=>by
    obtain ⟨a,b,r1,r2,i1,i2,rfl,rfl,eb,t1,t2,n1,n2⟩:=cm i j u v s Q E g' pu pv hQ;exact HT.lt_tupInts (A:=X.A.in1) t1 t2 n1 n2 (show X.A.units+1 < cLine by omega) (by rw [<- eb];exact hQ),g,hG,fin⟩) fun _ _ e=>e)
end
noncomputable def gC:List PyData->Option (List (List Int))
  | []=>some []
  | .tuple ds::r=>match bg ds,gC r with
    | some ns,some rs=>some (ns::rs)
    | _,_=>none
  | _=>none
noncomputable def uC:PyData->R PyData
  | .list ds=>match gC ds with
    | some (r::rs)=>.ok (.tuple ((fI (fun b a=>HT.lexLt a b) r rs).map .int))
    | _=>.no
  | _=>.no
noncomputable def uL:PyData->R PyData
  | .list ds=>match gC ds with
    | some (r::rs)=>.ok (.tuple ((fI (fun b a=>HT.lexLt b a) r rs).map .int))
    | _=>.no
  | _=>.no
theorem pO {H:Hp}:∀ {ds:List PyData} {vs:List V} {rs:List (List Int)},bz H ds vs->gC ds=some rs->eo H vs rs
  | [],vs,rs,r,e=>by
    cases e;rw [r.nil_inv];simp only [eo]
  | d::ds,vs,rs,r,e=>by
    obtain ⟨v,r',rfl,p,t⟩:=r.cons_inv;cases d with
    | tuple es =>
      simp only [gC] at e;cases e1:bg es with
      | none=>rw [e1] at e;cases e
      | some ns =>
        cases e2:gC ds with
        | none=>rw [e1,e2] at e;cases e
        | some rs' =>
          rw [e1,e2] at e;cases e;simp only [Rp] at p;obtain ⟨a,ws,rfl,ha,q⟩:=p;rw [dl e1] at q;rw [gc q] at ha;simp only [eo];exact ⟨a,ns,rs',rfl,rfl,ha,pO t e2⟩
    | _=>cases e
section
variable {X:Cx} {a b c:Expr} {fa fb fc:Fe} {pos p2:Pos} {nl:Nat} {G:List Str} {x:Str} {p:Pos}
theorem jR {H:Hp}:∀ ns:List Int,bz H (ns.map .int) (ns.map V.int)
  | []=>bz.nil
  | n::ns=>bz.cons cF (jR ns)
theorem vX (T:Tb X nl G) (j:Nat) (hG:G[j]?=some ("max" : Str)) (hm:X.mg "max" = none) (ha:Z.dF X a fa) (he:aO a=true:=by rfl):Z.cI X (.Call (.Name "max" p) [a] [] pos) (e1 uC fa):=⟨have ha:=ha.un;by
  refine wx T j hG hm fE PyProof.Rows.boot_max (wp T.calm T.hu) (fun H x d Q hx q=>?_) ha he;cases d with
  | list ds =>
    simp only [uC] at q;split at q
    · rename_i r rs er;obtain ⟨a',vs,rfl,h,r'⟩:=dc (K:=X.K) hx;refine ⟨a',vs,r,rs,rfl,h,pO r' er,fun b hb=>q _ H (aB.refl _) ?_⟩;simp only [Rp];exact ⟨b,_,rfl,hb,jR _⟩
    · exact q.elim
  | _=>exact q.elim⟩
theorem vP (T:Tb X nl G) (j:Nat) (hG:G[j]?=some ("min" : Str)) (hm:X.mg "min" = none) (ha:Z.dF X a fa) (he:aO a=true:=by rfl):Z.cI X (.Call (.Name "min" p) [a] [] pos) (e1 uL fa):=⟨have ha:=ha.un;by
  refine wx T j hG hm fE PyProof.Rows.boot_min (vz T.calm T.hu) (fun H x d Q hx q=>?_) ha he;cases d with
  | list ds =>
    simp only [uL] at q;split at q
    · rename_i r rs er;obtain ⟨a',vs,rfl,h,r'⟩:=dc (K:=X.K) hx;refine ⟨a',vs,r,rs,rfl,h,pO r' er,fun b hb=>q _ H (aB.refl _) ?_⟩;simp only [Rp];exact ⟨b,_,rfl,hb,jR _⟩
    · exact q.elim
  | _=>exact q.elim⟩
end
theorem vp {P:Program} {w:World} {K:PySem.W.Frag} {mg:Str->Option Value} {base:Heap} {x qual:Str} {st:Stmt} {f:Addr} {fd:FuncData} {N ps:List Str} {k:Nat} {g:Fs} (F:gI K x qual st f fd) (S:aY N ps (ai st))
    (body:∀ (cdv:Value) (A:Around) (outer:List Env) (s:Shared) (H:Hp) (E:XK),eJ k (A.deeper (envOfC qual (ai st) s.heap.objs.size f cdv)) ->
      Z.kO (fx (cV P w mg) P w K mg base N qual (ai st) f cdv A outer s H E) (cN st) g):bf P w K mg base (cV P w mg) (k+1) f fd ps (dz (dP N.length g) ps.length) :=
  D2.zB F S fun cdv A outer s H E hr=>(body cdv A outer s H E hr).un
theorem aE {P:Program} {w:World} {K:PySem.W.Frag} {mg:Str->Option Value} {base:Heap} {x qual:Str} {st:Stmt} {f:Addr} {fd:FuncData} {N ps:List Str} {k:Nat} {g:Fs} {G:List Str} (F:gI K x qual st f fd) (S:aY N ps (ai st)) (ck:u7 (ai st) N G)
    (body:∀ (cdv:Value) (A:Around) (outer:List Env) (s:Shared) (H:Hp) (E:XK),eJ k (A.deeper (envOfC qual (ai st) s.heap.objs.size f cdv))->Tb (fx (cV P w mg) P w K mg base N qual (ai st) f cdv A outer s H E) N.length G ->
      Z.kO (fx (cV P w mg) P w K mg base N qual (ai st) f cdv A outer s H E) (cN st) g):bf P w K mg base (cV P w mg) (k+1) f fd ps (dz (dP N.length g) ps.length) :=
  vp F S fun cdv A outer s H E hr=>body cdv A outer s H E hr (Bt hr ck)
noncomputable def wz {P:Program} {w:World} {K:PySem.W.Frag} {mg:Str->Option Value} {base:Heap} {f:Addr} {fd:FuncData} {ps:List Str} {n k:Nat}:bf P w K mg base (cV P w mg) k f fd ps (dz (fun _=>.no) n) :=
  have no:∀ vs H Q E,¬ dz (fun _=>.no) n vs H Q E:=fun vs H Q E ⟨ds,_,_,z⟩=>z
  ⟨fun vs H Q E h=>absurd h (no vs H Q E),fun A outer s H args us vs Q E _ _ _ _ h=>absurd h (no vs H Q E)⟩
noncomputable def lP (K:PySem.W.Frag):Bool:=K.all fun p=>match p.2.cls with
  | .type n=>!(n == "list")
  | _=>true
theorem mF {α β:Type} [BEq α] {a:α} {o:β}:∀ {K:List (α×β)},K.lookup a=some o->∃ p∈K,p.2=o
  | [],e=>by cases e
  | (b,x)::r,e=>by
    rw [List.lookup_cons] at e;split at e
    · cases e;exact ⟨_,List.mem_cons_self,rfl⟩
    · obtain ⟨p,h1,h2⟩:=mF e;exact ⟨p,List.mem_cons_of_mem _ h1,h2⟩
theorem sY {K:PySem.W.Frag} (h:lP K=true) {a:Addr} {o:Obj} (e:K.lookup a=some o) (c:o.cls=.type "list"):False:=by
  obtain ⟨p,m,rfl⟩:=mF e;have q:=List.all_eq_true.mp h _ m;simp only [c] at q;simp at q
noncomputable def xW (F:List PyData->R PyData):Prop:=∀ ns:List Int,ns.length<=63->F [.list (ns.map .int)]=.ok (.bool true)
theorem Fg {l:PySem.W.OpenLaw} {q:Program} {loose:List Str} {XP:(Str->Option Value)->Heap->Prop} {YP:World->Heap->Prop} {d:DefRec} {K:Params->PySem.W.Frag} {k:Nat} {x:Str} {F:List PyData->R PyData} (hn:l.most=some 63) (hdf:d.params.defaults=[])
    (hr:eJ k callerA) (hY:∀ (w:World) (h:Heap),YP w h->(K w.params).In h) (hF:xW F)
    (G:∀ (w:World) (mg:Str->Option Value) (fa:Addr) (h:Heap),(K w.params).In h->h.Ns mainGlobals mg->mg d.name=some (.ref fa) ->
      lP (K w.params)=true/\∃ fd:FuncData,(∀ (s:Shared) (u:Value),BindsTo s fd ⟨[u],[]⟩ [(x,u)])/\∀ base:Heap,(K w.params).In base->base.Ns mainGlobals mg->bf l.prog w (K w.params) mg base (cV l.prog w mg) k fa fd [x] (dz F 1)) :
    PySem.W.WalkO q loose XP YP l.row.toRowW d [] (fun f vs=>PySem.call f vs):=by
  refine Att.attach_call hn hdf fun w s₀ s₁ mg mb fa o pm cd doc a vs ns G0 Y ho hd hcd hmg hobj hints hlen hg=>?_
  have KX:=hY w _ Y;obtain ⟨nl,fd,hb,hG⟩:=G w mg fa _ KX G0.T.g hmg;refine L2.xM (sp:=dz F 1) KX G0.T.g G0.T.b G0.T.builtins G0.T.nolimit hg hobj hints (Nat.le_trans hlen (by decide)) hr hG hb (fun H hO hS=>?_) fun H e s' ⟨_,_,_,_,_,z⟩=>z
  refine ⟨[.list (ns.map .int)],bz.cons ?_ bz.nil,rfl,?_⟩
  · rcases hS with (h | ⟨o,h⟩) | ⟨o,its,n,h,c,_⟩
    · rcases hO a with z | ⟨o,xs,z⟩
      · rw [z] at h;cases h
      · rw [z] at h;cases h
    · simp only [Rp];exact ⟨a,o,_,rfl,h,bz.ints ns⟩
    · exact (sY nl h c).elim
  · rw [hF ns hlen];intro v H' _ r;simpa only [Rp] using r
section
variable {K:PySem.W.Frag} {x qual:Str} {st:Stmt} {f:Addr} {fd:FuncData} {p1 p2 p3 p4 p5 p6 p7:Str}
theorem A9 (F:gI K x qual st f fd) (h:∀ (kV doc pm:Value) (an:Option Addr) (cdv ct:Value) (a1:Value),bindArgs (PySem.W.fnOf x qual (dJ st) (cN st) (ai st) .none kV doc pm an cdv ct) ⟨[a1],[]⟩=pure [(p1,a1)]):bO K fd [p1] []:=F.binds fun kV doc pm an cdv ct us hl=>match us,hl with | [a1],_=>h kV doc pm an cdv ct a1
theorem vc (F:gI K x qual st f fd) (h:∀ (kV doc pm:Value) (an:Option Addr) (cdv ct:Value) (a1 a2:Value),bindArgs (PySem.W.fnOf x qual (dJ st) (cN st) (ai st) .none kV doc pm an cdv ct) ⟨[a1,a2],[]⟩=pure [(p1,a1),(p2,a2)]):bO K fd [p1,p2] []:=F.binds fun kV doc pm an cdv ct us hl=>match us,hl with | [a1,a2],_=>h kV doc pm an cdv ct a1 a2
theorem Ev (F:gI K x qual st f fd) (h:∀ (kV doc pm:Value) (an:Option Addr) (cdv ct:Value) (a1 a2 a3:Value),bindArgs (PySem.W.fnOf x qual (dJ st) (cN st) (ai st) .none kV doc pm an cdv ct) ⟨[a1,a2,a3],[]⟩=pure [(p1,a1),(p2,a2),(p3,a3)]):bO K fd [p1,p2,p3] []:=F.binds fun kV doc pm an cdv ct us hl=>match us,hl with | [a1,a2,a3],_=>h kV doc pm an cdv ct a1 a2 a3
theorem Fn (F:gI K x qual st f fd) (h:∀ (kV doc pm:Value) (an:Option Addr) (cdv ct:Value) (a1 a2 a3 a4:Value),bindArgs (PySem.W.fnOf x qual (dJ st) (cN st) (ai st) .none kV doc pm an cdv ct) ⟨[a1,a2,a3,a4],[]⟩=pure [(p1,a1),(p2,a2),(p3,a3),(p4,a4)]):bO K fd [p1,p2,p3,p4] []:=F.binds fun kV doc pm an cdv ct us hl=>match us,hl with | [a1,a2,a3,a4],_=>h kV doc pm an cdv ct a1 a2 a3 a4
end
@[simp] theorem cc {α:Type} (a:α):lS (R.ok a)=.ok a:=(rfl)
noncomputable def BJ:wY->R PyData
  | .rt d=>.ok d
  | .nx _=>.ok .none
  | _=>.no
theorem gE (n:Nat) (g:Fs) (ds:List PyData):dP n g ds=(g (ds.map bh.val++List.replicate (n-ds.length) .non)>>=BJ):=by
  unfold dP;congr 1
@[simp] theorem EC (d:PyData):BJ (.rt d)=.ok d:=(rfl)
section
variable (f g h:Fe) (ρ:aS) (i j:Nat) (t u:aS->R Bool) (a b:Fs) (fs:aS->R (List PyData)) (F:List PyData->R PyData) (d e:PyData)
@[simp] theorem bX:eC d ρ=.ok d:=(rfl)
@[simp] theorem ao:ae 0 (.val d::ρ)=.ok d:=(rfl)
@[simp] theorem av (c:bh):ae (i+1) (c::ρ)=ae i ρ:=(rfl)
@[simp] theorem p8:fw 0 (.own d::ρ)=.ok d:=(rfl)
@[simp] theorem pW (c:bh):fw (i+1) (c::ρ)=fw i ρ:=(rfl)
@[simp] theorem cp (k:PyData->R PyData):e1 k f ρ=(f ρ>>=fun x=>k x):=(rfl)
@[simp] theorem bD (k:PyData->PyData->R PyData):e2 k f g ρ=(f ρ>>=fun x=>g ρ>>=fun y=>k x y):=(rfl)
@[simp] theorem cC:tE f ρ=(f ρ>>=AB):=(rfl)
@[simp] theorem cT (k:Bool):AB (.bool k)=.ok k:=(rfl)
@[simp] theorem w4:rR t u ρ=(t ρ>>=fun k=>if k=true then u ρ else .ok false):=(rfl)
@[simp] theorem z9:CK t u ρ=(t ρ>>=fun k=>if k=true then .ok true else u ρ):=(rfl)
@[simp] theorem mm:rN t ρ=(t ρ>>=fun k=>.ok (!k)):=(rfl)
@[simp] theorem zg:Cz f g ρ=(f ρ>>=fun d=>AB d>>=fun k=>if k=true then g ρ else .ok (.bool false)):=(rfl)
@[simp] theorem nD:wE t f g ρ=(t ρ>>=fun k=>if k=true then f ρ else g ρ):=(rfl)
@[simp] theorem aX:aJ ρ=.ok []:=(rfl)
@[simp] theorem aL:ah f fs ρ=(f ρ>>=fun d=>fs ρ>>=fun ds=>.ok (d::ds)):=(rfl)
@[simp] theorem aW:aG F fs ρ=(fs ρ>>=F):=(rfl)
@[simp] theorem lW:pR fs ρ=(fs ρ>>=fun ds=>if ds.length<=sizeLine then .ok (.tuple ds) else .no):=(rfl)
@[simp] theorem Ew:AZ fs ρ=(fs ρ>>=fun ds=>if ds.length<=sizeLine then .ok (.list ds) else .no):=(rfl)
@[simp] theorem mT:oO ρ=.ok none:=(rfl)
@[simp] theorem me:ou f ρ=(f ρ>>=fun d=>Ex d>>=fun i=>.ok (some i)):=(rfl)
@[simp] theorem yg (k:Int):Ex (.int k)=.ok k:=(rfl)
@[simp] theorem tw (lo hi:Fo):Da f lo hi ρ=(f ρ>>=fun d=>lo ρ>>=fun l=>hi ρ>>=fun u=>BP d l u):=(rfl)
@[simp] theorem rc:eG ρ=.ok (.nx ρ):=(rfl)
@[simp] theorem uG:bi a b ρ=(a ρ>>=uz b):=(rfl)
@[simp] theorem D4:uz b (.nx ρ)=b ρ:=(rfl)
@[simp] theorem DR:uz b (.rt d)=.ok (.rt d):=(rfl)
@[simp] theorem dU:pf t a b ρ=(t ρ>>=fun k=>if k=true then a ρ else b ρ):=(rfl)
@[simp] theorem bU:cR f ρ=(f ρ>>=fun d=>.ok (.rt d)):=(rfl)
@[simp] theorem bw:bY i f ρ=(f ρ>>=fun d=>.ok (.nx (ρ.set i (.val d)))):=(rfl)
@[simp] theorem kr:ib i f ρ=(f ρ>>=fun d=>.ok (.nx (ρ.set i (.own d)))):=(rfl)
@[simp] theorem bT:eu f ρ=(f ρ>>=hZ):=(rfl)
@[simp] theorem vJ:kE fs ρ=(fs ρ>>=r9):=(rfl)
@[simp] theorem qV:oK fs ρ=(fs ρ>>=sP):=(rfl)
@[simp] theorem cH (ds:List PyData):hZ (.tuple ds)=.ok ds:=(rfl)
@[simp] theorem sI (ds:List PyData):hZ (.list ds)=.ok ds:=(rfl)
@[simp] theorem fg:iy a ρ=lS (a ρ):=(rfl)
theorem gx (it:aS->R (List PyData)) (bb:PyData->aS->Option aS):jL it bb a ρ=(it ρ>>=fun ds=>eS bb a ds ρ):=rfl
@[simp] theorem fu (bb:PyData->aS->Option aS):eS bb a [] ρ=.ok (.nx ρ):=by unfold eS;rfl
noncomputable def ut (k:aS->R wY):wY->R wY
  | .nx ρ=>k ρ
  | .ct ρ=>k ρ
  | .bk ρ=>.ok (.nx ρ)
  | .rt r=>.ok (.rt r)
@[simp] theorem dD (k:aS->R wY):ut k (.nx ρ)=k ρ:=(rfl)
theorem eT (i:Nat) (ds:List PyData):eS (aP i) a (d::ds) ρ=(a (ρ.set i (.val d))>>=ut (eS (aP i) a ds)):=by
  rw [eS];show (a (ρ.set i (.val d))>>=_)=_;congr 1
theorem vY (i j:Nat) (x y:PyData) (ds:List PyData):eS (eD i j) a (.tuple [x,y]::ds) ρ=(a ((ρ.set i (.val x)).set j (.val y))>>=ut (eS (eD i j) a ds)):=by
  rw [eS];show (a ((ρ.set i (.val x)).set j (.val y))>>=_)=_;congr 1
theorem aI {a b:Fs} {ρ ρ':aS} (h:a ρ=.ok (.nx ρ')):bi a b ρ=b ρ':=by rw [uG,h];rfl
theorem np {a b:Fs} {ρ:aS} {d:PyData} (h:a ρ=.ok (.rt d)):bi a b ρ=.ok (.rt d):=by rw [uG,h];rfl
theorem dO {n:Nat} {g:Fs} {ds:List PyData} {d:PyData} (h:g (ds.map bh.val++List.replicate (n-ds.length) .non)=.ok (.rt d)):dP n g ds=.ok d:=by rw [gE,h];rfl
theorem eA (bb:PyData->aS->Option aS):bF bb t f ρ []=.ok []:=by unfold bF;rfl
theorem dw (i:Nat) (ds:List PyData):bF (aP i) t f ρ (d::ds)=(t (ρ.set i (.val d))>>=fun k=>if k=true then f (ρ.set i (.val d))>>=fun x=>bF (aP i) t f ρ ds>>=fun xs=>.ok (x::xs) else bF (aP i) t f ρ ds):=by
  rw [bF];rfl
theorem jG (i j:Nat) (x y:PyData) (ds:List PyData):bF (eD i j) t f ρ (.tuple [x,y]::ds)=(t ((ρ.set i (.val x)).set j (.val y))>>=fun k=>if k=true then f ((ρ.set i (.val x)).set j (.val y))>>=fun x=>bF (eD i j) t f ρ ds>>=fun xs=>.ok (x::xs) else bF (eD i j) t f ρ ds):=by
  rw [bF];rfl
@[simp] theorem yd:xJ fs ρ=(fs ρ>>=Dc .tuple):=(rfl)
theorem Du {mk:List PyData->PyData} {n:Int} (h0:0<=n) (h1:n<=1000000):Dc mk [.int n]=.ok (mk (bR 0 n.toNat)):=by
  show (if n<=16777216/\-(2 ^ 62)<=n then R.ok (mk (bR 0 n.toNat)) else .no)=_;rw [if_pos (by omega)]
@[simp] theorem zJ (op:Int->Int->Int):wn i op f ρ=(ae i ρ>>=fun x=>f ρ>>=fun y=>Ey op x y>>=fun z=>.ok (.nx (ρ.set i (.val z)))):=(rfl)
@[simp] theorem Df (op:Int->Int->Int) (m n:Int):Ey op (.int m) (.int n)=.ok (.int (op m n)):=(rfl)
theorem j7 {ρ:aS} {i:Nat} {ds:List PyData} {fk fv:Fe} {n:Int} {v:PyData} (h:ρ[i]?=some (.own (.list ds))) (hk:fk ρ=.ok (.int n)) (hv:fv ρ=.ok v) (h0:0<=n) (h1:n < ds.length):gf i fk fv ρ=.ok (.nx (ρ.set i (.own (.list (ds.set n.toNat v))))):=by
  unfold gf;rw [hv,hk,h];simp only [lS,R.ok_bind];have:L2.uu ds.length n=some n.toNat:=by unfold L2.uu;rw [if_pos h0,if_pos h1]
  rw [this]
@[simp] theorem zQ:zC f g ρ=(f ρ>>=fun x=>g ρ>>=fun y=>hZ x>>=fun xs=>hZ y>>=fun ys=>.ok (lC xs ys)):=(rfl)
@[simp] theorem kq:ld f ρ=(f ρ>>=fun x=>hZ x>>=fun xs=>.ok (de 0 xs)):=(rfl)
theorem vo {ρ:aS} {i:Nat} {ds:List PyData} (f:Fe) (h:ρ[i]?=some (.own (.list ds))) (hz:ds.length < sizeLine):ji i f ρ=(lS (f ρ)>>=fun d=>.ok (.nx (ρ.set i (.own (.list (ds++[d])))))):=by
  unfold ji;congr 1;funext d;rw [h];exact if_pos hz
noncomputable def En:R (List PyData)->R PyData
  | .ok xs=>.ok (.list xs)
  | .ex c=>.ex c
  | .no=>.no
@[simp] theorem jX (xs:List PyData):En (.ok xs)=.ok (.list xs):=(rfl)
theorem bj (it:aS->R (List PyData)) (own:Nat) (fr:List Nat) (bb:PyData->aS->Option aS):bV it own fr bb t f ρ=(lS (it ρ)>>=fun ds=>if ds.length<=sizeLine then En (bF bb t f (az own fr ρ) ds) else .no):=by
  unfold bV;congr 1
theorem dr (i:Nat) (G:PyData->PyData):∀ (ds:List PyData),(∀ d∈ds,f (ρ.set i (.val d))=.ok (G d))->bF (aP i) (fun _=>.ok true) f ρ ds=.ok (ds.map G)
  | [],_=>eA ..
  | d::ds,hh=>by
    rw [dw,hh d List.mem_cons_self,dr i G ds fun x hx=>hh x (List.mem_cons_of_mem _ hx)];rfl
end
section
variable (i j:Int) (xs ys:List PyData)
@[simp] theorem xB:qa (.int i)=.ok (.int (-i)):=(rfl)
@[simp] theorem yP:eY (.int i) (.int j)=.ok (.int (i+j)):=(rfl)
@[simp] theorem wL:eY (.tuple xs) (.tuple ys)=if xs.length+ys.length<=sizeLine then .ok (.tuple (xs++ys)) else .no:=(rfl)
@[simp] theorem pH:k6 (.int i) (.int j)=.ok (.int (i-j)):=(rfl)
@[simp] theorem sW:fS (.int i) (.int j)=if 0 < j then .ok (.int (i%j)) else .no:=(rfl)
@[simp] theorem CO:mD (.int i) (.int j)=if 0 < j/\j < 1073741824 then .ok (.int (i / j)) else .no:=(rfl)
theorem Bu:fR (.int i) (.int j)=if (-(2 ^ 64) < i/\i < 2 ^ 64)\/(-(2 ^ 64) < j/\j < 2 ^ 64) then .ok (.int (i*j)) else .no:=rfl
@[simp] theorem kM (p:Int->Int->Bool):gi p (.int i) (.int j)=.ok (.bool (p i j)):=(rfl)
@[simp] theorem EL:B4 (.int i) (.int j)=.ok (.int (if j < i then j else i)):=(rfl)
@[simp] theorem E0:CA (.int i) (.int j)=.ok (.int (if j > i then j else i)):=(rfl)
@[simp] theorem kB:em (.tuple xs)=.ok (.int xs.length):=(rfl)
@[simp] theorem nI:em (.list xs)=.ok (.int xs.length):=(rfl)
@[simp] theorem qJ:dt (.list xs)=.ok (.tuple xs):=(rfl)
@[simp] theorem zW:qm (.tuple xs)=.ok (.list xs):=(rfl)
@[simp] theorem ES (k:Bool):Ch (.bool k)=.ok (.int (if k then 1 else 0)):=(rfl)
@[simp] theorem yb (lo hi:Option Int):BP (.tuple xs) lo hi=.ok (.tuple (nh xs lo hi)):=(rfl)
theorem qc {α:Type} {xs:List α} {i:Int} (h0:0<=i) (h1:i < xs.length):L2.atI xs i=some (xs[i.toNat]'(by omega)):=by
  unfold L2.atI uu;rw [if_pos h0,if_pos h1];exact List.getElem?_eq_getElem (by omega)
theorem rT {xs:List PyData} {i:Int} (h0:0<=i) (h1:i < xs.length):ce (.tuple xs) (.int i)=.ok (xs[i.toNat]'(by omega)):=by
  show (match L2.atI xs i with | some d=>R.ok d | none=>.no)=_;rw [qc h0 h1]
theorem uo {xs:List PyData} {i:Int} (h0:0<=i) (h1:i < xs.length):ce (.list xs) (.int i)=.ok (xs[i.toNat]'(by omega)):=by
  show (match L2.atI xs i with | some d=>R.ok d | none=>.no)=_;rw [qc h0 h1]
theorem t6:PyData.eqv (.int i) (.int j)=decide (i=j):=by
  simp only [PyData.eqv];by_cases h:i=j
  · subst h;simp
  · simp [h]
theorem fL:gW (.int i) (.int j)=.ok (.bool (decide (i=j))):=by
  unfold gW;rw [if_pos (by rfl),t6]
end
end D2
namespace G
open PySem PySem.Spec PyProof.Rows L2 D2
noncomputable abbrev CC (d:PyData):Prop:=d.canLay0=true
theorem qD:∀ {ds:List PyData},(∀ x∈ds,CC x)->PyData.canLayAll0 ds=true
  | [],_=>by simp [PyData.canLayAll0]
  | d::ds,h=>by
    have h1:=h d List.mem_cons_self;have h2:=qD fun x hx=>h x (List.mem_cons_of_mem _ hx)
    simp only [PyData.canLayAll0,Bool.and_eq_true];exact ⟨h1,h2⟩
theorem wN (i:Int):CC (.int i):=by simp [CC,PyData.canLay0]
theorem uI (p:PyData->Bool):∀ ds:List PyData,D2.o4 (ds.map fun d=>.bool (p d))=some (ds.all p)
  | []=>rfl
  | d::ds=>by
    simp only [List.map_cons,D2.o4,uI p ds,List.all_cons,Option.map_some]
theorem bC {n:Nat} (h:n<=1000):n<=sizeLine:=Nat.le_trans h (by decide)
noncomputable abbrev vC (ns:List Int):PyData:=.list (ns.map .int)
theorem ic {i j:Int} (h:(-(2 ^ 64) < i/\i < 2 ^ 64)\/(-(2 ^ 64) < j/\j < 2 ^ 64)):fR (.int i) (.int j)=.ok (.int (i*j)):=by rw [Bu,if_pos h]
structure sN (c:Int) (n:Nat) (kvs:List (PyData×PyData)):Prop where
  ex:∃ ns:List Int,kvs.map (·.1)=ns.map PyData.int/\(∀ x∈ns,0<=x/\x < c)/\ns.length<=n/\(n=0\/ns≠[])/\ns.Nodup
theorem sN.put {c:Int} {n:Nat} {kvs:List (PyData×PyData)} (h:sN c n kvs) {k:Int} (h0:0<=k) (h1:k < c) (v:PyData):sN c (n+1) (sJ kvs (.int k) v):=by
  obtain ⟨ns,e,hb,hl,hn,nd⟩:=h.ex;have hany:(kvs.any fun kv=>gt kv.1 (.int k))=ns.any fun i=>decide (i=k):=by
    have:(kvs.any fun kv=>gt kv.1 (.int k))=(kvs.map (·.1)).any fun d=>gt d (.int k):=by rw [List.any_map];rfl
    rw [this,e,List.any_map];rfl
  unfold sJ;rw [hany];by_cases hm:k∈ns
  · have ha:(ns.any fun i=>decide (i=k))=true:=by simp;exact hm
    rw [if_pos ha];refine ⟨ns,?_,hb,by omega,.inr (by intro z;rw [z] at hm;cases hm),nd⟩;rw [<- e,List.map_map];apply List.map_congr_left;intro kv _;show (if gt kv.1 (.int k)=true then (kv.1,v) else kv).1=kv.1;split <;> rfl
  · have ha:¬ (ns.any fun i=>decide (i=k))=true:=by simp;exact hm
    rw [if_neg ha];refine ⟨ns++[k],by rw [List.map_append,List.map_append,e];rfl,fun x hx=>?_,by simp;omega,.inr (by simp),?_⟩
    · rcases List.mem_append.mp hx with z | z
      · exact hb x z
      · simp at z;subst z;exact ⟨h0,h1⟩
    · rw [List.nodup_append];refine ⟨nd,by simp,fun a hma b hb'=>?_⟩;simp at hb';subst hb';rintro rfl;exact hm hma
theorem sN.len {c:Int} {n:Nat} {kvs:List (PyData×PyData)} (h:sN c n kvs):kvs.length<=n:=by
  obtain ⟨ns,e,_,hl,_⟩:=h.ex;have:=congrArg List.length e;simp at this;omega
theorem rb (lo:Int) (n:Nat):∀ d∈bR lo n,∃ k,d=.int k:=fun d hd=>by
  unfold bR at hd;obtain ⟨k,_,rfl⟩:=List.mem_map.mp hd;exact ⟨_,rfl⟩
theorem fZ (lo:Int) (n:Nat):(bR lo n).length=n:=by unfold bR;simp
theorem AQ {xs:List PyData} {i:Int} (h0:0<=i) (h1:i < xs.length):∃ x∈xs,ce (.list xs) (.int i)=.ok x:=⟨_,List.getElem_mem _,uo h0 h1⟩
structure P4 where
  w:Int
  m:Int
  g:Int
  ns:List Int
noncomputable def P4.d (p:P4):PyData:=.tuple [.int p.w,.int p.m,.int p.g,.tuple (p.ns.map .int)]
structure Pl (c hi:Int) (p:P4):Prop where
  w0:0<=p.w
  w1:p.w<=1
  m0:0<=p.m
  m1:p.m<=hi
  g0:-20<=p.g
  g1:p.g<=20
  ne:p.ns≠[]
  so:p.ns.Pairwise (· < ·)
  inn:∀ x∈p.ns,0<=x/\x < c
theorem jC:∀ (ns:List Int) (l c:Int),ns.Pairwise (· < ·)->(∀ x∈ns,l<=x/\x < c)->ns=[]\/l+(ns.length:Int)<=c
  | [],_,_,_,_=>.inl rfl
  | x::r,l,c,hp,hb=>by
    right;obtain ⟨h1,h2⟩:=List.pairwise_cons.mp hp;have hx:=hb x List.mem_cons_self;rcases jC r (x+1) c h2 (fun y hy=>⟨by have:=h1 y hy;omega,(hb y (List.mem_cons_of_mem _ hy)).2⟩) with rfl | z
    · simp;omega
    · rw [List.length_cons];omega
theorem Pl.len {c hi:Int} {p:P4} (h:Pl c hi p):(p.ns.length:Int)<=c:=by
  rcases jC p.ns 0 c h.so h.inn with z | z
  · exact absurd z h.ne
  · omega
noncomputable abbrev gD (ps:List P4):PyData:=.tuple (ps.map P4.d)
theorem vW {ns:List Int} (h:ns.Pairwise (·<=·)) (nd:ns.Nodup):ns.Pairwise (· < ·):=by
  have:=h.and nd;exact this.imp fun ⟨a,b⟩=>by omega
end G
noncomputable section
namespace G
open PySem PySem.Spec PyProof.Rows L2 D2
noncomputable def gF:Fs :=
  (bi (pf (tE (e2 (gi Dp) (ae 1) (e1 em (ae 0)))) (cR (e2 ce (ae 0) (ae 1))) eG) (cR (eC (.int 0))))
noncomputable def cf:List PyData->R PyData:=dP 2 (gF)
noncomputable def iL (cf:List PyData->R PyData):Fs :=
  (bi (bY 2 (e2 fS (e2 fR (e2 eY (e2 eY (aG cf (ah (ae 0) (ah (ae 1) aJ))) (e2 fR (eC (.int 7919)) (ae 1))) (eC (.int 1))) (eC (.int 48271))) (eC (.int 2147483647)))) (cR (e2 fS (e2 eY (e2 eY (e2 fR (ae 2) (ae 2)) (e2 fR (eC (.int 7)) (ae 2))) (ae 1)) (eC (.int 2147483629)))))
noncomputable def cj:List PyData->R PyData:=dP 3 (iL cf)
noncomputable def iF:Fs :=
  (bi (bY 2 (e2 fS (e2 fR (e2 eY (e2 eY (ae 0) (e2 fR (eC (.int 104729)) (ae 1))) (eC (.int 17))) (eC (.int 69621))) (eC (.int 2147483647)))) (cR (e2 fS (e2 eY (e2 eY (e2 fR (ae 2) (ae 2)) (e2 fR (eC (.int 3)) (ae 2))) (ae 1)) (eC (.int 2147483629)))))
noncomputable def bu:List PyData->R PyData:=dP 3 (iF)
noncomputable def iM (bu:List PyData->R PyData):Fs :=
  (bi (ib 2 (eC (.dict []))) (bi (iy (jL (kE (ah (e2 eY (e2 eY (eC (.int 1)) (e2 fS (ae 0) (eC (.int 3)))) (e2 fR (eC (.int 20)) (e1 Ch (e2 (gW) (e2 fS (e2 mD (ae 0) (eC (.int 3))) (eC (.int 29))) (eC (.int 7)))))) aJ)) (aP 3) (Aa 2 (e2 fS (aG bu (ah (ae 0) (ah (ae 3) aJ))) (ae 1)) (eC (.bool true))))) (cR (e1 dt (e1 ka (fw 2))))))
noncomputable def cL:List PyData->R PyData:=dP 4 (iM bu)
noncomputable def iD (bu:List PyData->R PyData) (cL:List PyData->R PyData):Fs :=
  (bi (bY 3 (e2 k6 (e2 fS (e2 mD (ae 0) (eC (.int 26))) (eC (.int 9))) (eC (.int 4)))) (bi (pf (tE (e2 (gW) (e2 fS (e2 mD (ae 0) (eC (.int 234))) (eC (.int 11))) (eC (.int 3)))) (bY 3 (e2 k6 (e2 fS (e2 mD (ae 0) (eC (.int 26))) (eC (.int 41))) (eC (.int 20)))) eG) (cR (pR (ah (e2 fS (ae 0) (eC (.int 2))) (ah (e2 fS (e2 mD (ae 0) (eC (.int 2))) (e2 eY (ae 2) (eC (.int 1)))) (ah (ae 3) (ah (aG cL (ah (aG bu (ah (ae 0) (ah (eC (.int 9)) aJ))) (ah (ae 1) aJ))) aJ))))))))
noncomputable def cx:List PyData->R PyData:=dP 4 (iD bu cL)
noncomputable def im (cj:List PyData->R PyData) (cx:List PyData->R PyData):Fs :=
  (bi (bY 2 (aG cj (ah (ae 0) (ah (eC (.int 0)) aJ)))) (bi (bY 3 (e2 eY (eC (.int 1)) (e2 fS (ae 2) (e2 B4 (ae 1) (e2 CA (eC (.int 4)) (e1 em (ae 0))))))) (bi (bY 4 (e2 ce (AZ (ah (eC (.int 1)) (ah (eC (.int 2)) (ah (eC (.int 3)) (ah (eC (.int 5)) (ah (eC (.int 12)) (ah (eC (.int 12)) aJ))))))) (e2 fS (e2 mD (ae 2) (eC (.int 24))) (eC (.int 6))))) (cR (e1 dt (bV (kE (ah (ae 3) aJ)) 1 [0,3,4] (aP 0) (fun _=>.ok true) (aG cx (ah (aG cj (ah (ae 1) (ah (e2 eY (eC (.int 3)) (ae 0)) aJ))) (ah (ae 2) (ah (ae 3) aJ))))))))))
noncomputable def cv:List PyData->R PyData:=dP 5 (im cj cx)
noncomputable def h7:Fs :=
  (cR (pR (ah (e2 eY (e1 em (ae 0)) (eC (.int 1))) aJ)))
noncomputable def bp:List PyData->R PyData:=dP 1 (h7)
noncomputable def mY:Fs :=
  (cR (e2 eY (ae 0) (e1 dt (bV (eu (Da (ae 1) (ou (e1 em (ae 0))) oO)) 1 [] (aP 0) (fun _=>.ok true) (eC (.int 0))))))
noncomputable def bE:List PyData->R PyData:=dP 2 (mY)
noncomputable def gG:Fs :=
  (bi (bY 1 (bV (eu (ae 0)) 1 [] (aP 0) (fun _=>.ok true) (e2 ce (ae 0) (eC (.int 1))))) (cR (e1 dt (bV (oK (ah (e1 oF (ae 1)) (ah (eC (.int 0)) (ah (e1 qa (eC (.int 1))) aJ)))) 1 [1] (aP 0) (tE (e2 (gW) (e2 fS (ae 0) (eC (.int 2))) (eC (.int 1)))) (pB (ae 1) (ae 0))))))
noncomputable def bN:List PyData->R PyData:=dP 2 (gG)
noncomputable def iR (bE:List PyData->R PyData):Fs :=
  (bi (iy (jL (oK (ah (e2 k6 (e1 em (ae 0)) (eC (.int 1))) (ah (e1 qa (eC (.int 1))) (ah (e1 qa (eC (.int 1))) aJ)))) (aP 3) (pf (tE (e2 (gi Dp) (e2 ce (ae 0) (ae 3)) (e2 ce (ae 1) (ae 3)))) (cR (aG bE (ah (e2 eY (Da (ae 0) oO (ou (ae 3))) (pR (ah (e2 eY (e2 ce (ae 0) (ae 3)) (eC (.int 1))) aJ))) (ah (ae 1) aJ)))) eG))) (cR (ae 2)))
noncomputable def cO:List PyData->R PyData:=dP 4 (iR bE)
noncomputable def i7 (bE:List PyData->R PyData) (cO:List PyData->R PyData):Fs :=
  (bi (bY 4 (bV (eu (e2 ce (ae 0) (eC (.int 3)))) 1 [1] (aP 0) (fun _=>.ok true) (e2 ce (ae 1) (ae 0)))) (bi (bY 5 (wE (tE (e2 (gW) (e2 ce (ae 0) (eC (.int 0))) (eC (.int 0)))) (e1 uL (ae 4)) (e1 uC (ae 4)))) (bi (pf (tE (e2 (gW) (ae 5) (ae 3))) (cR (ae 3)) eG) (bi (bY 6 (Da (ae 5) oO (ou (e2 k6 (e1 em (ae 2)) (e2 mD (e2 ce (ae 0) (eC (.int 1))) (eC (.int 2))))))) (bi (pf (tE (e2 (gW) (e2 fS (e2 ce (ae 0) (eC (.int 1))) (eC (.int 2))) (eC (.int 1)))) (cR (aG cO (ah (ae 6) (ah (ae 2) (ah (ae 3) aJ))))) eG) (cR (aG bE (ah (ae 6) (ah (ae 2) aJ)))))))))
noncomputable def bI:List PyData->R PyData:=dP 7 (i7 bE cO)
noncomputable def o9 (bp:List PyData->R PyData) (bE:List PyData->R PyData) (bN:List PyData->R PyData) (bI:List PyData->R PyData):Fs :=
  (bi (bY 1 (aG bN (ah (ae 0) aJ))) (bi (bY 2 (aG bp (ah (ae 0) aJ))) (bi (ib 3 (bV (eu (ae 0)) 1 [1] (aP 0) (fun _=>.ok true) (aG bE (ah (pR aJ) (ah (ae 1) aJ))))) (bi (bY 4 (eC (.bool true))) (bi (iy (l9 1000000 (tE (ae 4)) (bi (bY 4 (eC (.bool false))) (iy (jL (ld (ae 0)) (eD 5 6) (bi (bY 7 (gy 3 (aG bI (ah (ae 6) (ah (ae 3) (ah (ae 1) (ah (ae 2) aJ))))))) (pf (tE (e2 nU (ae 7) (e2 ce (fw 3) (ae 5)))) (bi (gf 3 (ae 5) (ae 7)) (bY 4 (eC (.bool true)))) eG))))))) (cR (e1 dt (fw 3))))))))
noncomputable def fQ:List PyData->R PyData:=dP 8 (o9 bp bE bN bI)
noncomputable def gB (bp:List PyData->R PyData) (fQ:List PyData->R PyData):Fs :=
  (bi (bY 1 (aG bp (ah (ae 0) aJ))) (cR (e1 dt (bV (eu (aG fQ (ah (ae 0) aJ))) 1 [1] (aP 0) (fun _=>.ok true) (wE (tE (e2 (gW) (ae 0) (ae 1))) (eC (.int 1)) (eC (.int 0)))))))
noncomputable def bM:List PyData->R PyData:=dP 2 (gB bp fQ)
noncomputable def h9:Fs :=
  (cR (xJ (ah (e1 em (ae 0)) aJ)))
noncomputable def cu:List PyData->R PyData:=dP 1 (h9)
noncomputable def jD:Fs :=
  (cR (e1 dt (bV (ld (ae 0)) 2 [1] (eD 0 1) (fun _=>.ok true) (wE (tE (e2 (tN false) (ae 0) (ae 2))) (ae 1) (eC .none)))))
noncomputable def cD:List PyData->R PyData:=dP 2 (jD)
noncomputable def fA:Fs :=
  (cR (e1 dt (bV (zC (ae 0) (ae 1)) 2 [] (eD 0 1) (fun _=>.ok true) (wE (tE (e2 (pN) (ae 0) (eC .none))) (ae 1) (ae 0)))))
noncomputable def aA:List PyData->R PyData:=dP 2 (fA)
noncomputable def nq:Fs :=
  (cR (e1 dt (bV (ld (ae 0)) 2 [] (eD 0 1) (tE (e2 (lx) (ae 1) (eC .none))) (ae 0))))
noncomputable def ca:List PyData->R PyData:=dP 1 (nq)
noncomputable def fF (ca:List PyData->R PyData):Fs :=
  (bi (ib 3 (bV (eu (ae 2)) 1 [] (aP 0) (fun _=>.ok true) (eC .none))) (bi (iy (jL (eu (aG ca (ah (ae 2) aJ))) (aP 4) (pf (rR (tE (e2 (gW) (e2 ce (e2 ce (ae 0) (ae 4)) (eC (.int 0))) (ae 1))) (tE (e2 (gi tt) (e2 ce (ae 2) (ae 4)) (eC (.int 0))))) (gf 3 (ae 4) (e2 ce (bV (eu (e2 ce (e2 ce (ae 0) (ae 4)) (eC (.int 3)))) 1 [2,4] (aP 0) (tE (e2 (gW) (e2 ce (ae 1) (ae 0)) (e2 k6 (e2 ce (ae 1) (ae 2)) (eC (.int 1))))) (ae 0)) (eC (.int 0)))) eG))) (cR (e1 dt (fw 3)))))
noncomputable def aZ:List PyData->R PyData:=dP 5 (fF ca)
noncomputable def l5:Fs :=
  (cR (e1 dt (bV (eu (ae 0)) 1 [1] (aP 0) (tE (e2 (tN false) (ae 0) (ae 1))) (ae 0))))
noncomputable def cb:List PyData->R PyData:=dP 2 (l5)
noncomputable def iV:Fs :=
  (bi (bY 4 (bV (eu (ae 1)) 1 [3] (aP 0) (tE (e2 (lx) (e2 ce (ae 1) (ae 0)) (eC .none))) (ae 0))) (bi (pf (tE (e2 (gW) (e2 ce (ae 0) (eC (.int 0))) (ae 2))) (cR (e2 (gi tt) (e1 em (ae 4)) (eC (.int 0)))) eG) (cR (e2 (gW) (e1 em (ae 4)) (e1 em (ae 1))))))
noncomputable def bS:List PyData->R PyData:=dP 5 (iV)
noncomputable def jN (cb:List PyData->R PyData) (bS:List PyData->R PyData):Fs :=
  (bi (bY 4 (bV (eu (ae 0)) 1 [1] (aP 0) (fun _=>.ok true) (aG cb (ah (e2 ce (ae 0) (eC (.int 3))) (ah (ae 1) aJ))))) (bi (ib 5 (bV (kE (ah (e1 em (ae 0)) aJ)) 1 [3] (aP 0) (fun _=>.ok true) (wE (tE (e2 (tN false) (ae 0) (ae 1))) (eC (.int 0)) (eC .none)))) (bi (bY 6 (eC (.int 0))) (bi (bY 7 (e1 qm (ae 3))) (bi (iy (l9 1000000 (tE (e2 (gi tt) (e1 em (ae 7)) (eC (.int 0)))) (bi (wn 6 (fun a b=>a+b) (eC (.int 1))) (bi (bY 8 (bV (eu (ae 1)) 1 [5] (aP 0) (tE (e2 (pN) (e2 ce (fw 1) (ae 0)) (eC .none))) (ae 0))) (bi (bY 7 (bV (eu (ae 8)) 1 [0,4,2,5] (aP 0) (tE (gy 4 (aG bS (ah (e2 ce (ae 1) (ae 0)) (ah (e2 ce (ae 2) (ae 0)) (ah (ae 3) (ah (ae 4) aJ))))))) (ae 0))) (iy (jL (eu (ae 7)) (aP 9) (gf 5 (ae 9) (ae 6))))))))) (cR (e1 dt (fw 5))))))))
noncomputable def cr:List PyData->R PyData:=dP 10 (jN cb bS)
noncomputable def jy:Fs :=
  (cR (e1 dt (bV (eu (ae 0)) 1 [] (aP 0) (fun _=>.ok true) (eC .none))))
noncomputable def bQ:List PyData->R PyData:=dP 1 (jy)
noncomputable def fH (cb:List PyData->R PyData) (bQ:List PyData->R PyData):Fs :=
  (bi (ib 3 (e1 qm (aG bQ (ah (ae 0) aJ)))) (bi (iy (jL (eu (ae 2)) (aP 4) (pf (tE (e2 (gW) (e2 ce (e2 ce (ae 0) (ae 4)) (eC (.int 0))) (ae 1))) (gf 3 (ae 4) (e2 ce (aG cb (ah (e2 ce (e2 ce (ae 0) (ae 4)) (eC (.int 3))) (ah (ae 2) aJ))) (eC (.int 0)))) eG))) (cR (e1 dt (fw 3)))))
noncomputable def bq:List PyData->R PyData:=dP 5 (fH cb bQ)
noncomputable def kI:Fs :=
  (cR (e1 dt (bV (eu (ae 0)) 1 [1] (aP 0) (tE (e2 (tN true) (ae 0) (ae 1))) (ae 0))))
noncomputable def bK:List PyData->R PyData:=dP 2 (kI)
noncomputable def dI (cD:List PyData->R PyData) (aA:List PyData->R PyData) (aZ:List PyData->R PyData) (ca:List PyData->R PyData) (cr:List PyData->R PyData) (bq:List PyData->R PyData) (aD:List PyData->R PyData) (bK:List PyData->R PyData) (c_Share:Addr):Fs :=
  (bi (bY 2 (e1 oF (bV (eu (ae 1)) 1 [0] (aP 0) (fun _=>.ok true) (e2 ce (e2 ce (ae 1) (ae 0)) (eC (.int 1)))))) (bi (bY 3 (e2 fS (ae 2) (eC (.int 2)))) (bi (bY 4 (e2 k6 (eC (.int 1)) (ae 3))) (bi (bY 5 (bV (eu (ae 1)) 1 [0,2] (aP 0) (tE (e2 (gW) (e2 ce (e2 ce (ae 1) (ae 0)) (eC (.int 1))) (ae 2))) (ae 0))) (bi (bY 6 (aG cr (ah (ae 0) (ah (ae 1) (ah (ae 3) (ah (ae 5) aJ)))))) (bi (bY 7 (aG aD (ah (ae 0) (ah (aG bK (ah (ae 1) (ah (aG ca (ah (ae 6) aJ)) aJ))) aJ)))) (bi (bY 8 (bV (ld (e2 ce (ae 7) (eC (.int 0)))) 2 [4] (eD 0 1) (tE (e2 (gW) (ae 1) (ae 2))) (ae 0))) (bi (pf (tE (e2 (gW) (e1 em (ae 8)) (eC (.int 0)))) (bi (bY 9 (aG aA (ah (aG aZ (ah (ae 0) (ah (ae 3) (ah (ae 6) aJ)))) (ah (e2 ce (ae 7) (eC (.int 1))) aJ)))) (cR (rh c_Share ["who","places","moves"] (ah (ae 3) (ah (ae 1) (ah (aG aA (ah (ae 9) (ah (aG bq (ah (ae 0) (ah (ae 3) (ah (ae 1) aJ)))) aJ))) aJ)))))) eG) (bi (bY 6 (aG cr (ah (ae 0) (ah (ae 1) (ah (ae 4) (ah (ae 8) aJ)))))) (bi (bY 9 (aG aA (ah (aG aZ (ah (ae 0) (ah (ae 4) (ah (ae 6) aJ)))) (ah (aG cD (ah (e2 ce (ae 7) (eC (.int 1))) (ah (ae 8) aJ))) aJ)))) (cR (rh c_Share ["who","places","moves"] (ah (ae 4) (ah (aG ca (ah (ae 6) aJ)) (ah (ae 9) aJ)))))))))))))))
noncomputable def dR (aA:List PyData->R PyData) (bQ:List PyData->R PyData) (c_Share:Addr):Fs :=
  (bi (ib 2 (bV (eu (ae 0)) 1 [] (aP 0) (fun _=>.ok true) (eC .none))) (bi (bY 3 (aG bQ (ah (ae 0) aJ))) (bi (iy (jL (eu (ae 1)) (aP 4) (bi (iy (jL (eu (e1 (jQ c_Share "places") (ae 4))) (aP 5) (gf 2 (ae 5) (e1 (jQ c_Share "who") (ae 4))))) (bY 3 (aG aA (ah (ae 3) (ah (e1 (jQ c_Share "moves") (ae 4)) aJ))))))) (cR (pR (ah (e1 dt (fw 2)) (ah (ae 3) aJ)))))))
noncomputable def aV (c_Share:Addr):List PyData->R PyData:=dP 6 (dR aA bQ c_Share)
noncomputable def dG (aT:List PyData->R PyData) (aV:List PyData->R PyData) (bK:List PyData->R PyData) (c_Share:Addr):Fs :=
  (bi (ib 2 (AZ aJ)) (bi (bY 3 (ae 1)) (bi (iy (l9 1000000 (tE (e2 (gi tt) (e1 em (ae 3)) (eC (.int 0)))) (bi (bY 4 (aG aT (ah (ae 0) (ah (ae 3) aJ)))) (bi (ji 2 (ae 4)) (bY 3 (aG bK (ah (ae 3) (ah (e1 (jQ c_Share "places") (ae 4)) aJ)))))))) (Es 2 (cR (aG aV (ah (ae 0) (ah (ae 2) aJ))))))))
noncomputable def aD (c_Share:Addr):Nat->List PyData->R PyData
  | 0=>fun _=>.no
  | k+1=>dP 5 (dG (dP 10 (dI cD aA aZ ca cr bq (aD c_Share k) bK c_Share)) (aV c_Share) bK c_Share)
noncomputable def aT (c_Share:Addr) (k:Nat):List PyData->R PyData:=dP 10 (dI cD aA aZ ca cr bq (aD c_Share k) bK c_Share)
noncomputable def xL (cu:List PyData->R PyData) (aD:List PyData->R PyData):Fs :=
  (cR (aG aD (ah (ae 0) (ah (aG cu (ah (ae 0) aJ)) aJ))))
noncomputable def jV (c_Share:Addr):List PyData->R PyData:=dP 1 (xL cu (aD c_Share 14))
noncomputable def yD (cv:List PyData->R PyData) (bM:List PyData->R PyData) (jV:List PyData->R PyData):Fs :=
  (bi (bY 1 (aG cv (ah (ae 0) (ah (eC (.int 10)) aJ)))) (bi (bY 2 (aG bM (ah (ae 1) aJ))) (bi (pf (CK (rN (tE (e1 (nP .tuple) (ae 2)))) (rN (tE (e1 xu (bV (eu (ae 2)) 1 [] (aP 0) (fun _=>.ok true) (e1 (nP .int) (ae 0))))))) (cR (eC (.bool false))) eG) (bi (pf (rN (tE (e1 xu (bV (eu (ae 2)) 1 [] (aP 0) (fun _=>.ok true) (CG (e1 (nP .bool) (ae 0))))))) (cR (eC (.bool false))) eG) (cR (Cz (e2 (gW) (ae 2) (e2 ce (aG jV (ah (ae 1) aJ)) (eC (.int 0)))) (e2 (gW) (aG bM (ah (ae 1) aJ)) (ae 2))))))))
noncomputable def uJ (c_Share:Addr):List PyData->R PyData:=dP 3 (yD cv bM (jV c_Share))
end G
end
namespace G
open PySem PySem.Spec PyProof.Rows L2 D2
theorem zE (ns:List Int) {k:Int} (hk:0<=k):∃ v,cf [vC ns,.int k]=.ok (.int v):=by
  unfold cf gF;by_cases h:k < ns.length
  · refine ⟨ns[k.toNat]'(by omega),?_⟩;have hx:=uo (xs:=ns.map PyData.int) (i:=k) hk (by simpa using h);rw [gE];simp [h,hx]
  · refine ⟨0,?_⟩;rw [gE];simp [h]
theorem qG (ns:List Int) {k:Int} (hk:0<=k):∃ v,cj [vC ns,.int k]=.ok (.int v)/\0<=v/\v < 2147483629:=by
  obtain ⟨c,hc⟩:=zE ns hk;unfold cj iL;have m1:fR (.int 7919) (.int k)=.ok (.int (7919*k)):=ic (.inl (by omega));have m2:fR (.int (c+7919*k+1)) (.int 48271)=.ok (.int ((c+7919*k+1)*48271)):=ic (.inr (by omega));generalize hd:(c+7919*k+1)*48271%2147483647=d;have hd0:0<=d:=by omega
  have hd1:d < 2147483647:=by omega
  have m3:fR (.int d) (.int d)=.ok (.int (d*d)):=ic (.inl (by omega));have m4:fR (.int 7) (.int d)=.ok (.int (7*d)):=ic (.inl (by omega));refine ⟨(d*d+7*d+k)%2147483629,?_,by omega,by omega⟩;rw [gE];simp [hc,m1,m2,hd,m3,m4,List.replicate]
theorem qh (n k:Int):∃ v,bu [.int n,.int k]=.ok (.int v)/\0<=v/\v < 2147483629:=by
  unfold bu iF;have m1:fR (.int 104729) (.int k)=.ok (.int (104729*k)):=ic (.inl (by omega));have m2:fR (.int (n+104729*k+17)) (.int 69621)=.ok (.int ((n+104729*k+17)*69621)):=ic (.inr (by omega));generalize hd:(n+104729*k+17)*69621%2147483647=d;have hd0:0<=d:=by omega
  have hd1:d < 2147483647:=by omega
  have m3:fR (.int d) (.int d)=.ok (.int (d*d)):=ic (.inl (by omega));have m4:fR (.int 3) (.int d)=.ok (.int (3*d)):=ic (.inl (by omega));refine ⟨(d*d+3*d+k)%2147483629,?_,by omega,by omega⟩;rw [gE];simp [m1,m2,hd,m3,m4,List.replicate]
theorem mh (n c:Int) (hc:1<=c):∀ (ds:List PyData) (m:Nat) (kvs:List (PyData×PyData)) (x:bh),sN c m kvs->(∀ d∈ds,∃ k,d=.int k)->m+ds.length<=1000 ->
    ∃ kvs' x',sN c (m+ds.length) kvs'/\eS (aP 3) (Aa 2 (e2 fS (aG bu (ah (ae 0) (ah (ae 3) aJ))) (ae 1)) (eC (.bool true))) ds [.val (.int n),.val (.int c),.own (.dict kvs),x]
      = .ok (.nx [.val (.int n),.val (.int c),.own (.dict kvs'),x'])
  | [],m,kvs,x,hk,_,_=>⟨kvs,x,hk,by rw [fu]⟩
  | d::ds,m,kvs,x,hk,hi,hl=>by
    obtain ⟨k,rfl⟩:=hi d List.mem_cons_self;obtain ⟨v,hv,v0,v1⟩:=qh n k;have hk':=hk.put (k:=v%c) (Int.emod_nonneg _ (by omega)) (Int.emod_lt_of_pos _ (by omega)) (.bool true);obtain ⟨kvs',x',h1,h2⟩:=mh n c hc ds (m+1) _ (.val (.int k)) hk' (fun d hd=>hi d (List.mem_cons_of_mem _ hd)) (by simp at hl;omega);refine ⟨kvs',x',by rw [List.length_cons];simpa [Nat.add_comm,Nat.add_left_comm,Nat.add_assoc] using h1,?_⟩;have hlen:=hk.len;have hsz:kvs.length < sizeLine:=Nat.lt_of_le_of_lt (show kvs.length<=1000 by simp at hl;omega) (by decide);have hc':0 < c:=by omega
    rw [eT,<- h2];simp [Aa,hv,hc',gS,hsz]
theorem wD {n c:Int} (hn:0<=n) (hc:1<=c):∃ ns:List Int,cL [.int n,.int c]=.ok (.tuple (ns.map .int))/\(∀ x∈ns,0<=x/\x < c)/\ns≠[]/\ns.Pairwise (· < ·):=by
  unfold cL iM;have m1:∀ k:Int,fR (.int 20) (.int k)=.ok (.int (20*k)):=fun k=>ic (.inl (by omega))
  generalize hN:(1+n%3+20*(if n / 3%29=7 then 1 else 0):Int)=N;have hN0:1<=N:=by split at hN <;> omega
  have hN1:N<=23:=by split at hN <;> omega
  obtain ⟨kvs,x,hk,hf⟩:=mh n c hc (bR 0 N.toNat) 0 [] .non ⟨[],rfl,by simp,by simp,.inl rfl,by simp⟩ (rb _ _) (by rw [fZ];omega);obtain ⟨ns,e,hb,hl,hz,nd⟩:=hk.ex;rw [fZ] at hl hz;have hi:bg (kvs.map (·.1))=some ns:=by rw [e,dj]
  have hs:ka (.dict kvs)=.ok (.list ((fJ ns).map PyData.int)):=by
    show (match bg (kvs.map (·.1)) with | some ns=>if ns.length < 64 then R.ok (PyData.list ((fJ ns).map PyData.int)) else .no | none=>.no)=_;rw [hi];exact if_pos (by omega)
  have hr:-(2 ^ 62)<=N/\N < 2 ^ 62:=by omega
  refine ⟨fJ ns,?_,fun x hx=>hb x ((eZ ns).mem_iff.mp hx),?_,vW (ip ns) ((eZ ns).nodup_iff.mpr nd)⟩
  · rw [gE];have hg:r9 [.int N]=.ok (bR 0 N.toNat):=by
      show (if -(2 ^ 62)<=N/\N < 2 ^ 62 then R.ok (bR 0 N.toNat) else .no)=_;rw [if_pos hr]
    simp [gx,fL,m1,List.replicate,hN,hg,hf,hs]
  · intro z;have:=(eZ ns).length_eq;rw [z] at this;rcases hz with q | q
    · omega
    · exact q (List.eq_nil_of_length_eq_zero this.symm)
theorem vI {n c h:Int} (hn:0<=n) (hc:1<=c) (h0:0<=h):∃ p:P4,cx [.int n,.int c,.int h]=.ok p.d/\Pl c h p:=by
  obtain ⟨v,hv,v0,v1⟩:=qh n 9;obtain ⟨ns,hg,hb,hne,hso⟩:=wD (n:=v) (c:=c) v0 hc;unfold cx iD;have hh:0 < h+1:=by omega
  have s4:4<=sizeLine:=by decide
  have a1:=Int.emod_nonneg (n / 2) (show h+1≠0 by omega);have a2:=Int.emod_lt_of_pos (n / 2) hh;by_cases hq:n / 234%11=3
  · refine ⟨⟨n%2,n / 2%(h+1),n / 26%41-20,ns⟩,?_,⟨by dsimp only;omega,by dsimp only;omega,a1,by dsimp only;omega,by dsimp only;omega,by dsimp only;omega,hne,hso,hb⟩⟩;rw [gE];simp [hh,fL,hq,hv,hg,s4,P4.d]
  · refine ⟨⟨n%2,n / 2%(h+1),n / 26%9-4,ns⟩,?_,⟨by dsimp only;omega,by dsimp only;omega,a1,by dsimp only;omega,by dsimp only;omega,by dsimp only;omega,hne,hso,hb⟩⟩;rw [gE];simp [hh,fL,hq,hv,hg,s4,P4.d]
theorem rC (f:Fe) (ρ:aS) (i:Nat) (P:P4->Prop):∀ ds:List PyData,(∀ d∈ds,∃ p:P4,f (ρ.set i (.val d))=.ok p.d/\P p)->∃ ps:List P4,bF (aP i) (fun _=>.ok true) f ρ ds=.ok (ps.map P4.d)/\ps.length=ds.length/\∀ p∈ps,P p
  | [],_=>⟨[],eA ..,rfl,by simp⟩
  | d::ds,h=>by
    obtain ⟨x,h1,h2⟩:=h d List.mem_cons_self;obtain ⟨xs,h3,h4,h5⟩:=rC f ρ i P ds fun d hd=>h d (List.mem_cons_of_mem _ hd)
    refine ⟨x::xs,?_,by simp [h4],fun y hy=>?_⟩
    · rw [dw,h1,h3];rfl
    · rcases List.mem_cons.mp hy with rfl | hy
      · exact h2
      · exact h5 y hy
theorem sL (ns:List Int) {most:Int} (hm0:1<=most) (hm1:most<=24):∃ (ps:List P4) (hi:Int),cv [vC ns,.int most]=.ok (gD ps)/\(∀ p∈ps,Pl ps.length hi p)/\1<=ps.length/\(ps.length:Int)<=most/\0<=hi/\hi<=12:=by
  obtain ⟨v,hv,v0,v1⟩:=qG ns (k:=0) (by omega);unfold cv im;generalize hm:(if (if (ns.length:Int) > 4 then (ns.length:Int) else 4) < most then (if (ns.length:Int) > 4 then (ns.length:Int) else 4) else most)=m;have m0:0 < m:=by split at hm <;> split at hm <;> omega
  have m1:m<=most:=by split at hm <;> split at hm <;> omega
  generalize hc:1+v%m=c;have c0:1<=c:=by have:=Int.emod_nonneg v (show m≠0 by omega);omega
  have c1:c<=most:=by have:=Int.emod_lt_of_pos v m0;omega
  have hix:∃ h,ce (.list [.int 1,.int 2,.int 3,.int 5,.int 12,.int 12]) (.int (v / 24%6))=.ok (.int h)/\0<=h/\h<=12:=by
    obtain ⟨x,hx,e⟩:=AQ (xs:=[.int 1,.int 2,.int 3,.int 5,.int 12,.int 12]) (i:=v / 24%6) (by omega) (by simp;omega);rw [e];simp at hx;rcases hx with rfl | rfl | rfl | rfl | rfl <;> exact ⟨_,rfl,by decide,by decide⟩
  obtain ⟨h,hh,h0,h1⟩:=hix;have s6:6<=sizeLine:=by decide
  have hr:r9 [.int c]=.ok (bR 0 c.toNat):=by
    show (if -(2 ^ 62)<=c/\c < 2 ^ 62 then R.ok (bR 0 c.toNat) else .no)=_;rw [if_pos (by omega)]
  obtain ⟨xs,e1,e2,e3⟩:=rC (aG cx (ah (aG cj (ah (ae 1) (ah (e2 eY (eC (.int 3)) (ae 0)) aJ))) (ah (ae 2) (ah (ae 3) aJ)))) (az 1 [0,3,4] [.val (vC ns),.val (.int most),.val (.int v),.val (.int c),.val (.int h)]) 0 (Pl c h) (bR 0 c.toNat) fun d hd=>by
    unfold bR at hd;obtain ⟨k,_,rfl⟩:=List.mem_map.mp hd;obtain ⟨w,hw,w0,w1⟩:=qG ns (k:=3+(0+(k:Int))) (by omega);obtain ⟨d,hd1,hd2⟩:=vI (n:=w) (c:=c) (h:=h) w0 c0 h0;refine ⟨d,?_,hd2⟩;simp at hw;simp [az,List.replicate,hw,hd1]
  rw [fZ] at e2;have ec:(xs.length:Int)=c:=by omega
  refine ⟨xs,h,?_,by rw [ec];exact e3,by omega,by omega,h0,h1⟩;rw [gE];simp [hv,hm,m0,hc,s6,hh,List.replicate,bj,hr,fZ,bC (show c.toNat<=1000 by omega),e1]
noncomputable def du (ns:List Int) (i:Int):Bool:=ns.any fun j=>decide (j=i)
theorem cM {ns:List Int} {i:Int}:du ns i=true<->i∈ns:=by
  unfold du;rw [List.any_eq_true];constructor
  · rintro ⟨j,hj,e⟩;have:=of_decide_eq_true e;exact this ▸ hj
  · exact fun h=>⟨i,h,decide_eq_true rfl⟩
theorem iX:∀ ns:List Int,PyData.depthAll (ns.map .int)=0
  | []=>by simp [PyData.depthAll]
  | n::ns=>by simp [PyData.depthAll,PyData.depth,iX ns]
theorem mJ (ns:List Int):PyData.canLayAll0 (ns.map .int)=true:=qD fun x hx=>by
  obtain ⟨i,_,rfl⟩:=List.mem_map.mp hx;exact wN i
theorem oR (ns:List Int) (i:Int):pk (ns.map .int) (.int i)=true:=by
  unfold pk;rw [mJ,iX];simp [PyData.canLay0]
theorem qx (ns:List Int) (i:Int):((ns.map PyData.int).any fun y=>PyData.eqv y (.int i))=du ns i:=by
  rw [List.any_map];congr 1
theorem EW (ns:List Int) (i:Int) (neg:Bool):tN neg (.int i) (.tuple (ns.map .int))=.ok (.bool (if neg then !du ns i else du ns i)):=by
  show (if pk (ns.map .int) (.int i)=true then R.ok (PyData.bool _) else .no)=_;rw [if_pos (oR ns i),qx]
theorem Fj (ns:List Int) (i:Int) (neg:Bool):tN neg (.int i) (.list (ns.map .int))=.ok (.bool (if neg then !du ns i else du ns i)):=by
  show (if pk (ns.map .int) (.int i)=true then R.ok (PyData.bool _) else .no)=_;rw [if_pos (oR ns i),qx]
theorem rq:∀ ns ms:List Int,PyData.eqvAll (ns.map .int) (ms.map .int)=decide (ns=ms)
  | [],[]=>by simp [PyData.eqvAll]
  | [],_::_=>by simp [PyData.eqvAll]
  | _::_,[]=>by simp [PyData.eqvAll]
  | n::ns,m::ms=>by
    simp only [List.map_cons,PyData.eqvAll,rq ns ms,t6];by_cases h:n=m <;> by_cases h2:ns=ms <;> simp [h,h2]
theorem zM (ns ms:List Int):wv (.tuple (ns.map .int)) (.tuple (ms.map .int))=true:=by
  unfold wv;simp [PyData.canLay0,mJ,PyData.depth,iX]
theorem dh {t:aS->R Bool} {ρ:aS} {p:Int->Bool}:∀ ns:List Int,(∀ x∈ns,t ((bh.non::ρ).set 0 (.val (.int x)))=.ok (p x))->bF (aP 0) t (ae 0) (.non::ρ) (ns.map .int)=.ok ((ns.filter p).map .int)
  | [],_=>eA ..
  | x::ns,h=>by
    rw [List.map_cons,dw,h x List.mem_cons_self,dh ns fun y hy=>h y (List.mem_cons_of_mem _ hy)];cases hp:p x with
    | true=>rw [List.filter_cons_of_pos hp];rfl
    | false=>rw [List.filter_cons_of_neg (by rw [hp];simp)];rfl
theorem nF (c:Nat):bR 0 c=((List.range c).map fun (k:Nat)=>(k:Int)).map .int:=by
  unfold bR;rw [List.map_map];apply List.map_congr_left;intro k _;simp
noncomputable def aU (ps:List P4) (i:Int):List Int:=(ps[i.toNat]?.map (·.ns)).getD []
theorem mr {ps:List P4} {i:Int} (h0:0<=i) (h1:i < ps.length):ce (gD ps) (.int i)=.ok (ps[i.toNat]'(by omega)).d:=by
  rw [rT h0 (by simpa using h1)];simp
theorem eU {ps:List P4} {i:Int} (h0:0<=i) (h1:i < ps.length):aU ps i=(ps[i.toNat]'(by omega)).ns:=by
  unfold aU;rw [List.getElem?_eq_getElem (by omega)];rfl
theorem pD (p:P4):ce p.d (.int 3)=.ok (.tuple (p.ns.map .int)):=rfl
theorem nr (p:P4):ce p.d (.int 0)=.ok (.int p.w):=rfl
noncomputable def ap (ps:List P4) (i:Int):Int:=(ps[i.toNat]?.map (·.w)).getD 0
theorem eX {ps:List P4} {i:Int} (h0:0<=i) (h1:i < ps.length):ap ps i=(ps[i.toNat]'(by omega)).w:=by
  unfold ap;rw [List.getElem?_eq_getElem (by omega)];rfl
noncomputable def bG (ps:List P4) (js:List Int) (i:Int):List Int:=(aU ps i).filter (du js)
noncomputable def lg (ps:List P4) (js kn:List Int) (i:Int):List Int:=(bG ps js i).filter (du kn)
noncomputable def iW (ps:List P4) (js:List Int) (who:Int) (kn:List Int) (i:Int):Bool :=
  !du kn i&&(decide (0 < (lg ps js kn i).length)&&(decide (ap ps i=who)||decide ((lg ps js kn i).length=(bG ps js i).length)))
noncomputable def eF (ps:List P4) (js:List Int) (who:Int) (kn is:List Int):List Int:=is.filter (iW ps js who kn)
noncomputable def cS (ps:List P4) (js:List Int) (who r:Int) (kvs:List (Int×Int)):List (Int×Int):=kvs++(eF ps js who (kvs.map (·.1)) js).map fun i=>(i,r)
noncomputable def gk (ps:List P4) (js:List Int) (who:Int):Int->Nat->List (Int×Int)->List (Int×Int)
  | _,0,kvs=>kvs
  | r,n+1,kvs=>gk ps js who (r+1) n (cS ps js who r kvs)
theorem gP:∀ {l m:List Int},l.Nodup->(∀ x∈l,x∈m)->l.length<=m.length
  | [],m,_,_=>Nat.zero_le _
  | x::l,m,nd,h=>by
    obtain ⟨n1,n2⟩:=List.nodup_cons.mp nd;have hx:=h x List.mem_cons_self;have:=gP (m:=m.erase x) n2 fun y hy=>(List.mem_erase_of_ne (by rintro rfl;exact n1 hy)).mpr (h y (List.mem_cons_of_mem _ hy))
    rw [List.length_erase_of_mem hx] at this;have hp:=List.length_pos_of_mem hx;rw [List.length_cons];omega
structure i8 (js:List Int) (kvs:List (Int×Int)):Prop where
  nd:(kvs.map (·.1)).Nodup
  sub:∀ x∈kvs.map (·.1),x∈js
theorem i8.len {js:List Int} {kvs:List (Int×Int)} (h:i8 js kvs) (nj:js.Nodup):kvs.length<=js.length:=by
  have:=gP h.nd h.sub;simpa using this
theorem jE (ps:List P4) (js:List Int) (who r:Int) (kvs:List (Int×Int)):(cS ps js who r kvs).map (·.1)=kvs.map (·.1)++eF ps js who (kvs.map (·.1)) js:=by
  unfold cS;rw [List.map_append,List.map_map];congr 1;exact List.map_id _
theorem mI {ps:List P4} {js:List Int} {who:Int} {kn is:List Int} {x:Int} (h:x∈eF ps js who kn is):x∈is/\x∉kn:=by
  obtain ⟨h1,h2⟩:=List.mem_filter.mp h;refine ⟨h1,fun z=>?_⟩;unfold iW at h2;rw [cM.mpr z] at h2;simp at h2
theorem i8.round {ps:List P4} {js:List Int} {who r:Int} {kvs:List (Int×Int)} (h:i8 js kvs) (nj:js.Nodup):i8 js (cS ps js who r kvs):=by
  refine ⟨?_,fun x hx=>?_⟩
  · rw [jE,List.nodup_append];refine ⟨h.nd,List.Pairwise.filter _ nj,fun a ha b hb e=>?_⟩;subst e;exact (mI hb).2 ha
  · rw [jE,List.mem_append] at hx;rcases hx with z | z
    · exact h.sub x z
    · exact (mI z).1
theorem jU (ps:List P4) (js:List Int) (who:Int):∀ (n:Nat) (r:Int) (kvs:List (Int×Int)),gk ps js who r (n+1) kvs=cS ps js who (r+n) (gk ps js who r n kvs)
  | 0,r,kvs=>by
    show cS ps js who r kvs=cS ps js who (r+((0:Nat):Int)) kvs;simp
  | n+1,r,kvs=>by
    show gk ps js who (r+1) (n+1) (cS ps js who r kvs)=_;rw [jU ps js who n (r+1)];show cS ps js who (r+1+n) _=cS ps js who (r+((n+1:Nat):Int)) _;rw [show r+1+(n:Int)=r+((n+1:Nat):Int) by omega];rfl
noncomputable def aK (ps:List P4) (js:List Int) (who:Int) (gs:List Int):Nat->List Int
  | 0=>gs
  | m+1=>aK ps js who gs m++eF ps js who (aK ps js who gs m) js
noncomputable def vF (ps:List P4) (js:List Int) (who:Int) (gs:List Int) (m:Nat):List (Int×Int):=gk ps js who 1 m (gs.map fun i=>(i,0))
theorem lZ (ps:List P4) (js:List Int) (who:Int) (gs:List Int) (m:Nat):vF ps js who gs (m+1)=cS ps js who (m+1) (vF ps js who gs m):=by
  unfold vF;rw [jU];congr 1;omega
theorem eO (ps:List P4) (js:List Int) (who:Int) (gs:List Int):∀ m,(vF ps js who gs m).map (·.1)=aK ps js who gs m
  | 0=>by
    show (gs.map fun i=>((i,0):Int×Int)).map (·.1)=gs;rw [List.map_map];exact List.map_id _
  | m+1=>by
    rw [lZ,jE,eO ps js who gs m];rfl
noncomputable def look (kvs:List (Int×Int)) (i:Int):Option Int:=(kvs.find? fun q=>decide (q.1=i)).map (·.2)
theorem lA (a b:List (Int×Int)) (i:Int):look (a++b) i=(look a i).or (look b i):=by
  unfold look;rw [List.find?_append];cases a.find? _ <;> rfl
theorem fU {kvs:List (Int×Int)} {i:Int}:look kvs i=none<->i∉kvs.map (·.1):=by
  unfold look;rw [Option.map_eq_none_iff,List.find?_eq_none];constructor
  · intro h z;obtain ⟨q,hq,e⟩:=List.mem_map.mp z;exact h q hq (decide_eq_true e)
  · intro h q hq e;exact h (List.mem_map.mpr ⟨q,hq,of_decide_eq_true e⟩)
theorem ik (r:Int) (i:Int):∀ l:List Int,look (l.map fun j=>(j,r)) i=if i∈l then some r else none
  | []=>rfl
  | j::l=>by
    have ih:=ik r i l;unfold look at ih ⊢;by_cases h:j=i
    · subst h;rw [List.map_cons,List.find?_cons_of_pos (by simp)];simp
    · rw [List.map_cons,List.find?_cons_of_neg (by simpa using h),ih];by_cases h2:i∈l
      · simp [h2]
      · have:¬ (i=j):=fun z=>h z.symm
        simp [h2,this]
section
variable {ps:List P4} {js:List Int} {who:Int} {gs:List Int}
theorem jb {i:Int} {k:Nat} (h:i∈aK ps js who gs k):∀ {m:Nat},k<=m->i∈aK ps js who gs m
  | 0,hm=>by
    have:k=0:=by omega
    subst this;exact h
  | m+1,hm=>by
    by_cases e:k=m+1
    · subst e;exact h
    · show i∈aK ps js who gs m++_;exact List.mem_append_left _ (jb h (by omega))
theorem ff {i:Int}:∀ {m:Nat} {q:Int},look (vF ps js who gs m) i=some q<->∃ k:Nat,q=k/\k<=m/\i∈aK ps js who gs k/\(k=0\/i∉aK ps js who gs (k-1))
  | 0,q=>by
    show look (gs.map fun j=>(j,0)) i=some q<->_;rw [ik];constructor
    · intro h;split at h
      · rename_i hi;cases h;exact ⟨0,rfl,Nat.le_refl _,hi,.inl rfl⟩
      · cases h
    · rintro ⟨k,rfl,hk,hi,_⟩;have:k=0:=by omega
      subst this;rw [if_pos (show i∈gs from hi)];rfl
  | m+1,q=>by
    have ih:=fun q=>ff (i:=i) (m:=m) (q:=q)
    have e:vF ps js who gs (m+1)=vF ps js who gs m++(eF ps js who (aK ps js who gs m) js).map fun j=>(j,((m+1:Nat):Int)):=by
      rw [lZ];unfold cS;rw [eO];rfl
    rw [e,lA,ik];by_cases hi:i∈aK ps js who gs m
    · cases h0:look (vF ps js who gs m) i with
      | none=>rw [fU,eO] at h0;exact (h0 hi).elim
      | some q0 =>
        rw [Option.some_or,<- h0,ih q];constructor
        · rintro ⟨k,a,b,c,d⟩;exact ⟨k,a,by omega,c,d⟩
        · rintro ⟨k,a,b,c,d⟩;refine ⟨k,a,?_,c,d⟩;by_cases hk:k=m+1
          · subst hk;rcases d with d | d
            · omega
            · exact (d hi).elim
          · omega
    · have h0:look (vF ps js who gs m) i=none:=by rw [fU,eO];exact hi
      rw [h0,Option.none_or];constructor
      · intro h;split at h
        · rename_i hn;cases h;exact ⟨m+1,rfl,Nat.le_refl _,List.mem_append_right _ hn,.inr hi⟩
        · cases h
      · rintro ⟨k,rfl,b,c,d⟩;have hk:k=m+1:=by
          by_cases hk:k=m+1
          · exact hk
          · exact (hi (jb c (by omega))).elim
        subst hk;have c':i∈aK ps js who gs m++eF ps js who (aK ps js who gs m) js:=c;rw [if_pos ((List.mem_append.mp c').elim (fun z=>(hi z).elim) id)]
theorem uP {k:Nat} (h:eF ps js who (aK ps js who gs k) js=[]):∀ d,aK ps js who gs (k+d)=aK ps js who gs k
  | 0=>rfl
  | d+1=>by
    show aK ps js who gs (k+d)++eF ps js who (aK ps js who gs (k+d)) js=_;rw [uP h d,h,List.append_nil]
theorem pS (ng:gs.Nodup) (hg:∀ x∈gs,x∈js) (nj:js.Nodup):∀ m,i8 js (vF ps js who gs m)
  | 0=>⟨by rw [eO];exact ng,fun x hx=>by rw [eO] at hx;exact hg x hx⟩
  | m+1=>by rw [lZ];exact (pS ng hg nj m).round nj
theorem tx (ng:gs.Nodup) (hg:∀ x∈gs,x∈js) (nj:js.Nodup) {m:Nat} {i:Int} (h:i∈aK ps js who gs m):i∈js:=by
  have:=(pS (ps:=ps) (who:=who) ng hg nj m).sub;rw [eO] at this;exact this i h
theorem Cs (ng:gs.Nodup) (hg:∀ x∈gs,x∈js) (nj:js.Nodup) (m:Nat):(aK ps js who gs m).length<=js.length:=by
  have:=(pS (ps:=ps) (who:=who) ng hg nj m).len nj;rw [<- eO,List.length_map];exact this
theorem ub:∀ m,(∀ k,k < m->eF ps js who (aK ps js who gs k) js≠[])->m+gs.length<=(aK ps js who gs m).length
  | 0,_=>by show 0+gs.length<=gs.length;omega
  | m+1,h=>by
    have:=ub m fun k hk=>h k (by omega)
    have h1:=h m (by omega);have h2:=List.length_pos_iff.mpr h1;show _<=(aK ps js who gs m++eF ps js who (aK ps js who gs m) js).length;rw [List.length_append];omega
theorem CM (ng:gs.Nodup) (hg:∀ x∈gs,x∈js) (nj:js.Nodup) {n:Nat} (hn:js.length<=n):eF ps js who (aK ps js who gs n) js=[]:=by
  by_cases h:eF ps js who (aK ps js who gs n) js=[]
  · exact h
  · have:=ub (ps:=ps) (js:=js) (who:=who) (gs:=gs) (n+1) fun k hk e=>h (by
      have s:=uP e (n-k);rw [show k+(n-k)=n by omega] at s;rw [s];exact e)
    have:=Cs (ps:=ps) (who:=who) ng hg nj (n+1);omega
theorem gJ {α:Type} (p:α->Bool):∀ l:List α,(l.filter p).length=l.length<->∀ x∈l,p x=true
  | []=>by simp
  | x::l=>by
    have ih:=gJ p l;have le:=List.length_filter_le p l;cases h:p x with
    | true=>rw [List.filter_cons_of_pos h];simp [ih,h]
    | false=>rw [List.filter_cons_of_neg (by rw [h];simp)];simp [h];omega
theorem mQ {α:Type} (p:α->Bool) (l:List α):0 < (l.filter p).length<->∃ x∈l,p x=true:=by
  rw [List.length_pos_iff_exists_mem];simp [List.mem_filter]
theorem fi {kn:List Int} {i:Int}:iW ps js who kn i=true<->i∉kn/\(∃ g∈bG ps js i,g∈kn)/\(ap ps i=who\/∀ g∈bG ps js i,g∈kn):=by
  unfold iW lg;rw [Bool.and_eq_true,Bool.and_eq_true,Bool.or_eq_true,decide_eq_true_iff,decide_eq_true_iff,decide_eq_true_iff,mQ,gJ,Bool.not_eq_true',<- Bool.not_eq_true,cM];simp only [cM]
noncomputable def rK (ps:List P4) (js:List Int) (who:Int) (gs:List Int) (i:Int):Option Int:=look (vF ps js who gs ps.length) i
structure sy (ps:List P4) (js:List Int) (who:Int) (gs:List Int) (rk:Int->Option Int):Prop where
  nneg:∀ i q,rk i=some q->0<=q
  sub:∀ i q,rk i=some q->i∈js
  zero:∀ i,rk i=some 0<->i∈gs
  own:∀ i q,rk i=some q->0 < q->ap ps i=who->∃ g∈bG ps js i,rk g=some (q-1)
  low:∀ i q g t,rk i=some q->0 < q->ap ps i=who->g∈bG ps js i->rk g=some t->q-1<=t
  oth:∀ i q,rk i=some q->0 < q->ap ps i≠who->(∃ g,g∈bG ps js i)/\∀ g∈bG ps js i,∃ t,rk g=some t/\t < q
  outO:∀ i,i∈js->rk i=none->ap ps i=who->∀ g∈bG ps js i,rk g=none
  outX:∀ i,i∈js->rk i=none->ap ps i≠who->(∃ g,g∈bG ps js i)->∃ g∈bG ps js i,rk g=none
theorem uT (ng:gs.Nodup) (hg:∀ x∈gs,x∈js) (nj:js.Nodup) (hn:js.length<=ps.length):sy ps js who gs (rK ps js who gs):=by
  have ex:∀ {i k},i∈aK ps js who gs k->k<=ps.length->∃ t:Nat,t<=k/\rK ps js who gs i=some (t:Int):=fun {i}=>by
    intro k;induction k with
    | zero=>exact fun h _=>⟨0,Nat.le_refl _,ff.mpr ⟨0,rfl,by omega,h,.inl rfl⟩⟩
    | succ k ih =>
      intro h hk;by_cases h1:i∈aK ps js who gs k
      · obtain ⟨t,a,b⟩:=ih h1 (by omega);exact ⟨t,by omega,b⟩
      · exact ⟨k+1,Nat.le_refl _,ff.mpr ⟨k+1,rfl,hk,h,.inr h1⟩⟩
  have nm:∀ {i},rK ps js who gs i=none<->i∉aK ps js who gs ps.length:=fun {i}=>by
    unfold rK;rw [fU,eO]
  have fix:=CM (ps:=ps) (who:=who) ng hg nj hn;have new:∀ {i k},i∈aK ps js who gs (k+1)->i∉aK ps js who gs k->iW ps js who (aK ps js who gs k) i=true:=fun {i k} h1 h2=>by
    have h1':i∈aK ps js who gs k++eF ps js who (aK ps js who gs k) js:=h1;rcases List.mem_append.mp h1' with z | z
    · exact (h2 z).elim
    · exact (List.mem_filter.mp z).2
  have not:∀ {i k},i∈js->i∉aK ps js who gs (k+1)->¬ iW ps js who (aK ps js who gs k) i=true:=fun {i k} h1 h2 h3 =>
    h2 (show i∈aK ps js who gs k++eF ps js who (aK ps js who gs k) js from List.mem_append_right _ (List.mem_filter.mpr ⟨h1,h3⟩))
  have pos:∀ {i q},rK ps js who gs i=some q->0 < q->∃ k:Nat,q=((k+1:Nat):Int)/\k+1<=ps.length/\i∈aK ps js who gs (k+1)/\i∉aK ps js who gs k:=fun {i q} h hq=>by
    obtain ⟨k,rfl,b,c,d⟩:=ff.mp h;cases k with
    | zero=>omega
    | succ k =>
      rcases d with d | d
      · omega
      · exact ⟨k,rfl,b,c,d⟩
  refine ⟨fun i q h=>?_,fun i q h=>?_,fun i=>?_,fun i q h hq ho=>?_,fun i q g t h hq ho hg' ht=>?_,fun i q h hq ho=>?_,fun i hi h ho g hg'=>?_,fun i hi h ho hw=>?_⟩
  · obtain ⟨k,rfl,_⟩:=ff.mp h;omega
  · obtain ⟨k,rfl,_,c,_⟩:=ff.mp h;exact tx ng hg nj c
  · constructor
    · intro h;obtain ⟨k,e,_,c,_⟩:=ff.mp h;have:k=0:=by omega
      subst this;exact c
    · exact fun h=>ff.mpr ⟨0,rfl,by omega,h,.inl rfl⟩
  · obtain ⟨k,rfl,b,c,d⟩:=pos h hq;obtain ⟨_,⟨g,hg1,hg2⟩,_⟩:=fi.mp (new c d);obtain ⟨t,ht,hr⟩:=ex hg2 (by omega);refine ⟨g,hg1,?_⟩;by_cases e:t=k
    · subst e;rw [hr];congr 1;omega
    · exfalso;cases k with
      | zero=>omega
      | succ k =>
        obtain ⟨t',e',_,c',_⟩:=ff.mp hr;have e'':t=t':=by omega
        subst e'';exact not (tx ng hg nj c) d (fi.mpr ⟨fun z=>d (jb z (by omega)),⟨g,hg1,jb c' (by omega)⟩,.inl ho⟩)
  · obtain ⟨k,rfl,b,c,d⟩:=pos h hq;obtain ⟨t',rfl,_,c',_⟩:=ff.mp ht;by_cases e:k<=t'
    · omega
    · exfalso;cases k with
      | zero=>omega
      | succ k=>exact not (tx ng hg nj c) d (fi.mpr ⟨fun z=>d (jb z (by omega)),⟨g,hg',jb c' (by omega)⟩,.inl ho⟩)
  · obtain ⟨k,rfl,b,c,d⟩:=pos h hq;obtain ⟨_,⟨g,hg1,_⟩,o⟩:=fi.mp (new c d);refine ⟨⟨g,hg1⟩,fun g' hg'=>?_⟩;obtain ⟨t,ht,hr⟩:=ex ((o.resolve_left ho) g' hg') (by omega);exact ⟨t,hr,by omega⟩
  · rw [nm] at h ⊢;intro hz;have:i∈eF ps js who (aK ps js who gs ps.length) js:=List.mem_filter.mpr ⟨hi,fi.mpr ⟨h,⟨g,hg',hz⟩,.inl ho⟩⟩;rw [fix] at this;cases this
  · rw [nm] at h;by_cases hz:∃ g∈bG ps js i,rK ps js who gs g=none
    · exact hz
    · exfalso;have all:∀ g∈bG ps js i,g∈aK ps js who gs ps.length:=fun g hg'=>by
        by_cases z:g∈aK ps js who gs ps.length
        · exact z
        · exact (hz ⟨g,hg',nm.mpr z⟩).elim
      obtain ⟨g,hg'⟩:=hw;have:i∈eF ps js who (aK ps js who gs ps.length) js:=List.mem_filter.mpr ⟨hi,fi.mpr ⟨h,⟨g,hg',all g hg'⟩,.inr all⟩⟩;rw [fix] at this;cases this
end
noncomputable abbrev ids (n:Nat):List Int:=(List.range n).map fun (k:Nat)=>(k:Int)
theorem cE {n:Nat} {i:Int}:i∈ids n<->0<=i/\i < n:=by
  constructor
  · intro h;obtain ⟨k,hk,rfl⟩:=List.mem_map.mp h;have:=List.mem_range.mp hk;omega
  · rintro ⟨h0,h1⟩;exact List.mem_map.mpr ⟨i.toNat,List.mem_range.mpr (by omega),by omega⟩
theorem eN (n:Nat):(ids n).length=n:=by simp
theorem tV {n k:Nat} (h:k < n):(ids n)[k]?=some (k:Int):=by
  rw [List.getElem?_map,List.getElem?_range h];rfl
theorem Cw (n:Nat):(ids n).Pairwise (· < ·):=by
  rw [List.pairwise_map];exact (List.pairwise_lt_range).imp fun h=>by omega
theorem yq {l:List Int} (h:l.Pairwise (· < ·)):l.Nodup:=h.imp fun h=>by omega
noncomputable def bZ (f:Int->PyData) (n:Nat):List PyData:=(ids n).map f
theorem bJ (f:Int->PyData) (n:Nat):(bZ f n).length=n:=by unfold bZ;rw [List.length_map,eN]
theorem gu {f:Int->PyData} {n:Nat} {i:Int} (h0:0<=i) (h1:i < n):(bZ f n)[i.toNat]'(by rw [bJ];omega)=f i:=by
  have h:=tV (n:=n) (k:=i.toNat) (by omega);have:(bZ f n)[i.toNat]?=some (f i):=by
    unfold bZ;rw [List.getElem?_map,h,Option.map_some];congr 2;omega
  exact Option.some.inj ((List.getElem?_eq_getElem _).symm.trans this)
theorem ya {f:Int->PyData} {n:Nat} {i:Int} (h0:0<=i) (h1:i < n):ce (.tuple (bZ f n)) (.int i)=.ok (f i):=by
  rw [rT h0 (by rw [bJ];exact h1),gu h0 h1]
theorem qI {f:Int->PyData} {n:Nat} {i:Int} (h0:0<=i) (h1:i < n):ce (.list (bZ f n)) (.int i)=.ok (f i):=by
  rw [uo h0 (by rw [bJ];exact h1),gu h0 h1]
theorem cB {f g:Int->PyData} {n:Nat} (h:∀ i:Int,0<=i->i < n->f i=g i):bZ f n=bZ g n :=
  List.map_congr_left fun i hi=>h i (cE.mp hi).1 (cE.mp hi).2
theorem jT {f:Int->PyData} {n:Nat} {i:Int} {v:PyData} (h0:0<=i) (h1:i < n):(bZ f n).set i.toNat v=bZ (fun j=>if j=i then v else f j) n:=by
  refine List.ext_getElem (by rw [List.length_set,bJ,bJ]) fun k hk1 hk2=>?_
  rw [bJ] at hk2;have e:=gu (f:=fun j=>if j=i then v else f j) (n:=n) (i:=(k:Int)) (by omega) (by omega);have e2:=gu (f:=f) (n:=n) (i:=(k:Int)) (by omega) (by omega);simp only [Int.toNat_natCast] at e e2;rw [e,List.getElem_set];by_cases h:i.toNat=k
  · rw [if_pos h,if_pos (by omega)]
  · rw [if_neg h,if_neg (by omega),e2]
theorem sZ (f:Int->PyData) (ρ:aS) (g:Fe) (n:Nat) (h:∀ i:Int,0<=i->i < n->g (ρ.set 0 (.val (.int i)))=.ok (f i)):bF (aP 0) (fun _=>.ok true) g ρ (bR 0 n)=.ok (bZ f n):=by
  have:=dr g ρ 0 (fun d=>match d with | .int i=>f i | d=>d) (bR 0 n) fun d hd=>by
    unfold bR at hd;obtain ⟨k,hk,rfl⟩:=List.mem_map.mp hd;have:=List.mem_range.mp hk;exact h _ (by omega) (by omega)
  rw [this];unfold bZ;rw [nF,List.map_map];rfl
noncomputable def oD:Option Int->PyData
  | none=>.none
  | some k=>.int k
theorem uN (o:Option Int):lx (oD o) .none=.ok (.bool o.isSome):=by cases o <;> rfl
theorem yF (o:Option Int):pN (oD o) .none=.ok (.bool o.isNone):=by cases o <;> rfl
noncomputable def pc (k m:Nat):List Int:=(List.range m).map fun (j:Nat)=>((k+j:Nat):Int)
theorem mH (k m:Nat):pc k (m+1)=(k:Int)::pc (k+1) m:=by
  unfold pc;rw [List.range_succ_eq_map,List.map_cons,List.map_map];congr 1;apply List.map_congr_left;intro j _;show ((k+(j+1):Nat):Int)=((k+1+j:Nat):Int)
  omega
theorem lT (n:Nat):pc 0 n=ids n:=by
  unfold pc;apply List.map_congr_left;intro j _;simp
theorem iH {t:aS->R Bool} {ρ:aS} {p:Int->Bool} {g:Int->PyData}:∀ (m k:Nat),(∀ j:Nat,k<=j->j < k+m->t (.val (.int j)::.val (g j)::ρ)=.ok (p j)) ->
    bF (eD 0 1) t (ae 0) (.non::.non::ρ) (de k ((pc k m).map g))=.ok (((pc k m).filter p).map .int)
  | 0,k,_=>by unfold pc;simp [de,eA]
  | m+1,k,h=>by
    rw [mH,List.map_cons];have e:de k (g k::(pc (k+1) m).map g)=.tuple [.int k,g k]::de (k+1) ((pc (k+1) m).map g):=rfl;rw [e,jG,iH m (k+1) fun j h1 h2=>h j (by omega) (by omega)];have hk:=h k (Nat.le_refl _) (by omega);simp only [List.set_cons_zero,List.set_cons_succ,hk,R.ok_bind,ao];cases hp:p k with
    | true=>rw [List.filter_cons_of_pos hp];rfl
    | false=>rw [List.filter_cons_of_neg (by rw [hp];simp)];rfl
theorem qO {fe:Fe} {ρ:aS} {g h:Int->PyData}:∀ (m k:Nat),(∀ j:Nat,k<=j->j < k+m->fe (.val (.int j)::.val (g j)::ρ)=.ok (h j)) ->
    bF (eD 0 1) (fun _=>.ok true) fe (.non::.non::ρ) (de k ((pc k m).map g))=.ok ((pc k m).map h)
  | 0,k,_=>by unfold pc;simp [de,eA]
  | m+1,k,hh=>by
    rw [mH,List.map_cons];have e:de k (g k::(pc (k+1) m).map g)=.tuple [.int k,g k]::de (k+1) ((pc (k+1) m).map g):=rfl;rw [e,jG,qO m (k+1) fun j h1 h2=>hh j (by omega) (by omega)];have hk:=hh k (Nat.le_refl _) (by omega);simp only [R.ok_bind,if_true,List.set_cons_zero,List.set_cons_succ,hk];rfl
theorem zi {f g h:Int->PyData} {n:Nat} {fe:Fe} {ρ:aS} (hh:∀ i:Int,0<=i->i < n->fe (.val (f i)::.val (g i)::ρ)=.ok (h i)):bF (eD 0 1) (fun _=>.ok true) fe (.non::.non::ρ) (lC (bZ f n) (bZ g n))=.ok (bZ h n):=by
  have go:∀ is:List Int,(∀ i∈is,0<=i/\i < n)->bF (eD 0 1) (fun _=>.ok true) fe (.non::.non::ρ) (lC (is.map f) (is.map g))=.ok (is.map h):=by
    intro is;induction is with
    | nil=>intro _;unfold lC;simp [eA]
    | cons i is ih =>
      intro hb;have e:lC ((i::is).map f) ((i::is).map g)=.tuple [f i,g i]::lC (is.map f) (is.map g):=rfl;rw [e,jG,ih fun x hx=>hb x (List.mem_cons_of_mem _ hx)];have:=hh i (hb i List.mem_cons_self).1 (hb i List.mem_cons_self).2;simp only [R.ok_bind,if_true,List.set_cons_zero,List.set_cons_succ,this];rfl
  exact go (ids n) fun i hi=>cE.mp hi
theorem iG (t:aS->R Bool) (g:Fs) (n:Nat) (ρ:aS):dm t g (n+1) ρ=(t ρ>>=fun b=>if b=true then g ρ>>=ut (dm t g n) else .ok (.nx ρ)):=by
  rw [dm];congr 1
noncomputable def qy (s:PyData) (js:List Int):Prop:=s=.tuple (js.map .int)\/s=.list (js.map .int)
theorem qy.inn {s:PyData} {js:List Int} (h:qy s js) (neg:Bool) (k:Int):tN neg (.int k) s=.ok (.bool (if neg then !du js k else du js k)):=by
  rcases h with rfl | rfl
  · exact EW ..
  · exact Fj ..
theorem qy.seq {s:PyData} {js:List Int} (h:qy s js):hZ s=.ok (js.map .int):=by
  rcases h with rfl | rfl <;> rfl
theorem qy.len {s:PyData} {js:List Int} (h:qy s js):em s=.ok (.int js.length):=by
  rcases h with rfl | rfl <;> simp
structure dM (n:Nat) (js:List Int):Prop where
  lt:js.Pairwise (· < ·)
  inn:∀ x∈js,0<=x/\x < n
theorem dM.nd {n:Nat} {js:List Int} (h:dM n js):js.Nodup:=yq h.lt
theorem dM.len {n:Nat} {js:List Int} (h:dM n js):js.length<=n:=by
  have:=jC js 0 n h.lt h.inn;rcases this with z | z
  · rw [z];simp
  · omega
theorem dM.filter {n:Nat} {js:List Int} (h:dM n js) (p:Int->Bool):dM n (js.filter p):=⟨h.lt.filter _,fun x hx=>h.inn x (List.mem_filter.mp hx).1⟩
theorem dM.ids (n:Nat):dM n (ids n):=⟨Cw n,fun x hx=>cE.mp hx⟩
noncomputable def fK (ps:List P4) (js:List Int):Prop:=∀ i∈js,∃ g,g∈bG ps js i
noncomputable abbrev oT (f:Int->Option Int) (n:Nat):PyData:=.tuple (bZ (fun i=>oD (f i)) n)
theorem uK (o:Option Int) (k:Int):gW (oD o) (.int k)=.ok (.bool (decide (o=some k))):=by
  cases o with
  | none=>rfl
  | some q =>
    show gW (.int q) (.int k)=_;rw [fL];congr 2;simp
structure Gr (ps:List P4):Prop where
  hl:∀ p∈ps,p.ns.length<=100
  hgo:∀ p∈ps,∀ x∈p.ns,0<=x/\x < ps.length
  hp:ps.length<=24
  lt:∀ p∈ps,p.ns.Pairwise (· < ·)
  ne:∀ p∈ps,p.ns≠[]
theorem Gr.goals {ps:List P4} (G:Gr ps) {i x:Int} (h:x∈aU ps i):0<=x/\x < ps.length:=by
  unfold aU at h;cases e:ps[i.toNat]? with
  | none=>rw [e] at h;cases h
  | some p=>rw [e] at h;exact G.hgo p (List.mem_of_getElem? e) x h
theorem Gr.glen {ps:List P4} (G:Gr ps) (i:Int):(aU ps i).length<=100:=by
  unfold aU;cases e:ps[i.toNat]? with
  | none=>simp
  | some p=>exact G.hl p (List.mem_of_getElem? e)
noncomputable def am (ps:List P4) (i:Int):Int:=(ps[i.toNat]?.map (·.m)).getD 0
theorem l8 (p:P4):ce p.d (.int 1)=.ok (.int p.m):=rfl
theorem eB {ps:List P4} {i:Int} (h0:0<=i) (h1:i < ps.length):am ps i=(ps[i.toNat]'(by omega)).m:=by
  unfold am;rw [List.getElem?_eq_getElem (by omega)];rfl
theorem oq {ps:List P4} {js:List Int} (hne:js≠[]):∃ h,oF (.list ((js.map (am ps)).map .int))=.ok (.int h)/\(∃ i∈js,am ps i=h)/\∀ i∈js,am ps i<=h:=by
  cases js with
  | nil=>exact (hne rfl).elim
  | cons j js =>
    obtain ⟨s1,s2⟩:=jh (am ps j) (js.map (am ps));refine ⟨n9 (am ps j) (js.map (am ps)),?_,?_,fun i hi=>?_⟩
    · show (match bg (((j::js).map (am ps)).map .int) with | some (n::ns)=>R.ok (PyData.int (n9 n ns)) | _=>.no)=_;rw [dj];rfl
    · rw [<- List.map_cons (f:=am ps)] at s1;obtain ⟨i,hi,e⟩:=List.mem_map.mp s1;exact ⟨i,hi,e⟩
    · exact s2 _ (by rw [<- List.map_cons (f:=am ps)];exact List.mem_map.mpr ⟨i,hi,rfl⟩)
theorem oH {s t:PyData} {ns js:List Int} (hs:qy s ns) (ht:qy t js) (hl:ns.length<=1000):cb [s,t]=.ok (.tuple ((ns.filter (du js)).map .int)):=by
  have hcmp:=dh (t:=tE (e2 (tN false) (ae 0) (ae 1))) (ρ:=[.val t]) (p:=du js) ns fun k hk=>by simp [ht.inn]
  unfold cb l5;refine dO ?_;rw [show ([s,t].map bh.val++List.replicate (2 - [s,t].length) bh.non)=[.val s,.val t] from rfl];rw [bU,cp,bj,show az 1 [1] [.val s,.val t]=[.non,.val t] from rfl];simp only [bT,ao,R.ok_bind,hs.seq,cc];rw [if_pos (by rw [List.length_map];exact bC hl),hcmp];rfl
theorem nv {s t:PyData} {ns js:List Int} (hs:qy s ns) (ht:qy t js) (hl:ns.length<=1000):bK [s,t]=.ok (.tuple ((ns.filter fun i=>!du js i).map .int)):=by
  have hcmp:=dh (t:=tE (e2 (tN true) (ae 0) (ae 1))) (ρ:=[.val t]) (p:=fun i=>!du js i) ns fun k hk=>by simp [ht.inn]
  unfold bK kI;refine dO ?_;rw [show ([s,t].map bh.val++List.replicate (2 - [s,t].length) bh.non)=[.val s,.val t] from rfl];rw [bU,cp,bj,show az 1 [1] [.val s,.val t]=[.non,.val t] from rfl];simp only [bT,ao,R.ok_bind,hs.seq,cc];rw [if_pos (by rw [List.length_map];exact bC hl),hcmp];rfl
theorem o1 {p:P4} {ws:List Int} {who:Int} {f:Int->Option Int} {n:Nat} (hw:∀ g∈ws,0<=g/\g < n) (hl:ws.length<=1000) :
    bS [p.d,.tuple (ws.map .int),.int who,.list (bZ (fun i=>oD (f i)) n)]=.ok (.bool (if p.w=who then decide (0 < (ws.filter fun g=>(f g).isSome).length) else decide ((ws.filter fun g=>(f g).isSome).length=ws.length))):=by
  have hcmp:=dh (t:=tE (e2 (lx) (e2 ce (ae 1) (ae 0)) (eC .none))) (ρ:=[.val (.list (bZ (fun i=>oD (f i)) n))]) (p:=fun g=>(f g).isSome) ws fun k hk=>by
    simp only [List.set_cons_zero,cC,bD,ao,av,bX,R.ok_bind,qI (hw k hk).1 (hw k hk).2,uN,cT]
  unfold bS iV;refine dO ?_;rw [show ([p.d,.tuple (ws.map .int),.int who,.list (bZ (fun i=>oD (f i)) n)].map bh.val++List.replicate (5 - [p.d,.tuple (ws.map .int),.int who,.list (bZ (fun i=>oD (f i)) n)].length) bh.non)=[.val p.d,.val (.tuple (ws.map .int)),.val (.int who),.val (.list (bZ (fun i=>oD (f i)) n)),.non] from rfl];rw [aI (ρ':=[.val p.d,.val (.tuple (ws.map .int)),.val (.int who),.val (.list (bZ (fun i=>oD (f i)) n)),.val (.list ((ws.filter fun g=>(f g).isSome).map .int))]) (by
    rw [bw,bj,show az 1 [3] [.val p.d,.val (.tuple (ws.map .int)),.val (.int who),.val (.list (bZ (fun i=>oD (f i)) n)),.non]=[.non,.val (.list (bZ (fun i=>oD (f i)) n))] from rfl];simp only [bT,ao,av,R.ok_bind,cH,cc];rw [if_pos (by rw [List.length_map];exact bC hl),hcmp];rfl)]
  by_cases h:p.w=who
  · rw [if_pos h];refine np ?_;simp only [dU,cC,bD,cp,ao,av,bX,R.ok_bind,nr,fL,cT,h,decide_true,if_true,bU,nI,kM,List.length_map];congr 3;simp
  · rw [if_neg h,aI (ρ':=[.val p.d,.val (.tuple (ws.map .int)),.val (.int who),.val (.list (bZ (fun i=>oD (f i)) n)),.val (.list ((ws.filter fun g=>(f g).isSome).map .int))]) (by
      simp only [dU,cC,bD,cp,ao,av,bX,R.ok_bind,nr,fL,cT,h,decide_false];rfl)]
    simp only [bU,bD,cp,ao,av,R.ok_bind,nI,kB,fL,List.length_map];congr 3;exact decide_eq_decide.mpr (by omega)
theorem DB {c:Int} (h0:0<=c) (h1:c<=1000):r9 [.int c]=.ok (bR 0 c.toNat):=by
  show (if -(2 ^ 62)<=c/\c < 2 ^ 62 then R.ok (bR 0 c.toNat) else .no)=_;rw [if_pos (by omega)]
noncomputable def uO:Fs:=(bi (wn 6 (fun a b=>a+b) (eC (.int 1))) (bi (bY 8 (bV (eu (ae 1)) 1 [5] (aP 0) (tE (e2 (pN) (e2 ce (fw 1) (ae 0)) (eC .none))) (ae 0))) (bi (bY 7 (bV (eu (ae 8)) 1 [0,4,2,5] (aP 0) (tE (gy 4 (aG bS (ah (e2 ce (ae 1) (ae 0)) (ah (e2 ce (ae 2) (ae 0)) (ah (ae 3) (ah (ae 4) aJ))))))) (ae 0))) (iy (jL (eu (ae 7)) (aP 9) (gf 5 (ae 9) (ae 6)))))))
noncomputable abbrev jW (ps:List P4) (js:List Int):PyData:=.list (bZ (fun i=>.tuple ((bG ps js i).map .int)) ps.length)
noncomputable abbrev wW (kvs:List (Int×Int)) (n:Nat):List PyData:=bZ (fun i=>oD (look kvs i)) n
noncomputable abbrev tR (ps:List P4) (s:PyData) (js:List Int) (who:Int) (g:PyData) (kvs:List (Int×Int)) (r:Int) (fs:List Int) (c8 c9:bh):aS :=
  [.val (gD ps),.val s,.val (.int who),.val g,.val (jW ps js),.own (.list (wW kvs ps.length)),.val (.int r),.val (.list (fs.map .int)),c8,c9]
theorem yB {kvs:List (Int×Int)} {i r:Int} (h:i∉kvs.map (·.1)) (j:Int):look (kvs++[(i,r)]) j=if j=i then some r else look kvs j:=by
  rw [lA];by_cases e:j=i
  · subst e;rw [if_pos rfl,fU.mpr h,Option.none_or];unfold look;simp
  · rw [if_neg e];have:look [(i,r)] j=none:=by
      unfold look;have:¬ i=j:=fun z=>e z.symm
      simp [this]
    rw [this,Option.or_none]
theorem Ba {ps:List P4} {s:PyData} {js:List Int} {who:Int} {g:PyData} {r:Int} {fs0:List Int} {c8:bh}:∀ (fs:List Int) (kvs:List (Int×Int)) (c9:bh),fs.Nodup->(∀ x∈fs,x∉kvs.map (·.1))->(∀ x∈fs,0<=x/\x < ps.length) ->
    ∃ c9',eS (aP 9) (gf 5 (ae 9) (ae 6)) (fs.map .int) (tR ps s js who g kvs r fs0 c8 c9)=.ok (.nx (tR ps s js who g (kvs++fs.map fun i=>(i,r)) r fs0 c8 c9'))
  | [],kvs,c9,_,_,_=>⟨c9,by rw [List.map_nil,fu];simp⟩
  | i::fs,kvs,c9,nd,hn,hb=>by
    obtain ⟨n1,n2⟩:=List.nodup_cons.mp nd;have hi:=hb i List.mem_cons_self;obtain ⟨c9',e⟩:=Ba (ps:=ps) (s:=s) (js:=js) (who:=who) (g:=g) (r:=r) (fs0:=fs0) (c8:=c8) fs (kvs++[(i,r)]) (.val (.int i)) n2 (fun x hx=>by
      rw [List.map_append,List.mem_append];rintro (z | z)
      · exact hn x (List.mem_cons_of_mem _ hx) z
      · simp at z;subst z;exact n1 hx) fun x hx=>hb x (List.mem_cons_of_mem _ hx)
    refine ⟨c9',?_⟩;rw [List.map_cons,eT];rw [show ((tR ps s js who g kvs r fs0 c8 c9).set 9 (.val (.int i)))=tR ps s js who g kvs r fs0 c8 (.val (.int i)) from rfl];rw [j7 (ds:=wW kvs ps.length) (n:=i) (v:=.int r) rfl rfl rfl hi.1 (by rw [bJ];exact hi.2),R.ok_bind,dD,jT hi.1 hi.2];rw [cB (g:=fun j=>oD (look (kvs++[(i,r)]) j)) fun j _ _=>by
      rw [yB (hn i List.mem_cons_self)];split <;> rfl]
    refine Eq.trans ?_ (e.trans (by simp));rfl
theorem mE {kvs:List (Int×Int)} {i:Int}:(look kvs i).isNone=!du (kvs.map (·.1)) i:=by
  cases h:du (kvs.map (·.1)) i with
  | true =>
    cases h2:look kvs i with
    | none=>exact (fU.mp h2 (cM.mp h)).elim
    | some q=>rfl
  | false =>
    rw [fU.mpr fun z=>by rw [cM.mpr z] at h;cases h];rfl
theorem tj {kvs:List (Int×Int)} {i:Int}:(look kvs i).isSome=du (kvs.map (·.1)) i:=by
  have:=mE (kvs:=kvs) (i:=i);cases h:look kvs i <;> rw [h] at this <;> cases h2:du (kvs.map (·.1)) i <;> rw [h2] at this <;> simp_all
theorem qK {ps:List P4} {js:List Int} {who:Int} {kn:List Int} {i:Int} (hw:∃ g,g∈bG ps js i) :
    (!du kn i&&(if ap ps i=who then decide (0 < (lg ps js kn i).length) else decide ((lg ps js kn i).length=(bG ps js i).length)))=iW ps js who kn i:=by
  obtain ⟨g,hg⟩:=hw;have hp:=List.length_pos_of_mem hg;unfold iW;by_cases ho:ap ps i=who
  · simp [ho]
  · by_cases he:(lg ps js kn i).length=(bG ps js i).length
    · simp [ho,he,hp]
    · simp [ho,he]
theorem yL {ps:List P4} (hl:∀ p∈ps,p.ns.length<=100) (hgo:∀ p∈ps,∀ x∈p.ns,0<=x/\x < ps.length) (hp:ps.length<=24) {s:PyData} {js:List Int} (hs:qy s js) (hj:dM ps.length js) (hw:fK ps js) {who:Int} {g:PyData} {kvs:List (Int×Int)} {r:Int} {fs:List Int} (c8 c9:bh) :
    ∃ c8' c9',uO (tR ps s js who g kvs r fs c8 c9)=.ok (.nx (tR ps s js who g (cS ps js who (r+1) kvs) (r+1) (eF ps js who (kvs.map (·.1)) js) c8' c9')):=by
  have hlen:=hj.len;have h1:=dh (t:=tE (e2 (pN) (e2 ce (fw 1) (ae 0)) (eC .none))) (ρ:=[.own (.list (wW kvs ps.length))]) (p:=fun i=>!du (kvs.map (·.1)) i) js fun k hk=>by
    simp only [List.set_cons_zero,cC,bD,ao,pW,p8,bX,R.ok_bind,qI (hj.inn k hk).1 (hj.inn k hk).2,yF,cT,mE]
  have h2:=dh (t:=tE (gy 4 (aG bS (ah (e2 ce (ae 1) (ae 0)) (ah (e2 ce (ae 2) (ae 0)) (ah (ae 3) (ah (ae 4) aJ))))))) (ρ:=[.val (gD ps),.val (jW ps js),.val (.int who),.own (.list (wW kvs ps.length))])
    (p:=iW ps js who (kvs.map (·.1))) (js.filter fun i=>!du (kvs.map (·.1)) i) fun k hk=>by
    obtain ⟨hkj,hkn⟩:=List.mem_filter.mp hk;have hb:=hj.inn k hkj;have hg:=eU hb.1 hb.2;have hwl:(bG ps js k).length<=1000:=by
      refine Nat.le_trans (List.length_filter_le ..) ?_;rw [hg];have:=hl _ (List.getElem_mem (show k.toNat < ps.length by omega));omega
    have hwb:∀ x∈bG ps js k,0<=x/\x < ps.length:=fun x hx=>by
      have:=(List.mem_filter.mp hx).1;rw [hg] at this;exact hgo _ (List.getElem_mem _) x this
    have hf:=o1 (p:=ps[k.toNat]'(by omega)) (who:=who) (f:=look kvs) hwb hwl;have ho:=eX hb.1 hb.2;have hgk:((bG ps js k).filter fun g=>(look kvs g).isSome)=lg ps js (kvs.map (·.1)) k:=by
      unfold lg;congr 1;funext g;exact tj
    rw [hgk,<- ho] at hf;have e4:gy 4 (aG bS (ah (e2 ce (ae 1) (ae 0)) (ah (e2 ce (ae 2) (ae 0)) (ah (ae 3) (ah (ae 4) aJ))))) [.val (.int k),.val (gD ps),.val (jW ps js),.val (.int who),.own (.list (wW kvs ps.length))]
      = (lS (aG bS (ah (e2 ce (ae 1) (ae 0)) (ah (e2 ce (ae 2) (ae 0)) (ah (ae 3) (ah (ae 4) aJ)))) [.val (.int k),.val (gD ps),.val (jW ps js),.val (.int who),.val (.list (wW kvs ps.length))])>>=jv):=rfl
    have hc:=qK (who:=who) (kn:=kvs.map (·.1)) (hw k hkj);rw [hkn,Bool.true_and] at hc;rw [List.set_cons_zero,cC,e4,aW];simp only [aL,aX,bD,ao,av,R.ok_bind,mr hb.1 hb.2,qI hb.1 hb.2];rw [hf,hc];rfl
  have hfil:(js.filter fun i=>!du (kvs.map (·.1)) i).filter (iW ps js who (kvs.map (·.1)))=eF ps js who (kvs.map (·.1)) js:=by
    unfold eF;rw [List.filter_filter];apply List.filter_congr;intro x _;unfold iW;cases du (kvs.map (·.1)) x <;> simp
  rw [hfil] at h2;have hnew:dM ps.length (eF ps js who (kvs.map (·.1)) js):=hj.filter _;obtain ⟨c9',e⟩:=Ba (ps:=ps) (s:=s) (js:=js) (who:=who) (g:=g) (r:=r+1) (fs0:=eF ps js who (kvs.map (·.1)) js) (c8:=.val (.list ((js.filter fun i=>!du (kvs.map (·.1)) i).map .int))) (eF ps js who (kvs.map (·.1)) js) kvs c9 hnew.nd (fun x hx=>(mI hx).2) hnew.inn;refine ⟨.val (.list ((js.filter fun i=>!du (kvs.map (·.1)) i).map .int)),c9',?_⟩;unfold uO;rw [aI (ρ':=tR ps s js who g kvs (r+1) fs c8 c9) (by simp only [zJ,av,ao,bX,R.ok_bind,Df];rfl)];rw [aI (ρ':=tR ps s js who g kvs (r+1) fs (.val (.list ((js.filter fun i=>!du (kvs.map (·.1)) i).map .int))) c9) (by
    rw [bw,bj,show az 1 [5] (tR ps s js who g kvs (r+1) fs c8 c9)=[.non,.own (.list (wW kvs ps.length))] from rfl];simp only [bT,av,ao,R.ok_bind,hs.seq,cc];rw [if_pos (by rw [List.length_map];exact bC (by omega)),h1];rfl)]
  rw [aI (ρ':=tR ps s js who g kvs (r+1) (eF ps js who (kvs.map (·.1)) js) (.val (.list ((js.filter fun i=>!du (kvs.map (·.1)) i).map .int))) c9) (by
    rw [bw,bj,show az 1 [0,4,2,5] (tR ps s js who g kvs (r+1) fs (.val (.list ((js.filter fun i=>!du (kvs.map (·.1)) i).map .int))) c9)=[.non,.val (gD ps),.val (jW ps js),.val (.int who),.own (.list (wW kvs ps.length))] from rfl];simp only [bT,av,ao,R.ok_bind,sI,cc];rw [if_pos (by rw [List.length_map];exact bC (Nat.le_trans (List.length_filter_le ..) (by omega))),h2];rfl)]
  rw [fg,gx,bT,av,av,av,av,av,av,av,ao,R.ok_bind,sI,R.ok_bind,e];rfl
theorem eQ {ps:List P4} {js:List Int} {who:Int} {kvs:List (Int×Int)} (h:eF ps js who (kvs.map (·.1)) js=[]):∀ (n:Nat) (r:Int),gk ps js who r n kvs=kvs
  | 0,r=>rfl
  | n+1,r=>by
    show gk ps js who (r+1) n (cS ps js who r kvs)=kvs;have:cS ps js who r kvs=kvs:=by unfold cS;rw [h];simp
    rw [this,eQ h n]
theorem Bg {ps:List P4} (hl:∀ p∈ps,p.ns.length<=100) (hgo:∀ p∈ps,∀ x∈p.ns,0<=x/\x < ps.length) (hp:ps.length<=24) {s:PyData} {js:List Int} (hs:qy s js) (hj:dM ps.length js) (hw:fK ps js) {who:Int} {g:PyData} :
    ∀ (k n:Nat) (kvs:List (Int×Int)) (r:Int) (fs:List Int) (c8 c9:bh),i8 js kvs->js.length-kvs.length<=k->(fs=[]->eF ps js who (kvs.map (·.1)) js=[])->k+3<=n ->
    ∃ K r' fs' c8' c9',dm (tE (e2 (gi tt) (e1 em (ae 7)) (eC (.int 0)))) uO n (tR ps s js who g kvs r fs c8 c9)=.ok (.nx (tR ps s js who g K r' fs' c8' c9'))/\∀ N,k+1<=N->gk ps js who (r+1) N kvs=K
  | k,0,kvs,r,fs,c8,c9,_,_,_,h=>by omega
  | k,n+1,kvs,r,fs,c8,c9,hk,hm,hf,hn=>by
    rw [iG];have ht:tE (e2 (gi tt) (e1 em (ae 7)) (eC (.int 0))) (tR ps s js who g kvs r fs c8 c9)=.ok (decide (0 < fs.length)):=by
      simp only [cC,bD,cp,av,ao,bX,R.ok_bind,nI,kM,cT,List.length_map];congr 1;simp
    rw [ht,R.ok_bind];by_cases h0:fs=[]
    · have hs0:=hf h0;subst h0;exact ⟨kvs,r,[],c8,c9,rfl,fun N _=>eQ hs0 N _⟩
    · rw [if_pos (decide_eq_true (List.length_pos_iff.mpr h0))];obtain ⟨c8',c9',e⟩:=yL hl hgo hp hs hj hw (who:=who) (g:=g) (kvs:=kvs) (r:=r) (fs:=fs) c8 c9;rw [e,R.ok_bind,dD];by_cases h1:eF ps js who (kvs.map (·.1)) js=[]
      · have w1:cS ps js who (r+1) kvs=kvs:=by unfold cS;rw [h1];simp
        rw [h1,w1];refine ⟨kvs,r+1,[],c8',c9',?_,fun N _=>eQ h1 N _⟩;cases n with
        | zero=>omega
        | succ n =>
          rw [iG];have ht2:tE (e2 (gi tt) (e1 em (ae 7)) (eC (.int 0))) (tR ps s js who g kvs (r+1) [] c8' c9')=.ok false:=rfl;rw [ht2,R.ok_bind];rfl
      · have hk':=hk.round (ps:=ps) (who:=who) (r:=r+1) hj.nd;have hkl:=hk'.len hj.nd;have hgrow:kvs.length+1<=(cS ps js who (r+1) kvs).length:=by
          unfold cS;rw [List.length_append,List.length_map];have:=List.length_pos_iff.mpr h1;omega
        obtain ⟨K,r',fs',d8,d9,w2,w3⟩:=Bg hl hgo hp hs hj hw (who:=who) (g:=g) (k-1) n (cS ps js who (r+1) kvs) (r+1) (eF ps js who (kvs.map (·.1)) js) c8' c9' hk' (by omega) (fun z=>(h1 z).elim) (by omega);refine ⟨K,r',fs',d8,d9,w2,fun N hN=>?_⟩;cases N with
        | zero=>omega
        | succ N=>exact w3 N (by omega)
theorem lu {ps:List P4} (hl:∀ p∈ps,p.ns.length<=100) (hgo:∀ p∈ps,∀ x∈p.ns,0<=x/\x < ps.length) (hp:ps.length<=24) {s g:PyData} {js gs:List Int} (hs:qy s js) (hsg:qy g gs) (hj:dM ps.length js) (hg:dM ps.length gs) (hsub:∀ x∈gs,x∈js) (hw:fK ps js) {who:Int} :
    cr [gD ps,s,.int who,g]=.ok (.tuple (bZ (fun i=>oD (rK ps js who gs i)) ps.length)):=by
  have hlen:=hj.len;have hglen:=hg.len;have hgj:gs.length<=js.length:=gP hg.nd hsub;have hk0:i8 js (gs.map fun i=>((i,0):Int×Int)):=by
    have e:(gs.map fun i=>((i,0):Int×Int)).map (·.1)=gs:=by rw [List.map_map];exact List.map_id _
    exact ⟨by rw [e];exact hg.nd,by rw [e];exact hsub⟩
  have hk0e:(gs.map fun i=>((i,0):Int×Int)).map (·.1)=gs:=by rw [List.map_map];exact List.map_id _
  obtain ⟨K,r',fs',d8,d9,w2,w3⟩:=Bg hl hgo hp hs hj hw (who:=who) (g:=g) (js.length-gs.length) 1000000 (gs.map fun i=>(i,0)) 0 gs .non .non hk0 (by rw [List.length_map];exact Nat.le_refl _) (fun z=>by
    rw [hk0e,z];unfold eF;rw [List.filter_eq_nil_iff];intro i _;rw [fi];rintro ⟨_,⟨g,_,hz⟩,_⟩;cases hz) (by omega)
  have hK:K=vF ps js who gs ps.length:=by
    by_cases h0:gs=[]
    · subst h0;have hz:eF ps js who (([]:List (Int×Int)).map (·.1)) js=[]:=by
        unfold eF;rw [List.filter_eq_nil_iff];intro i _;rw [fi];rintro ⟨_,⟨g,_,hz⟩,_⟩;cases hz
      have e4:=w3 (js.length-0+1) (Nat.le_refl _);rw [List.map_nil,eQ hz] at e4;rw [<- e4];unfold vF;rw [List.map_nil,eQ hz]
    · have:=List.length_pos_iff.mpr h0;have e4:=w3 ps.length (by omega);rw [<- e4];rfl
  have hways:bF (aP 0) (fun _=>.ok true) (aG cb (ah (e2 ce (ae 0) (eC (.int 3))) (ah (ae 1) aJ))) [.non,.val s] (ps.map P4.d)=.ok (bZ (fun i=>.tuple ((bG ps js i).map .int)) ps.length):=by
    have go:∀ qs:List P4,(∀ p∈qs,p.ns.length<=100)->bF (aP 0) (fun _=>.ok true) (aG cb (ah (e2 ce (ae 0) (eC (.int 3))) (ah (ae 1) aJ))) [.non,.val s] (qs.map P4.d)=.ok (qs.map fun p=>.tuple ((p.ns.filter (du js)).map .int)):=by
      intro qs;induction qs with
      | nil=>exact fun _=>eA ..
      | cons p qs ih =>
        intro h;have hc:=oH (s:=.tuple (p.ns.map .int)) (ns:=p.ns) (.inl rfl) hs (by have:=h p List.mem_cons_self;omega);rw [List.map_cons,dw,ih fun q hq=>h q (List.mem_cons_of_mem _ hq)];simp only [R.ok_bind,if_true,List.set_cons_zero,aW,aL,aX,bD,ao,av,bX,pD,hc];rfl
    rw [go ps hl];congr 1;refine List.ext_getElem (by rw [List.length_map,bJ]) fun k h1 h2=>?_
    rw [bJ] at h2;have e:=gu (f:=fun i=>.tuple ((bG ps js i).map .int)) (n:=ps.length) (i:=(k:Int)) (by omega) (by omega);simp only [Int.toNat_natCast] at e;rw [e,List.getElem_map];unfold bG;rw [eU (by omega) (by omega)];simp
  have hinit:bF (aP 0) (fun _=>.ok true) (wE (tE (e2 (tN false) (ae 0) (ae 1))) (eC (.int 0)) (eC .none)) [.non,.val g] (bR 0 ps.length)=.ok (wW (gs.map fun i=>(i,0)) ps.length) :=
    sZ _ _ _ _ fun i h0 h1=>by
      simp only [List.set_cons_zero,nD,cC,bD,ao,av,bX,R.ok_bind,hsg.inn,cT,ik];cases hm:du gs i with
      | true=>rw [if_pos (cM.mp hm)];rfl
      | false=>rw [if_neg (show ¬ i∈gs from fun z=>by rw [cM.mpr z] at hm;cases hm)];rfl
  have hr:r9 [.int (ps.length:Int)]=.ok (bR 0 ps.length):=by
    rw [DB (by omega) (by omega),Int.toNat_natCast]
  have hlst:qm g=.ok (.list (gs.map .int)):=by rcases hsg with rfl | rfl <;> rfl
  unfold cr jN;refine dO ?_;rw [show ([gD ps,s,.int who,g].map bh.val++List.replicate (10 - [gD ps,s,.int who,g].length) bh.non)=[.val (gD ps),.val s,.val (.int who),.val g,.non,.non,.non,.non,.non,.non] from rfl];rw [aI (ρ':=[.val (gD ps),.val s,.val (.int who),.val g,.val (jW ps js),.non,.non,.non,.non,.non]) (by
    rw [bw,bj,show az 1 [1] [.val (gD ps),.val s,.val (.int who),.val g,.non,.non,.non,.non,.non,.non]=[.non,.val s] from rfl];simp only [bT,ao,R.ok_bind,cH,cc];rw [if_pos (by rw [List.length_map];exact bC (by omega)),hways];rfl)]
  rw [aI (ρ':=[.val (gD ps),.val s,.val (.int who),.val g,.val (jW ps js),.own (.list (wW (gs.map fun i=>(i,0)) ps.length)),.non,.non,.non,.non]) (by
    rw [kr,bj,show az 1 [3] [.val (gD ps),.val s,.val (.int who),.val g,.val (jW ps js),.non,.non,.non,.non,.non]=[.non,.val g] from rfl];simp only [vJ,aL,aX,cp,ao,R.ok_bind,kB,List.length_map,hr,cc];rw [if_pos (by rw [fZ];exact bC (by omega)),hinit];rfl)]
  rw [aI (ρ':=[.val (gD ps),.val s,.val (.int who),.val g,.val (jW ps js),.own (.list (wW (gs.map fun i=>(i,0)) ps.length)),.val (.int 0),.non,.non,.non]) (by rfl)];rw [aI (ρ':=tR ps s js who g (gs.map fun i=>(i,0)) 0 gs .non .non) (by
    simp only [bw,cp,av,ao,R.ok_bind,hlst];rfl)]
  rw [aI (ρ':=tR ps s js who g K r' fs' d8 d9) (by
    rw [fg];show lS (dm (tE (e2 (gi tt) (e1 em (ae 7)) (eC (.int 0)))) uO 1000000 _)=_;rw [w2];rfl)]
  rw [hK];rfl
noncomputable def iJ (f:Int->Option Int) (n:Nat):List Int:=(ids n).filter fun i=>(f i).isSome
theorem mC (f:Int->Option Int) (n:Nat):dM n (iJ f n):=(dM.ids n).filter _
theorem gY {f:Int->Option Int} {n:Nat} {i:Int}:i∈iJ f n<->(0<=i/\i < n)/\∃ q,f i=some q:=by
  unfold iJ;rw [List.mem_filter,cE,Option.isSome_iff_exists]
theorem kT {f:Int->Option Int} {n:Nat} (hn:n<=1000):ca [oT f n]=.ok (.tuple ((iJ f n).map .int)):=by
  have hc:=iH (t:=tE (e2 (lx) (ae 1) (eC .none))) (ρ:=[]) (p:=fun i=>(f i).isSome) (g:=fun i=>oD (f i)) n 0 fun j _ _=>by
    simp only [cC,bD,av,ao,bX,R.ok_bind,uN,cT]
  rw [lT] at hc;unfold ca nq;refine dO ?_;rw [show ([oT f n].map bh.val++List.replicate (1 - [oT f n].length) bh.non)=[.val (oT f n)] from rfl];rw [bU,cp,bj,show az 2 [] [.val (oT f n)]=[.non,.non] from rfl];simp only [kq,ao,R.ok_bind,cH,cc];rw [if_pos (by rw [fT,bJ];exact bC hn)];rw [show de 0 (bZ (fun i=>oD (f i)) n)=de 0 ((ids n).map fun i=>oD (f i)) from rfl,hc];rfl
noncomputable def la (ps:List P4) (who:Int) (f:Int->Option Int) (i:Int):Option Int:=match f i with
  | some q=>if ap ps i=who/\0 < q then ((aU ps i).filter fun g=>decide (f g=some (q-1))).head? else none
  | none=>none
noncomputable def uf:Fs:=(pf (rR (tE (e2 (gW) (e2 ce (e2 ce (ae 0) (ae 4)) (eC (.int 0))) (ae 1))) (tE (e2 (gi tt) (e2 ce (ae 2) (ae 4)) (eC (.int 0))))) (gf 3 (ae 4) (e2 ce (bV (eu (e2 ce (e2 ce (ae 0) (ae 4)) (eC (.int 3)))) 1 [2,4] (aP 0) (tE (e2 (gW) (e2 ce (ae 1) (ae 0)) (e2 k6 (e2 ce (ae 1) (ae 2)) (eC (.int 1))))) (ae 0)) (eC (.int 0)))) eG)
theorem xr {ps:List P4} (G:Gr ps) {who:Int} {f:Int->Option Int} (hne:∀ i q,f i=some q->0 < q->ap ps i=who->∃ g∈aU ps i,f g=some (q-1)):∀ (is:List Int) (h:Int->PyData) (c4:bh),is.Nodup->(∀ x∈is,(0<=x/\x < ps.length)/\(∃ q,f x=some q)/\h x=.none) ->
    ∃ c4',eS (aP 4) uf (is.map .int) [.val (gD ps),.val (.int who),.val (oT f ps.length),.own (.list (bZ h ps.length)),c4]=.ok (.nx [.val (gD ps),.val (.int who),.val (oT f ps.length),.own (.list (bZ (fun j=>if j∈is then oD (la ps who f j) else h j) ps.length)),c4'])
  | [],h,c4,_,_=>⟨c4,by rw [List.map_nil,fu];simp⟩
  | i::is,h,c4,nd,hb=>by
    obtain ⟨n1,n2⟩:=List.nodup_cons.mp nd;obtain ⟨hi,⟨q,hq⟩,hh⟩:=hb i List.mem_cons_self;have ho:=eX hi.1 hi.2;have hg:=eU hi.1 hi.2;obtain ⟨c4',e⟩:=xr G hne is (fun j=>if j=i then oD (la ps who f i) else h j) (.val (.int i)) n2 (fun x hx=>⟨(hb x (List.mem_cons_of_mem _ hx)).1,(hb x (List.mem_cons_of_mem _ hx)).2.1,by
      have:x≠i:=by rintro rfl;exact n1 hx
      show (if x=i then _ else h x)=_;rw [if_neg this];exact (hb x (List.mem_cons_of_mem _ hx)).2.2⟩)
    refine ⟨c4',?_⟩;have fin:bZ (fun j=>if j∈is then oD (la ps who f j) else (fun j=>if j=i then oD (la ps who f i) else h j) j) ps.length=bZ (fun j=>if j∈i::is then oD (la ps who f j) else h j) ps.length:=cB fun j _ _=>by
      by_cases h1:j=i
      · subst h1;simp [n1]
      · by_cases h2:j∈is <;> simp [h1,h2]
    rw [fin] at e;rw [<- e,List.map_cons,eT,show (([.val (gD ps),.val (.int who),.val (oT f ps.length),.own (.list (bZ h ps.length)),c4]:aS).set 4 (.val (.int i)))=[.val (gD ps),.val (.int who),.val (oT f ps.length),.own (.list (bZ h ps.length)),.val (.int i)] from rfl];have ht:(rR (tE (e2 (gW) (e2 ce (e2 ce (ae 0) (ae 4)) (eC (.int 0))) (ae 1))) (tE (e2 (gi tt) (e2 ce (ae 2) (ae 4)) (eC (.int 0))))) [.val (gD ps),.val (.int who),.val (oT f ps.length),.own (.list (bZ h ps.length)),.val (.int i)]=.ok (decide (ap ps i=who/\0 < q)):=by
      have hrk:ce (oT f ps.length) (.int i)=.ok (.int q):=by rw [ya hi.1 hi.2,hq];rfl
      simp only [w4,cC,bD,ao,av,bX,R.ok_bind,mr hi.1 hi.2,nr,fL,cT,hrk,kM];rw [<- ho];by_cases h1:ap ps i=who
      · by_cases h2:0 < q <;> simp [h1,h2]
      · simp [h1]
    have hb1:uf [.val (gD ps),.val (.int who),.val (oT f ps.length),.own (.list (bZ h ps.length)),.val (.int i)]=.ok (.nx [.val (gD ps),.val (.int who),.val (oT f ps.length),.own (.list (bZ (fun j=>if j=i then oD (la ps who f i) else h j) ps.length)),.val (.int i)]):=by
      unfold uf;rw [dU,ht,R.ok_bind];by_cases hc:ap ps i=who/\0 < q
      · rw [if_pos (decide_eq_true hc)];have hcmp:=dh (t:=tE (e2 (gW) (e2 ce (ae 1) (ae 0)) (e2 k6 (e2 ce (ae 1) (ae 2)) (eC (.int 1))))) (ρ:=[.val (oT f ps.length),.val (.int i)]) (p:=fun g=>decide (f g=some (q-1))) (aU ps i) fun k hk=>by
          have hkb:=G.goals hk;have hrk:ce (oT f ps.length) (.int i)=.ok (.int q):=by rw [ya hi.1 hi.2,hq];rfl
          simp only [List.set_cons_zero,cC,bD,ao,av,bX,R.ok_bind,ya hkb.1 hkb.2,hrk,pH,uK,cT]
        obtain ⟨g,hg1,hg2⟩:=hne i q hq hc.2 hc.1;have hm:la ps who f i=((aU ps i).filter fun g=>decide (f g=some (q-1))).head?:=by
          unfold la;rw [hq];exact if_pos hc
        have hmem:g∈(aU ps i).filter fun g=>decide (f g=some (q-1)):=List.mem_filter.mpr ⟨hg1,decide_eq_true hg2⟩
        cases hL:(aU ps i).filter fun g=>decide (f g=some (q-1)) with
        | nil=>rw [hL] at hmem;cases hmem
        | cons v r =>
          rw [hL] at hm hcmp;rw [j7 (ds:=bZ h ps.length) (n:=i) (v:=.int v) rfl rfl ?_ hi.1 (by rw [bJ];exact hi.2),jT hi.1 hi.2,hm]
          · rfl
          · rw [bD,bj,show az 1 [2,4] [.val (gD ps),.val (.int who),.val (oT f ps.length),.own (.list (bZ h ps.length)),.val (.int i)]=[.non,.val (oT f ps.length),.val (.int i)] from rfl];simp only [bT,bD,ao,av,bX,R.ok_bind,mr hi.1 hi.2,pD,cH,cc];rw [<- hg,if_pos (by rw [List.length_map];exact bC (by have:=G.glen i;omega)),hcmp,jX,R.ok_bind,uo (by omega) (by simp)];rfl
      · rw [if_neg (by rw [decide_eq_true_iff];exact hc)];have hm:la ps who f i=none:=by
          unfold la;rw [hq];exact if_neg hc
        rw [rc,hm];congr 3;rw [cB fun j _ _=>?_];by_cases h1:j=i
        · subst h1;rw [if_pos rfl,hh];rfl
        · rw [if_neg h1]
    rw [hb1,R.ok_bind,dD]
theorem gZ {ps:List P4} (G:Gr ps) {who:Int} {f:Int->Option Int} (hne:∀ i q,f i=some q->0 < q->ap ps i=who->∃ g∈aU ps i,f g=some (q-1)) :
    aZ [gD ps,.int who,oT f ps.length]=.ok (oT (la ps who f) ps.length):=by
  have hp:=G.hp;have h0:bF (aP 0) (fun _=>.ok true) (eC .none) [.non] (bZ (fun i=>oD (f i)) ps.length)=.ok (bZ (fun _=>.none) ps.length):=by
    have:=dr (eC .none) [.non] 0 (fun _=>.none) (bZ (fun i=>oD (f i)) ps.length) fun d _=>rfl
    rw [this];unfold bZ;rw [List.map_map];rfl
  obtain ⟨c4,e⟩:=xr G hne (iJ f ps.length) (fun _=>.none) .non (mC f ps.length).nd fun x hx=>⟨(gY.mp hx).1,(gY.mp hx).2,rfl⟩
  have fin:bZ (fun j=>if j∈iJ f ps.length then oD (la ps who f j) else .none) ps.length=bZ (fun j=>oD (la ps who f j)) ps.length:=cB fun j h1 h2=>by
    by_cases h:j∈iJ f ps.length
    · rw [if_pos h]
    · rw [if_neg h];have:f j=none:=by
        cases hf:f j with
        | none=>rfl
        | some q=>exact (h (gY.mpr ⟨⟨h1,h2⟩,q,hf⟩)).elim
      unfold la;rw [this];rfl
  rw [fin] at e;unfold aZ fF;refine dO ?_;rw [show ([gD ps,.int who,oT f ps.length].map bh.val++List.replicate (5 - [gD ps,.int who,oT f ps.length].length) bh.non)=[.val (gD ps),.val (.int who),.val (oT f ps.length),.non,.non] from rfl];rw [aI (ρ':=[.val (gD ps),.val (.int who),.val (oT f ps.length),.own (.list (bZ (fun _=>.none) ps.length)),.non]) (by
    rw [kr,bj,show az 1 [] [.val (gD ps),.val (.int who),.val (oT f ps.length),.non,.non]=[.non] from rfl];simp only [bT,ao,av,R.ok_bind,cH,cc];rw [if_pos (by rw [bJ];exact bC (by omega)),h0];rfl)]
  rw [aI (ρ':=[.val (gD ps),.val (.int who),.val (oT f ps.length),.own (.list (bZ (fun j=>oD (la ps who f j)) ps.length)),c4]) (by
    rw [fg,gx,bT];simp only [aW,aL,aX,ao,av,R.ok_bind,kT (show ps.length<=1000 by omega),cH];unfold uf at e;rw [e];rfl)]
  rfl
theorem jJ {ps:List P4} {js:List Int} {who:Int} {gs:List Int} {rk:Int->Option Int} (A:sy ps js who gs rk):∀ i q,rk i=some q->0 < q->ap ps i=who->∃ g∈aU ps i,rk g=some (q-1):=fun i q h1 h2 h3=>by
  obtain ⟨g,hg,e⟩:=A.own i q h1 h2 h3;exact ⟨g,(List.mem_filter.mp hg).1,e⟩
theorem A1 {ps:List P4} {hi:Int} (hp:∀ p∈ps,Pl ps.length hi p) (h24:(ps.length:Int)<=24):Gr ps :=
  ⟨fun p h=>by have:=(hp p h).len;omega,fun p h=>(hp p h).inn,by omega,fun p h=>(hp p h).so,fun p h=>(hp p h).ne⟩
theorem Gr.gne {ps:List P4} (G:Gr ps) {i:Int} (h0:0<=i) (h1:i < ps.length):∃ g,g∈aU ps i:=by
  have:=G.ne _ (List.getElem_mem (show i.toNat < ps.length by omega));rw [<- eU h0 h1] at this;exact List.exists_mem_of_ne_nil _ this
theorem vd {ps:List P4} (G:Gr ps):fK ps (ids ps.length):=fun i hi=>by
  obtain ⟨h0,h1⟩:=cE.mp hi;obtain ⟨g,hg⟩:=G.gne h0 h1;exact ⟨g,List.mem_filter.mpr ⟨hg,cM.mpr (cE.mpr (G.goals hg))⟩⟩
theorem qk {n:Nat} (h:n<=1000):Dc .tuple [.int (n:Int)]=.ok (.tuple ((ids n).map .int)):=by
  rw [Du (by omega) (by omega),nF];rfl
noncomputable def gX (js:List Int) (some:List Int):List Int:=js.filter fun i=>!du some i
theorem bA {js some:List Int} {i:Int}:i∈gX js some<->i∈js/\i∉some:=by
  unfold gX;rw [List.mem_filter,Bool.not_eq_true',<- Bool.not_eq_true,cM]
theorem lh {ps:List P4} (hp:ps.length<=1000):bQ [gD ps]=.ok (.tuple (bZ (fun _=>.none) ps.length)):=by
  have h0:bF (aP 0) (fun _=>.ok true) (eC .none) [.non] (ps.map P4.d)=.ok (bZ (fun _=>.none) ps.length):=by
    have:=dr (eC .none) [.non] 0 (fun _=>.none) (ps.map P4.d) fun d _=>rfl
    rw [this];congr 1;refine List.ext_getElem (by rw [List.length_map,List.length_map,bJ]) fun k h1 h2=>?_
    rw [bJ] at h2;have e:=gu (f:=fun _=>.none) (n:=ps.length) (i:=(k:Int)) (by omega) (by omega);simp only [Int.toNat_natCast] at e;rw [e,List.getElem_map]
  unfold bQ jy;refine dO ?_;rw [show ([gD ps].map bh.val++List.replicate (1 - [gD ps].length) bh.non)=[.val (gD ps)] from rfl];rw [bU,cp,bj,show az 1 [] [.val (gD ps)]=[.non] from rfl];simp only [bT,ao,R.ok_bind,cH,cc];rw [if_pos (by rw [List.length_map];exact bC hp),h0];rfl
noncomputable def eR (ps:List P4) (who:Int) (part:List Int) (i:Int):Option Int:=if i∈part/\ap ps i=who then (bG ps part i).head? else none
noncomputable def tX:Fs:=(pf (tE (e2 (gW) (e2 ce (e2 ce (ae 0) (ae 4)) (eC (.int 0))) (ae 1))) (gf 3 (ae 4) (e2 ce (aG cb (ah (e2 ce (e2 ce (ae 0) (ae 4)) (eC (.int 3))) (ah (ae 2) aJ))) (eC (.int 0)))) eG)
theorem yy {ps:List P4} (G:Gr ps) {who:Int} {s:PyData} {part:List Int} (hs:qy s part) (hj:dM ps.length part) (hne:∀ i∈part,ap ps i=who->∃ g,g∈bG ps part i):∀ (is:List Int) (h:Int->PyData) (c4:bh),is.Nodup->(∀ x∈is,x∈part/\h x=.none) ->
    ∃ c4',eS (aP 4) tX (is.map .int) [.val (gD ps),.val (.int who),.val s,.own (.list (bZ h ps.length)),c4]=.ok (.nx [.val (gD ps),.val (.int who),.val s,.own (.list (bZ (fun j=>if j∈is then oD (eR ps who part j) else h j) ps.length)),c4'])
  | [],h,c4,_,_=>⟨c4,by rw [List.map_nil,fu];simp⟩
  | i::is,h,c4,nd,hb=>by
    obtain ⟨n1,n2⟩:=List.nodup_cons.mp nd;obtain ⟨hip,hh⟩:=hb i List.mem_cons_self;have hi:=hj.inn i hip;have ho:=eX hi.1 hi.2;have hg:=eU hi.1 hi.2;obtain ⟨c4',e⟩:=yy G hs hj hne is (fun j=>if j=i then oD (eR ps who part i) else h j) (.val (.int i)) n2 (fun x hx=>⟨(hb x (List.mem_cons_of_mem _ hx)).1,by
      have:x≠i:=by rintro rfl;exact n1 hx
      show (if x=i then _ else h x)=_;rw [if_neg this];exact (hb x (List.mem_cons_of_mem _ hx)).2⟩)
    refine ⟨c4',?_⟩;have fin:bZ (fun j=>if j∈is then oD (eR ps who part j) else (fun j=>if j=i then oD (eR ps who part i) else h j) j) ps.length=bZ (fun j=>if j∈i::is then oD (eR ps who part j) else h j) ps.length:=cB fun j _ _=>by
      by_cases h1:j=i
      · subst h1;simp [n1]
      · by_cases h2:j∈is <;> simp [h1,h2]
    rw [fin] at e;rw [<- e,List.map_cons,eT,show (([.val (gD ps),.val (.int who),.val s,.own (.list (bZ h ps.length)),c4]:aS).set 4 (.val (.int i)))=[.val (gD ps),.val (.int who),.val s,.own (.list (bZ h ps.length)),.val (.int i)] from rfl];have ht:(tE (e2 (gW) (e2 ce (e2 ce (ae 0) (ae 4)) (eC (.int 0))) (ae 1))) [.val (gD ps),.val (.int who),.val s,.own (.list (bZ h ps.length)),.val (.int i)]=.ok (decide (ap ps i=who)):=by
      simp only [cC,bD,ao,av,bX,R.ok_bind,mr hi.1 hi.2,nr,fL,cT];rw [<- ho]
    have hb1:tX [.val (gD ps),.val (.int who),.val s,.own (.list (bZ h ps.length)),.val (.int i)]=.ok (.nx [.val (gD ps),.val (.int who),.val s,.own (.list (bZ (fun j=>if j=i then oD (eR ps who part i) else h j) ps.length)),.val (.int i)]):=by
      unfold tX;rw [dU,ht,R.ok_bind];by_cases hc:ap ps i=who
      · rw [if_pos (decide_eq_true hc)];have hcm:=oH (s:=.tuple ((aU ps i).map .int)) (ns:=aU ps i) (.inl rfl) hs (by have:=G.glen i;omega);obtain ⟨g,hg1⟩:=hne i hip hc;have hm:eR ps who part i=(bG ps part i).head?:=if_pos ⟨hip,hc⟩;have hw:(aU ps i).filter (du part)=bG ps part i:=rfl;rw [hw] at hcm;cases hL:bG ps part i with
        | nil=>rw [hL] at hg1;cases hg1
        | cons v r =>
          rw [hL] at hm hcm;rw [j7 (ds:=bZ h ps.length) (n:=i) (v:=.int v) rfl rfl ?_ hi.1 (by rw [bJ];exact hi.2),jT hi.1 hi.2,hm]
          · rfl
          · simp only [bD,aW,aL,aX,ao,av,bX,R.ok_bind,mr hi.1 hi.2,pD];rw [<- hg,hcm,R.ok_bind,rT (by omega) (by simp)];rfl
      · rw [if_neg (by rw [decide_eq_true_iff];exact hc)];have hm:eR ps who part i=none:=if_neg fun z=>hc z.2
        rw [rc,hm];congr 3;rw [cB fun j _ _=>?_];by_cases h1:j=i
        · subst h1;rw [if_pos rfl,hh];rfl
        · rw [if_neg h1]
    rw [hb1,R.ok_bind,dD]
theorem kK {ps:List P4} (G:Gr ps) {who:Int} {s:PyData} {part:List Int} (hs:qy s part) (hj:dM ps.length part) (hne:∀ i∈part,ap ps i=who->∃ g,g∈bG ps part i) :
    bq [gD ps,.int who,s]=.ok (oT (eR ps who part) ps.length):=by
  have hp:=G.hp;have hn:=lh (ps:=ps) (by omega);obtain ⟨c4,e⟩:=yy G hs hj hne part (fun _=>.none) .non hj.nd fun x hx=>⟨hx,rfl⟩
  have fin:bZ (fun j=>if j∈part then oD (eR ps who part j) else .none) ps.length=bZ (fun j=>oD (eR ps who part j)) ps.length:=cB fun j h1 h2=>by
    by_cases h:j∈part
    · rw [if_pos h]
    · rw [if_neg h];have:eR ps who part j=none:=if_neg fun z=>h z.1
      rw [this];rfl
  rw [fin] at e;unfold bq fH;refine dO ?_;rw [show ([gD ps,.int who,s].map bh.val++List.replicate (5 - [gD ps,.int who,s].length) bh.non)=[.val (gD ps),.val (.int who),.val s,.non,.non] from rfl];rw [aI (ρ':=[.val (gD ps),.val (.int who),.val s,.own (.list (bZ (fun _=>.none) ps.length)),.non]) (by
    simp only [kr,cp,aW,aL,aX,ao,R.ok_bind,hn,zW];rfl)]
  rw [aI (ρ':=[.val (gD ps),.val (.int who),.val s,.own (.list (bZ (fun j=>oD (eR ps who part j)) ps.length)),c4]) (by
    rw [fg,gx,bT];simp only [ao,av,R.ok_bind,hs.seq];unfold tX at e;rw [e];rfl)]
  rfl
structure Sh where
  w:Int
  pl:List Int
  mv:Int->Option Int
noncomputable abbrev AF:List Str:=["who","places","moves"]
noncomputable def ix (c:Addr) (n:Nat) (s:Sh):PyData:=yA c AF [.int s.w,.tuple (s.pl.map .int),oT s.mv n]
theorem sB (c:Addr) (n:Nat) (s:Sh):ix c n s=.dict [(.none,.int c),(.str "who",.int s.w),(.str "places",.tuple (s.pl.map .int)),(.str "moves",oT s.mv n)]:=rfl
theorem AU (c:Addr) (n:Nat) (s:Sh):jQ c "who" (ix c n s)=.ok (.int s.w):=by
  rw [sB];show (if (c:Int)=(c:Int) then (if ("who" : Str) = "who" then R.ok _ else _) else .no)=_;rw [if_pos rfl,if_pos rfl]
theorem mn (c:Addr) (n:Nat) (s:Sh):jQ c "places" (ix c n s)=.ok (.tuple (s.pl.map .int)):=by
  rw [sB];show (if (c:Int)=(c:Int) then (if ("who" : Str) = "places" then _ else if ("places" : Str) = "places" then R.ok _ else _) else .no)=_;rw [if_pos rfl,if_neg (by decide +kernel),if_pos rfl]
theorem vf (c:Addr) (n:Nat) (s:Sh):jQ c "moves" (ix c n s)=.ok (oT s.mv n):=by
  rw [sB];show (if (c:Int)=(c:Int) then (if ("who" : Str) = "moves" then _ else if ("places" : Str) = "moves" then _ else if ("moves" : Str) = "moves" then R.ok _ else _) else .no)=_;rw [if_pos rfl,if_neg (by decide +kernel),if_neg (by decide +kernel),if_pos rfl]
noncomputable def dN (f g:Int->Option Int) (i:Int):Option Int:=(f i).or (g i)
theorem lN {f g:Int->Option Int} {n:Nat} (hn:n<=1000):aA [oT f n,oT g n]=.ok (oT (dN f g) n):=by
  have hc:=zi (f:=fun i=>oD (f i)) (g:=fun i=>oD (g i)) (h:=fun i=>oD (dN f g i)) (n:=n) (ρ:=[]) (fe:=wE (tE (e2 (pN) (ae 0) (eC .none))) (ae 1) (ae 0)) fun i _ _=>by
    simp only [nD,cC,bD,ao,av,bX,R.ok_bind,yF,cT];unfold dN;cases f i <;> rfl
  unfold aA fA;refine dO ?_;rw [show ([oT f n,oT g n].map bh.val++List.replicate (2 - [oT f n,oT g n].length) bh.non)=[.val (oT f n),.val (oT g n)] from rfl];rw [bU,cp,bj,show az 2 [] [.val (oT f n),.val (oT g n)]=[.non,.non] from rfl];simp only [zQ,ao,av,R.ok_bind,cH,cc];rw [if_pos (by rw [mM,bJ,bJ,Nat.min_self];exact bC hn),hc];rfl
theorem nV {ps:List P4} (hp:ps.length<=1000):cu [gD ps]=.ok (.tuple ((ids ps.length).map .int)):=by
  have hrt:=qk (n:=ps.length) hp;have hlen:em (gD ps)=.ok (.int ps.length):=by simp
  unfold cu h9;refine dO ?_;rw [show ([gD ps].map bh.val++List.replicate (1 - [gD ps].length) bh.non)=[.val (gD ps)] from rfl];simp only [bU,yd,aL,aX,cp,ao,R.ok_bind,hlen,hrt]
noncomputable def x9 (s:Sh) (f:Int->Option Int) (i:Int):Option Int:=if i∈s.pl then some s.w else f i
noncomputable def lc:(Int->Option Int)->List Sh->Int->Option Int
  | f,[]=>f
  | f,s::l=>lc (x9 s f) l
noncomputable def rM:(Int->Option Int)->List Sh->Int->Option Int
  | f,[]=>f
  | f,s::l=>rM (dN f s.mv) l
theorem xp {c:Addr} {n:Nat} {a b m:PyData} {s:Sh}:∀ (is:List Int) (f:Int->Option Int) (c5:bh),(∀ x∈is,0<=x/\x < n) ->
    ∃ c5',eS (aP 5) (gf 2 (ae 5) (e1 (jQ c "who") (ae 4))) (is.map .int) [.val a,.val b,.own (.list (bZ (fun i=>oD (f i)) n)),.val m,.val (ix c n s),c5]=.ok (.nx [.val a,.val b,.own (.list (bZ (fun i=>oD (if i∈is then some s.w else f i)) n)),.val m,.val (ix c n s),c5'])
  | [],f,c5,_=>⟨c5,by rw [List.map_nil,fu];simp⟩
  | i::is,f,c5,hb=>by
    obtain ⟨h0,h1⟩:=hb i List.mem_cons_self;obtain ⟨c5',e⟩:=xp (c:=c) (n:=n) (a:=a) (b:=b) (m:=m) (s:=s) is (fun j=>if j=i then some s.w else f j) (.val (.int i)) fun x hx=>hb x (List.mem_cons_of_mem _ hx)
    refine ⟨c5',?_⟩;rw [List.map_cons,eT];rw [show (([.val a,.val b,.own (.list (bZ (fun i=>oD (f i)) n)),.val m,.val (ix c n s),c5]:aS).set 5 (.val (.int i)))=[.val a,.val b,.own (.list (bZ (fun i=>oD (f i)) n)),.val m,.val (ix c n s),.val (.int i)] from rfl];rw [j7 (ds:=bZ (fun i=>oD (f i)) n) (n:=i) (v:=.int s.w) rfl rfl (by simp only [cp,av,ao,R.ok_bind,AU]) h0 (by rw [bJ];exact h1),R.ok_bind,dD,jT h0 h1];have ht:bZ (fun j=>if j=i then PyData.int s.w else oD (f j)) n=bZ (fun j=>oD (if j=i then some s.w else f j)) n:=cB fun j _ _=>by split <;> rfl
    have ht2:bZ (fun j=>oD (if j∈is then some s.w else if j=i then some s.w else f j)) n=bZ (fun j=>oD (if j∈i::is then some s.w else f j)) n:=cB fun j _ _=>by
      by_cases z1:j∈is
      · simp [z1]
      · by_cases z2:j=i <;> simp [z1,z2]
    rw [ht,<- ht2];exact e
noncomputable def pL (c:Addr):Fs:=(bi (iy (jL (eu (e1 (jQ c "places") (ae 4))) (aP 5) (gf 2 (ae 5) (e1 (jQ c "who") (ae 4))))) (bY 3 (aG aA (ah (ae 3) (ah (e1 (jQ c "moves") (ae 4)) aJ)))))
theorem tY {c:Addr} {n:Nat} (hn:n<=1000) {a b:PyData}:∀ (l:List Sh) (f m:Int->Option Int) (c4 c5:bh),(∀ s∈l,∀ x∈s.pl,0<=x/\x < n) ->
    ∃ c4' c5',eS (aP 4) (pL c) (l.map (ix c n)) [.val a,.val b,.own (.list (bZ (fun i=>oD (f i)) n)),.val (oT m n),c4,c5]=.ok (.nx [.val a,.val b,.own (.list (bZ (fun i=>oD (lc f l i)) n)),.val (oT (rM m l) n),c4',c5'])
  | [],f,m,c4,c5,_=>⟨c4,c5,by rw [List.map_nil,fu];rfl⟩
  | s::l,f,m,c4,c5,hb=>by
    obtain ⟨d5,e1⟩:=xp (c:=c) (n:=n) (a:=a) (b:=b) (m:=oT m n) (s:=s) s.pl f c5 (hb s List.mem_cons_self);obtain ⟨c4',c5',e⟩:=tY (c:=c) hn (a:=a) (b:=b) l (x9 s f) (dN m s.mv) (.val (ix c n s)) d5 fun t ht=>hb t (List.mem_cons_of_mem _ ht)
    refine ⟨c4',c5',?_⟩;rw [List.map_cons,eT];rw [show (([.val a,.val b,.own (.list (bZ (fun i=>oD (f i)) n)),.val (oT m n),c4,c5]:aS).set 4 (.val (ix c n s)))=[.val a,.val b,.own (.list (bZ (fun i=>oD (f i)) n)),.val (oT m n),.val (ix c n s),c5] from rfl];have hb1:pL c [.val a,.val b,.own (.list (bZ (fun i=>oD (f i)) n)),.val (oT m n),.val (ix c n s),c5]=.ok (.nx [.val a,.val b,.own (.list (bZ (fun i=>oD (x9 s f i)) n)),.val (oT (dN m s.mv) n),.val (ix c n s),d5]):=by
      unfold pL;rw [aI (ρ':=[.val a,.val b,.own (.list (bZ (fun i=>oD (x9 s f i)) n)),.val (oT m n),.val (ix c n s),d5]) (by
        rw [fg,gx,bT,cp];simp only [av,ao,R.ok_bind,mn,cH];rw [e1];rfl)]
      simp only [bw,aW,aL,aX,cp,av,ao,R.ok_bind,vf,lN hn];rfl
    rw [hb1,R.ok_bind,dD,e];rfl
theorem Ej {ps:List P4} (hp:ps.length<=1000) {c:Addr} {l:List Sh} (hb:∀ s∈l,∀ x∈s.pl,0<=x/\x < ps.length) :
    aV c [gD ps,.list (l.map (ix c ps.length))]=.ok (.tuple [oT (lc (fun _=>none) l) ps.length,oT (rM (fun _=>none) l) ps.length]):=by
  obtain ⟨c4,c5,e⟩:=tY (c:=c) hp (a:=gD ps) (b:=.list (l.map (ix c ps.length))) l (fun _=>none) (fun _=>none) .non .non hb;have h0:bF (aP 0) (fun _=>.ok true) (eC .none) [.non] (ps.map P4.d)=.ok (bZ (fun _=>oD none) ps.length):=by
    have:=dr (eC .none) [.non] 0 (fun _=>.none) (ps.map P4.d) fun d _=>rfl
    rw [this];congr 1;refine List.ext_getElem (by rw [List.length_map,List.length_map,bJ]) fun k h1 h2=>?_
    rw [bJ] at h2;have e:=gu (f:=fun _=>oD none) (n:=ps.length) (i:=(k:Int)) (by omega) (by omega);simp only [Int.toNat_natCast] at e;rw [e,List.getElem_map];rfl
  have hn:=lh (ps:=ps) hp;unfold aV dR;refine dO ?_;rw [show ([gD ps,.list (l.map (ix c ps.length))].map bh.val++List.replicate (6 - [gD ps,.list (l.map (ix c ps.length))].length) bh.non)=[.val (gD ps),.val (.list (l.map (ix c ps.length))),.non,.non,.non,.non] from rfl];rw [aI (ρ':=[.val (gD ps),.val (.list (l.map (ix c ps.length))),.own (.list (bZ (fun _=>oD none) ps.length)),.non,.non,.non]) (by
    rw [kr,bj,show az 1 [] [.val (gD ps),.val (.list (l.map (ix c ps.length))),.non,.non,.non,.non]=[.non] from rfl];simp only [bT,ao,R.ok_bind,cH,cc];rw [if_pos (by rw [List.length_map];exact bC hp),h0];rfl)]
  rw [aI (ρ':=[.val (gD ps),.val (.list (l.map (ix c ps.length))),.own (.list (bZ (fun _=>oD none) ps.length)),.val (oT (fun _=>none) ps.length),.non,.non]) (by
    simp only [bw,aW,aL,aX,ao,R.ok_bind,hn];rfl)]
  rw [aI (ρ':=[.val (gD ps),.val (.list (l.map (ix c ps.length))),.own (.list (bZ (fun i=>oD (lc (fun _=>none) l i)) ps.length)),.val (oT (rM (fun _=>none) l) ps.length),c4,c5]) (by
    rw [fg,gx,bT];simp only [av,ao,R.ok_bind,sI];unfold pL at e;rw [e];rfl)]
  simp only [bU,lW,aL,aX,cp,pW,p8,av,ao,R.ok_bind,qJ];rfl
noncomputable def Wy (ps:List P4) (js:List Int) (w:Int) (mv:Int->Option Int) (i g:Int):Prop:=(ap ps i=w/\mv i=some g)\/(ap ps i≠w/\g∈bG ps js i)
theorem fj {ps:List P4} {js:List Int} {i g:Int} (h:g∈bG ps js i):g∈js:=cM.mp (List.mem_filter.mp h).2
theorem eE {ps:List P4} {js:List Int} {i g:Int} (h:g∈bG ps js i):g∈aU ps i:=(List.mem_filter.mp h).1
theorem gr {ps:List P4} {js:List Int} {i g:Int} (h:g∈aU ps i) (h2:g∈js):g∈bG ps js i:=List.mem_filter.mpr ⟨h,cM.mpr h2⟩
theorem uW {ps:List P4} {js gs:List Int} {who:Int} {rk:Int->Option Int} (A:sy ps js who gs rk) {i q:Int} (h:rk i=some q) (hq:0 < q) (ho:ap ps i=who):∃ g,la ps who rk i=some g/\g∈bG ps js i/\rk g=some (q-1):=by
  obtain ⟨g,g1,g2⟩:=jJ A i q h hq ho;have hm:la ps who rk i=((aU ps i).filter fun g=>decide (rk g=some (q-1))).head?:=by
    unfold la;rw [h];exact if_pos ⟨ho,hq⟩
  have hmem:g∈(aU ps i).filter fun g=>decide (rk g=some (q-1)):=List.mem_filter.mpr ⟨g1,decide_eq_true g2⟩
  cases hL:(aU ps i).filter fun g=>decide (rk g=some (q-1)) with
  | nil=>rw [hL] at hmem;cases hmem
  | cons v r =>
    rw [hL] at hm;have hv:v∈(aU ps i).filter fun g=>decide (rk g=some (q-1)):=by rw [hL];exact List.mem_cons_self
    have h2:=of_decide_eq_true (List.mem_filter.mp hv).2;exact ⟨v,hm,gr (List.mem_filter.mp hv).1 (A.sub v _ h2),h2⟩
theorem gg {ps:List P4} {who:Int} {rk:Int->Option Int} {i:Int} (h:ap ps i≠who\/rk i=none\/rk i=some 0):la ps who rk i=none:=by
  unfold la;rcases h with h | h | h
  · cases rk i with
    | none=>rfl
    | some q=>exact if_neg fun z=>h z.1
  · rw [h]
  · rw [h];exact if_neg fun z=>by omega
theorem vV {ps:List P4} {who:Int} {part:List Int} {i:Int} (hi:i∈part) (ho:ap ps i=who) (hw:∃ g,g∈bG ps part i):∃ g,eR ps who part i=some g/\g∈bG ps part i:=by
  have hm:eR ps who part i=(bG ps part i).head?:=if_pos ⟨hi,ho⟩;obtain ⟨g,hg⟩:=hw;cases hL:bG ps part i with
  | nil=>rw [hL] at hg;cases hg
  | cons v r =>
    rw [hL] at hm;exact ⟨v,hm,List.mem_cons_self⟩
theorem tS {ps:List P4} {who:Int} {part:List Int} {i:Int} (h:i∉part\/ap ps i≠who):eR ps who part i=none:=if_neg fun z=>h.elim (fun y=>y z.1) fun y=>y z.2
inductive iQ (E:Int->Int->Prop) (al:Int->Prop) (s:Int):Int->Prop
  | one {x:Int}:E s x->al x->iQ E al s x
  | more {x y:Int}:iQ E al s x->E x y->al y->iQ E al s y
theorem iQ.al {E:Int->Int->Prop} {al:Int->Prop} {s x:Int} (h:iQ E al s x):al x:=by cases h <;> assumption
theorem iQ.imp {E E':Int->Int->Prop} {al al':Int->Prop} {s t:Int} (h:iQ E al s t) (h1:∀ y,E s y->al y->E' s y/\al' y) (h2:∀ x y,al x->E x y->al y->E' x y/\al' y):iQ E' al' s t:=by
  induction h with
  | one a b=>exact .one (h1 _ a b).1 (h1 _ a b).2
  | more r a b ih=>exact .more ih (h2 _ _ r.al a b).1 (h2 _ _ r.al a b).2
theorem iQ.inn {E:Int->Int->Prop} {al:Int->Prop} {s t:Int} {P:Int->Prop} (h:iQ E al s t) (hs:P s) (hP:∀ x y,P x->E x y->al y->P y):iQ E (fun x=>al x/\P x) s t:=by
  induction h with
  | one a b=>exact .one a ⟨b,hP _ _ hs a b⟩
  | more r a b ih=>exact .more ih a ⟨b,hP _ _ ih.al.2 a b⟩
theorem iQ.out {E:Int->Int->Prop} {al:Int->Prop} {s t:Int} {P:Int->Prop} (h:iQ E al s t) (ht:¬ P t) (hP:∀ x y,al x->P x->E x y->al y->P y):iQ E (fun x=>al x/\¬ P x) s t:=by
  induction h with
  | one a b=>exact .one a ⟨b,ht⟩
  | more r a b ih =>
    have hx:=fun z=>ht (hP _ _ r.al z a b)
    exact .more (ih hx) a ⟨b,ht⟩
theorem iQ.less {E:Int->Int->Prop} {al:Int->Prop} {s t:Int} {φ:Int->Int} (h:iQ E al s t) (h1:∀ y,E s y->al y->φ y < φ s) (h2:∀ x y,al x->E x y->al y->φ y<=φ x):φ t < φ s:=by
  induction h with
  | one a b=>exact h1 _ a b
  | more r a b ih =>
    have:=h2 _ _ r.al a b;omega
structure oZ (ps:List P4) (js:List Int) (win:Int->Int) (mv:Int->Option Int):Prop where
  two:∀ i∈js,win i=0\/win i=1
  has:∀ i∈js,ap ps i=win i->∃ g,mv i=some g/\g∈aU ps i
  non:∀ i∈js,ap ps i≠win i->mv i=none
  stay:∀ i∈js,∀ g,Wy ps js (win i) mv i g->g∈js/\win g=win i
  good:∀ i∈js,am ps i%2≠win i->¬ iQ (Wy ps js (win i) mv) (fun x=>x∈js/\win x=win i/\am ps x<=am ps i) i i
structure gq (ps:List P4) (js:List Int) (s:Sh):Prop where
  two:s.w=0\/s.w=1
  sub:∀ i∈s.pl,i∈js
  ne:s.pl≠[]
  has:∀ i∈s.pl,ap ps i=s.w->∃ g,s.mv i=some g/\g∈aU ps i
  non:∀ i,(i∉s.pl\/ap ps i≠s.w)->s.mv i=none
  stay:∀ i∈s.pl,∀ g,Wy ps js s.w s.mv i g->g∈s.pl
  outO:∀ i∈js,i∉s.pl->ap ps i=s.w->∀ g∈bG ps js i,g∉s.pl
  outX:∀ i∈js,i∉s.pl->ap ps i≠s.w->∃ g∈bG ps js i,g∉s.pl
  good:∀ i∈s.pl,am ps i%2≠s.w->¬ iQ (Wy ps js s.w s.mv) (fun x=>x∈s.pl/\am ps x<=am ps i) i i
theorem jt {ps:List P4} {K:List Int} {w:Int} {m1 m2:Int->Option Int} {i g:Int} (e:m1 i=m2 i) (h:Wy ps K w m1 i g):Wy ps K w m2 i g:=by
  rcases h with ⟨a,b⟩ | h
  · exact .inl ⟨a,by rw [<- e];exact b⟩
  · exact .inr h
theorem gq.whole {ps:List P4} {js:List Int} {s:Sh} (S:gq ps js s) (hw:fK ps js):fK ps (gX js s.pl):=by
  intro i hi;obtain ⟨h1,h2⟩:=bA.mp hi;have fin:∀ g∈bG ps js i,g∉s.pl->∃ g,g∈bG ps (gX js s.pl) i:=fun g g1 g2=>⟨g,gr (eE g1) (bA.mpr ⟨fj g1,g2⟩)⟩
  by_cases ho:ap ps i=s.w
  · obtain ⟨g,hg⟩:=hw i h1;exact fin g hg (S.outO i h1 h2 ho g hg)
  · obtain ⟨g,g1,g2⟩:=S.outX i h1 h2 ho;exact fin g g1 g2
theorem yr {ps:List P4} {js:List Int} (hown:∀ i∈js,ap ps i=0\/ap ps i=1) {s:Sh} (S:gq ps js s) {win:Int->Int} {mv:Int->Option Int} (I:oZ ps (gX js s.pl) win mv) :
    oZ ps js (fun i=>if i∈s.pl then s.w else win i) (fun i=>if i∈s.pl then s.mv i else mv i):=by
  have wP:∀ {i},i∈s.pl->(if i∈s.pl then s.w else win i)=s.w:=fun h=>if_pos h
  have wR:∀ {i},i∉s.pl->(if i∈s.pl then s.w else win i)=win i:=fun h=>if_neg h
  have mP:∀ {i},i∈s.pl->(if i∈s.pl then s.mv i else mv i)=s.mv i:=fun h=>if_pos h
  have mR:∀ {i},i∉s.pl->(if i∈s.pl then s.mv i else mv i)=mv i:=fun h=>if_neg h
  have goR:∀ i g,i∈js->i∉s.pl->Wy ps js (win i) mv i g->(g∈js/\g∉s.pl/\Wy ps (gX js s.pl) (win i) mv i g)\/(win i=s.w/\g∈s.pl):=fun i g hi hn h=>by
    have hi':=bA.mpr ⟨hi,hn⟩;rcases h with ⟨ho,hm⟩ | ⟨ho,hm⟩
    · have w:Wy ps (gX js s.pl) (win i) mv i g:=.inl ⟨ho,hm⟩;obtain ⟨z1,z2⟩:=bA.mp (I.stay i hi' g w).1;exact .inl ⟨z1,z2,w⟩
    · by_cases hg:g∈s.pl
      · right;refine ⟨?_,hg⟩;have h1:ap ps i≠s.w:=fun z=>S.outO i hi hn z g hm hg
        have:=hown i hi;have:=I.two i hi';have:=S.two;omega
      · exact .inl ⟨fj hm,hg,.inr ⟨ho,gr (eE hm) (bA.mpr ⟨fj hm,hg⟩)⟩⟩
  refine ⟨fun i hi=>?_,fun i hi ho=>?_,fun i hi ho=>?_,fun i hi g hg=>?_,fun i hi hm hp=>?_⟩
  · by_cases h:i∈s.pl
    · rw [wP h];exact S.two
    · rw [wR h];exact I.two i (bA.mpr ⟨hi,h⟩)
  · by_cases h:i∈s.pl
    · rw [mP h];exact S.has i h (ho.trans (wP h))
    · rw [mR h];exact I.has i (bA.mpr ⟨hi,h⟩) (ho.trans (wR h))
  · by_cases h:i∈s.pl
    · rw [mP h];exact S.non i (.inr fun z=>ho (z.trans (wP h).symm))
    · rw [mR h];exact I.non i (bA.mpr ⟨hi,h⟩) fun z=>ho (z.trans (wR h).symm)
  · by_cases h:i∈s.pl
    · rw [wP h] at hg ⊢;have:=S.stay i h g (jt (mP h) hg);exact ⟨S.sub g this,wP this⟩
    · rw [wR h] at hg ⊢;rcases goR i g hi h (jt (mR h) hg) with ⟨z1,z2,z3⟩ | ⟨z1,z2⟩
      · refine ⟨z1,?_⟩;rw [wR z2];exact (I.stay i (bA.mpr ⟨hi,h⟩) g z3).2
      · refine ⟨S.sub g z2,?_⟩;rw [wP z2];exact z1.symm
  · by_cases h:i∈s.pl
    · rw [wP h] at hm hp;refine S.good i h hm ?_;refine (hp.inn (P:=fun x=>x∈s.pl) h fun x y hx e _=>S.stay x hx y (jt (mP hx) e)).imp (fun y e a=>⟨jt (mP h) e,a.2,a.1.2.2⟩) fun x y ax e a=>⟨jt (mP ax.2) e,a.2,a.1.2.2⟩
    · rw [wR h] at hm hp;refine I.good i (bA.mpr ⟨hi,h⟩) hm ?_;have hp2:=hp.out (P:=fun x=>x∈s.pl) h fun x y ax hx e a=>by
        have hw:s.w=win i:=(wP hx).symm.trans ax.2.1;exact S.stay x hx y (jt (mP hx) (by rw [hw];exact e))
      have st:∀ x y,x∈js->x∉s.pl->win x=win i->Wy ps js (win i) (fun i=>if i∈s.pl then s.mv i else mv i) x y->(y∈js/\(if y∈s.pl then s.w else win y)=win i/\am ps y<=am ps i)/\y∉s.pl->Wy ps (gX js s.pl) (win i) mv x y/\(y∈gX js s.pl/\win y=win i/\am ps y<=am ps i):=fun x y hx hxn hwx e a=>by
        refine ⟨?_,bA.mpr ⟨a.1.1,a.2⟩,(wR a.2).symm.trans a.1.2.1,a.1.2.2⟩;rcases goR x y hx hxn (by rw [hwx];exact jt (mR hxn) e) with ⟨_,_,z⟩ | ⟨_,z⟩
        · rw [hwx] at z;exact z
        · exact (a.2 z).elim
      exact hp2.imp (fun y e a=>st i y hi h rfl e a) fun x y ax e a=>st x y ax.1.1 ax.2 ((wR ax.2).symm.trans ax.1.2.1) e a
theorem AD {ps:List P4} (win:Int->Int) (mv:Int->Option Int):oZ ps [] win mv:=by
  refine ⟨?_,?_,?_,?_,?_⟩ <;> intro i hi <;> cases hi
section
variable {ps:List P4} {js:List Int} (hj:dM ps.length js) (hw:fK ps js) (hown:∀ i∈js,ap ps i=0\/ap ps i=1) {h w:Int} (ew:w=h%2) (hmax:∀ i∈js,am ps i<=h)
  {tops:List Int} (htop:∀ i,i∈tops<->i∈js/\am ps i=h) {rk:Int->Option Int} (A:sy ps js w tops rk) {sub:List Int} (hsub:∀ i,i∈sub<->i∈js/\rk i=none) {win:Int->Int} {mv:Int->Option Int} (I:oZ ps sub win mv) (hmv:∀ i,i∉sub->mv i=none)
include hj hw hown ew hmax htop A hsub I hmv
theorem wb (hne:js≠[]) (hl:∀ i∈sub,win i=w):gq ps js ⟨w,js,dN (dN (la ps w rk) mv) (eR ps w js)⟩:=by
  have w01:w=0\/w=1:=by omega
  obtain ⟨M,eM⟩:∃ M,M=dN (dN (la ps w rk) mv) (eR ps w js):=⟨_,rfl⟩
  rw [<- eM]
  -- the move at a place of w
  have own:∀ i∈js,ap ps i=w->∃ g,M i=some g/\g∈aU ps i/\g∈js/\(∀ q,rk i=some q->0 < q->rk g=some (q-1))/\(rk i=none->mv i=some g):=fun i hi ho=>by
    rw [eM];unfold dN;cases hr:rk i with
    | none =>
      have his:=(hsub i).mpr ⟨hi,hr⟩;obtain ⟨g,g1,g2⟩:=I.has i his (by rw [hl i his];exact ho);have gs:=(I.stay i his g (by rw [hl i his];exact .inl ⟨ho,g1⟩)).1;exact ⟨g,by rw [gg (.inr (.inl hr)),g1];rfl,g2,((hsub g).mp gs).1,(fun q z=>nomatch z),fun _=>g1⟩
    | some q =>
      by_cases hq:0 < q
      · obtain ⟨g,g1,g2,g3⟩:=uW A hr hq ho;exact ⟨g,by rw [g1];rfl,eE g2,fj g2,fun q' z _=>by cases z;exact g3,fun z=>by cases z⟩
      · obtain ⟨g,g1,g2⟩:=vV hi ho (hw i hi);have h0:q=0:=by have:=A.nneg i q hr;omega
        have hn:mv i=none:=hmv i fun z=>by have:=((hsub i).mp z).2;rw [hr] at this;cases this
        refine ⟨g,by rw [gg (.inr (.inr (by rw [hr,h0]))),hn,g1];rfl,eE g2,fj g2,fun q' z y=>by cases z;omega,fun z=>by cases z⟩
  refine ⟨w01,fun i hi=>hi,hne,fun i hi ho=>?_,fun i hi=>?_,fun i hi g hg=>?_,fun i hi hn=>(hn hi).elim,fun i hi hn=>(hn hi).elim,fun i hi hm hp=>?_⟩
  · obtain ⟨g,g1,g2,_⟩:=own i hi ho;exact ⟨g,g1,g2⟩
  · show M i=none;rw [eM];unfold dN;rw [tS hi];rcases hi with hi | hi
    · have hr:rk i=none:=by
        cases hr:rk i with
        | none=>rfl
        | some q=>exact (hi (A.sub i q hr)).elim
      rw [gg (.inr (.inl hr)),hmv i fun z=>hi ((hsub i).mp z).1];rfl
    · rw [gg (.inl hi)];by_cases his:i∈sub
      · rw [I.non i his (by rw [hl i his];exact hi)];rfl
      · rw [hmv i his];rfl
  · show g∈js;rcases hg with ⟨ho,hm⟩ | ⟨_,hm⟩
    · obtain ⟨g',g1,_,g3,_⟩:=own i hi ho;rw [show M i=some g from hm] at g1;cases g1;exact g3
    · exact fj hm
  · -- a bad ring
    have hm':am ps i%2≠w:=hm;have hlt:am ps i < h:=by
      have:=hmax i hi;by_cases z:am ps i=h
      · rw [z] at hm';exact (hm' ew.symm).elim
      · omega
    have dec:∀ x y q,x∈js->am ps x<=am ps i->rk x=some q->Wy ps js w M x y->∃ t,rk y=some t/\t < q:=fun x y q hx hmx hq e=>by
      have hpos:0 < q:=by
        have:=A.nneg x q hq;by_cases z:q=0
        · subst z;have:=((htop x).mp ((A.zero x).mp hq)).2;omega
        · omega
      rcases e with ⟨ho,hmv'⟩ | ⟨ho,hmv'⟩
      · obtain ⟨g,g1,_,_,g4,_⟩:=own x hx ho;rw [hmv'] at g1;cases g1;exact ⟨q-1,g4 q hq hpos,by omega⟩
      · exact (A.oth x q hq hpos ho).2 y hmv'
    by_cases hri:rk i=none
    · -- all of it lies in what is left
      have his:=(hsub i).mpr ⟨hi,hri⟩;have hp2:=hp.out (P:=fun x=>∃ q,rk x=some q) (by rintro ⟨q,hq⟩;rw [hri] at hq;cases hq) fun x y ax ⟨q,hq⟩ e _=>by
        obtain ⟨t,ht,_⟩:=dec x y q ax.1 ax.2 hq e;exact ⟨t,ht⟩
      have non:∀ {x},¬ (∃ q,rk x=some q)->rk x=none:=fun {x} z=>by
        cases hr:rk x with
        | none=>rfl
        | some q=>exact (z ⟨q,hr⟩).elim
      refine I.good i his (by rw [hl i his];exact hm') ?_;rw [hl i his];have st:∀ x y,x∈js->rk x=none->Wy ps js w M x y->(y∈js/\am ps y<=am ps i)/\¬ (∃ q,rk y=some q)->Wy ps sub w mv x y/\(y∈sub/\win y=w/\am ps y<=am ps i):=fun x y hx hrx e a=>by
        have hys:=(hsub y).mpr ⟨a.1.1,non a.2⟩;refine ⟨?_,hys,hl y hys,a.1.2⟩;rcases e with ⟨ho,hmv'⟩ | ⟨ho,hmv'⟩
        · obtain ⟨g,g1,_,_,_,g5⟩:=own x hx ho;rw [hmv'] at g1;cases g1;exact .inl ⟨ho,g5 hrx⟩
        · exact .inr ⟨ho,gr (eE hmv') hys⟩
      exact hp2.imp (fun y e a=>st i y hi hri e a) fun x y ax e a=>st x y ax.1.1 (non ax.2) e a
    · -- ranks fall
      obtain ⟨q0,hq0⟩:∃ q,rk i=some q:=by
        cases hr:rk i with
        | none=>exact (hri hr).elim
        | some q=>exact ⟨q,rfl⟩
      have hp2:=hp.inn (P:=fun x=>x∈js/\am ps x<=am ps i/\∃ q,rk x=some q) ⟨hi,Int.le_refl _,q0,hq0⟩ fun x y ⟨hx,hmx,q,hq⟩ e a=>by
        obtain ⟨t,ht,_⟩:=dec x y q hx hmx hq e;exact ⟨a.1,a.2,t,ht⟩
      have fall:∀ x y,x∈js->am ps x<=am ps i->(∃ q,rk x=some q)->Wy ps js w M x y->(rk y).getD 0 < (rk x).getD 0:=fun x y hx hmx ⟨q,hq⟩ e=>by
        obtain ⟨t,ht,hlt'⟩:=dec x y q hx hmx hq e;rw [ht,hq];exact hlt'
      have:=hp2.less (φ:=fun x=>(rk x).getD 0) (fun y e _=>fall i y hi (Int.le_refl _) ⟨q0,hq0⟩ e) fun x y ax e _=>by
        have:=fall x y ax.2.1 ax.2.2.1 ax.2.2.2 e;omega
      exact absurd this (Int.lt_irrefl _)
theorem si {lost:List Int} (hlost:∀ i,i∈lost<->i∈sub/\win i=1-w) (hne:lost≠[]) {rk2:Int->Option Int} (B:sy ps js (1-w) lost rk2) {pl:List Int} (hpl:∀ i,i∈pl<->∃ q,rk2 i=some q) :
    gq ps js ⟨1-w,pl,dN (la ps (1-w) rk2) (fun i=>if i∈lost then mv i else none)⟩:=by
  have w01:w=0\/w=1:=by omega
  obtain ⟨M,eM⟩:∃ M,M=dN (la ps (1-w) rk2) (fun i=>if i∈lost then mv i else none):=⟨_,rfl⟩
  rw [<- eM];have l0:∀ {i},i∈lost->rk2 i=some 0:=fun {i} hi=>(B.zero i).mpr hi
  have own:∀ i q,rk2 i=some q->ap ps i=1-w->∃ g,M i=some g/\g∈aU ps i/\((0 < q/\rk2 g=some (q-1))\/(q=0/\g∈lost/\mv i=some g)):=fun i q hq ho=>by
    rw [eM];unfold dN;by_cases hp:0 < q
    · obtain ⟨g,g1,g2,g3⟩:=uW B hq hp ho;exact ⟨g,by rw [g1];rfl,eE g2,.inl ⟨hp,g3⟩⟩
    · have h0:q=0:=by have:=B.nneg i q hq;omega
      have hi:i∈lost:=(B.zero i).mp (by rw [hq,h0]);obtain ⟨hs,hwi⟩:=(hlost i).mp hi;obtain ⟨g,g1,g2⟩:=I.has i hs (by rw [hwi];exact ho);obtain ⟨s1,s2⟩:=I.stay i hs g (by rw [hwi];exact .inl ⟨ho,g1⟩);refine ⟨g,?_,g2,.inr ⟨h0,(hlost g).mpr ⟨s1,s2.trans hwi⟩,g1⟩⟩;rw [gg (.inr (.inr (by rw [hq,h0])))];show (if i∈lost then mv i else none)=_;rw [if_pos hi,g1]
  have go:∀ i q g,rk2 i=some q->Wy ps js (1-w) M i g->∃ t,rk2 g=some t/\((t < q)\/(q=0/\t=0/\Wy ps sub (1-w) mv i g)):=fun i q g hq e=>by
    rcases e with ⟨ho,hm⟩ | ⟨ho,hm⟩
    · obtain ⟨g',g1,_,g3⟩:=own i q hq ho;rw [hm] at g1;cases g1;rcases g3 with ⟨z1,z2⟩ | ⟨z1,z2,z3⟩
      · exact ⟨q-1,z2,.inl (by omega)⟩
      · exact ⟨0,l0 z2,.inr ⟨z1,rfl,.inl ⟨ho,z3⟩⟩⟩
    · by_cases hp:0 < q
      · obtain ⟨t,t1,t2⟩:=(B.oth i q hq hp ho).2 g hm;exact ⟨t,t1,.inl t2⟩
      · have h0:q=0:=by have:=B.nneg i q hq;omega
        have hi:i∈lost:=(B.zero i).mp (by rw [hq,h0]);obtain ⟨hs,hwi⟩:=(hlost i).mp hi;obtain ⟨hij,hin⟩:=(hsub i).mp hs;have how:ap ps i=w:=by have:=hown i hij;omega
        have hgs:g∈sub:=(hsub g).mpr ⟨fj hm,A.outO i hij hin how g hm⟩;have wy:Wy ps sub (1-w) mv i g:=.inr ⟨ho,gr (eE hm) hgs⟩;obtain ⟨s1,s2⟩:=I.stay i hs g (by rw [hwi];exact wy);exact ⟨0,l0 ((hlost g).mpr ⟨s1,s2.trans hwi⟩),.inr ⟨h0,rfl,wy⟩⟩
  refine ⟨by show 1-w=0\/1-w=1;omega,fun i hi=>?_,?_,fun i hi ho=>?_,fun i hi=>?_,fun i hi g hg=>?_,fun i hi hn ho g hg hgp=>?_,fun i hi hn ho=>?_,fun i hi hm hp=>?_⟩
  · obtain ⟨q,hq⟩:=(hpl i).mp hi;exact B.sub i q hq
  · obtain ⟨i,hi⟩:=List.exists_mem_of_ne_nil _ hne;exact List.ne_nil_of_mem ((hpl i).mpr ⟨0,l0 hi⟩)
  · obtain ⟨q,hq⟩:=(hpl i).mp hi;obtain ⟨g,g1,g2,_⟩:=own i q hq ho;exact ⟨g,g1,g2⟩
  · show M i=none;rw [eM];unfold dN;rcases hi with hi | hi
    · have hr:rk2 i=none:=by
        cases hr:rk2 i with
        | none=>rfl
        | some q=>exact (hi ((hpl i).mpr ⟨q,hr⟩)).elim
      rw [gg (.inr (.inl hr))];show (if i∈lost then mv i else none)=_;rw [if_neg fun z=>by rw [l0 z] at hr;cases hr]
    · rw [gg (.inl hi)];show (if i∈lost then mv i else none)=_;by_cases z:i∈lost
      · obtain ⟨hs,hwi⟩:=(hlost i).mp z;rw [if_pos z,I.non i hs (by rw [hwi];exact hi)]
      · rw [if_neg z]
  · obtain ⟨q,hq⟩:=(hpl i).mp hi;obtain ⟨t,ht,_⟩:=go i q g hq hg;exact (hpl g).mpr ⟨t,ht⟩
  · have hr:rk2 i=none:=by
      cases hr:rk2 i with
      | none=>rfl
      | some q=>exact (hn ((hpl i).mpr ⟨q,hr⟩)).elim
    obtain ⟨q,hq⟩:=(hpl g).mp hgp;rw [B.outO i hi hr ho g hg] at hq;cases hq
  · have hr:rk2 i=none:=by
      cases hr:rk2 i with
      | none=>rfl
      | some q=>exact (hn ((hpl i).mpr ⟨q,hr⟩)).elim
    obtain ⟨g,g1,g2⟩:=B.outX i hi hr ho (hw i hi);refine ⟨g,g1,fun z=>?_⟩;obtain ⟨q,hq⟩:=(hpl g).mp z;rw [g2] at hq;cases hq
  · -- a bad ring
    have hi':i∈pl:=hi;have hm':am ps i%2≠1-w:=hm;obtain ⟨q0,hq0⟩:=(hpl i).mp hi';have le:∀ x y,x∈pl->Wy ps js (1-w) M x y->(rk2 y).getD 0<=(rk2 x).getD 0:=fun x y hx e=>by
      obtain ⟨q,hq⟩:=(hpl x).mp hx;obtain ⟨t,ht,z⟩:=go x q y hq e;rw [hq,ht];show t<=q;omega
    by_cases hz:q0=0
    · subst hz;have hil:i∈lost:=(B.zero i).mp hq0;obtain ⟨his,hwi⟩:=(hlost i).mp hil;have hp2:=hp.inn (P:=fun x=>x∈lost) hil fun x y hx e _=>by
        obtain ⟨t,ht,z⟩:=go x 0 y (l0 hx) e;have:=B.nneg y t ht;have t0:t=0:=by omega
        exact (B.zero y).mp (by rw [ht,t0])
      refine I.good i his (by rw [hwi];exact hm') ?_;rw [hwi];have st:∀ x y,x∈lost->Wy ps js (1-w) M x y->(y∈pl/\am ps y<=am ps i)/\y∈lost->Wy ps sub (1-w) mv x y/\(y∈sub/\win y=1-w/\am ps y<=am ps i):=fun x y hx e a=>by
        obtain ⟨s1,s2⟩:=(hlost y).mp a.2;refine ⟨?_,s1,s2,a.1.2⟩;obtain ⟨t,ht,z⟩:=go x 0 y (l0 hx) e;have:=B.nneg y t ht;rcases z with z | ⟨_,_,z⟩
        · omega
        · exact z
      exact hp2.imp (fun y e a=>st i y hil e a) fun x y ax e a=>st x y ax.2 e a
    · have:=hp.less (φ:=fun x=>(rk2 x).getD 0) (fun y e _=>by
        obtain ⟨t,ht,z⟩:=go i q0 y hq0 e;show (rk2 y).getD 0 < (rk2 i).getD 0;rw [ht,hq0];show t < q0;omega) fun x y ax e _=>le x y ax.1 e
      exact absurd this (Int.lt_irrefl _)
end
theorem qR {f:Int->Option Int} {n:Nat} (hn:n<=1000) {s:PyData} {js:List Int} (hs:qy s js):cD [oT f n,s]=.ok (oT (fun i=>if i∈js then f i else none) n):=by
  have hc:=qO (fe:=wE (tE (e2 (tN false) (ae 0) (ae 2))) (ae 1) (eC .none)) (ρ:=[.val s]) (g:=fun i=>oD (f i)) (h:=fun i=>oD (if i∈js then f i else none)) n 0 fun j _ _=>by
    simp only [nD,cC,bD,av,ao,bX,R.ok_bind,hs.inn,cT];cases hm:du js j with
    | true=>rw [if_pos (cM.mp hm)];rfl
    | false=>rw [if_neg (show ¬ (j:Int)∈js from fun z=>by rw [cM.mpr z] at hm;cases hm)];rfl
  rw [lT] at hc;unfold cD jD;refine dO ?_;rw [show ([oT f n,s].map bh.val++List.replicate (2 - [oT f n,s].length) bh.non)=[.val (oT f n),.val s] from rfl];rw [bU,cp,bj,show az 2 [1] [.val (oT f n),.val s]=[.non,.non,.val s] from rfl];simp only [kq,ao,R.ok_bind,cH,cc];rw [if_pos (by rw [fT,bJ];exact bC hn)];rw [show de 0 (bZ (fun i=>oD (f i)) n)=de 0 ((ids n).map fun i=>oD (f i)) from rfl,hc];rfl
noncomputable def kh (sub:List Int) (win:Int->Int) (i:Int):Option Int:=if i∈sub then some (win i) else none
section
variable {ps:List P4} (G:Gr ps) {c:Addr} {k:Nat} {js:List Int} (hj:dM ps.length js) (hw:fK ps js) (hne:js≠[]) (hown:∀ i∈js,ap ps i=0\/ap ps i=1)
include G hj hw hne hown
theorem yU (ih:∀ (h:Int) (sub:List Int),dM ps.length sub->fK ps sub->(∀ i∈sub,i∈js/\am ps i < h)->(∃ i∈js,am ps i=h)->∃ win mv,aD c k [gD ps,.tuple (sub.map .int)]=.ok (.tuple [oT (kh sub win) ps.length,oT mv ps.length])/\oZ ps sub win mv/\∀ i,i∉sub->mv i=none) :
    ∃ s,aT c k [gD ps,.tuple (js.map .int)]=.ok (ix c ps.length s)/\gq ps js s/\dM ps.length s.pl:=by
  have hp:=G.hp;have hjl:=hj.len;obtain ⟨h,hmx,htopx,hmax⟩:=oq (ps:=ps) hne;obtain ⟨w,ew⟩:∃ w,w=h%2:=⟨_,rfl⟩
  have w01:w=0\/w=1:=by omega
  obtain ⟨tops,etops⟩:∃ tops,tops=js.filter fun i=>decide (am ps i=h):=⟨_,rfl⟩
  have htop:∀ i,i∈tops<->i∈js/\am ps i=h:=fun i=>by rw [etops,List.mem_filter,decide_eq_true_iff]
  have tp:dM ps.length tops:=by rw [etops];exact hj.filter _
  obtain ⟨rk,erk⟩:∃ rk,rk=rK ps js w tops:=⟨_,rfl⟩
  have A:sy ps js w tops rk:=by rw [erk];exact uT tp.nd (fun x hx=>((htop x).mp hx).1) hj.nd hj.len
  have h1:=lu G.hl G.hgo G.hp (s:=.tuple (js.map .int)) (g:=.list (tops.map .int)) (.inl rfl) (.inr rfl) hj tp (fun x hx=>((htop x).mp hx).1) hw (who:=w);rw [<- erk] at h1;have h2:=kT (f:=rk) (n:=ps.length) (by omega);have h3:=nv (s:=.tuple (js.map .int)) (t:=.tuple ((iJ rk ps.length).map .int)) (.inl rfl) (.inl rfl) (by omega);obtain ⟨sub,esub⟩:∃ sub,sub=gX js (iJ rk ps.length):=⟨_,rfl⟩
  have hsub:∀ i,i∈sub<->i∈js/\rk i=none:=fun i=>by
    rw [esub,bA,gY];constructor
    · rintro ⟨a,b⟩;refine ⟨a,?_⟩;cases hr:rk i with
      | none=>rfl
      | some q=>exact (b ⟨hj.inn i a,q,hr⟩).elim
    · rintro ⟨a,b⟩;exact ⟨a,fun ⟨_,q,hq⟩=>by rw [b] at hq;cases hq⟩
  have sp:dM ps.length sub:=by rw [esub];exact hj.filter _
  have sw:fK ps sub:=by
    intro i hi;obtain ⟨a,b⟩:=(hsub i).mp hi;have fin:∀ g∈bG ps js i,rk g=none->∃ g,g∈bG ps sub i:=fun g g1 g2=>⟨g,gr (eE g1) ((hsub g).mpr ⟨fj g1,g2⟩)⟩
    by_cases ho:ap ps i=w
    · obtain ⟨g,hg⟩:=hw i a;exact fin g hg (A.outO i a b ho g hg)
    · obtain ⟨g,g1,g2⟩:=A.outX i a b ho (hw i a);exact fin g g1 g2
  obtain ⟨win,mv,h4,I,hmv⟩:=ih h sub sp sw (fun i hi=>by
    obtain ⟨a,b⟩:=(hsub i).mp hi;refine ⟨a,?_⟩;have:=hmax i a;by_cases z:am ps i=h
    · have:=(A.zero i).mpr ((htop i).mpr ⟨a,z⟩);rw [b] at this;cases this
    · omega) htopx
  have h5:=gZ G (jJ A)
  -- the lists
  have hmarks:bF (aP 0) (fun _=>.ok true) (e2 ce (e2 ce (ae 1) (ae 0)) (eC (.int 1))) [.non,.val (gD ps)] (js.map .int)=.ok ((js.map (am ps)).map .int):=by
    have go:∀ is:List Int,(∀ x∈is,0<=x/\x < ps.length)->bF (aP 0) (fun _=>.ok true) (e2 ce (e2 ce (ae 1) (ae 0)) (eC (.int 1))) [.non,.val (gD ps)] (is.map .int)=.ok ((is.map (am ps)).map .int):=by
      intro is;induction is with
      | nil=>exact fun _=>eA ..
      | cons i is ih' =>
        intro hb;obtain ⟨b0,b1⟩:=hb i List.mem_cons_self;rw [List.map_cons,dw,ih' fun x hx=>hb x (List.mem_cons_of_mem _ hx)];simp only [R.ok_bind,if_true,List.set_cons_zero,bD,ao,av,bX,mr b0 b1,l8];rw [<- eB b0 b1];rfl
    exact go js hj.inn
  have htops:=dh (t:=tE (e2 (gW) (e2 ce (e2 ce (ae 1) (ae 0)) (eC (.int 1))) (ae 2))) (ρ:=[.val (gD ps),.val (.int h)]) (p:=fun i=>decide (am ps i=h)) js fun i hi=>by
    obtain ⟨b0,b1⟩:=hj.inn i hi;simp only [List.set_cons_zero,cC,bD,ao,av,bX,R.ok_bind,mr b0 b1,l8,fL,cT];rw [<- eB b0 b1]
  rw [<- etops] at htops;obtain ⟨lost,elost⟩:∃ lost,lost=(ids ps.length).filter fun i=>decide (kh sub win i=some (1-w)):=⟨_,rfl⟩
  have hlost:∀ i,i∈lost<->i∈sub/\win i=1-w:=fun i=>by
    rw [elost,List.mem_filter,decide_eq_true_iff];unfold kh;constructor
    · rintro ⟨a,b⟩;split at b
      · rename_i z;exact ⟨z,Option.some.inj b⟩
      · cases b
    · rintro ⟨a,b⟩;exact ⟨cE.mpr (sp.inn i a),by rw [if_pos a,b]⟩
  have lp:dM ps.length lost:=by rw [elost];exact (dM.ids _).filter _
  have hlist:=iH (t:=tE (e2 (gW) (ae 1) (ae 2))) (ρ:=[.val (.int (1-w))]) (p:=fun i=>decide (kh sub win i=some (1-w))) (g:=fun i=>oD (kh sub win i)) ps.length 0 fun j _ _=>by
    simp only [cC,bD,av,ao,R.ok_bind,uK,cT]
  rw [lT,<- elost] at hlist;obtain ⟨B,hB⟩:∃ B,B=PyData.tuple [oT (kh sub win) ps.length,oT mv ps.length]:=⟨_,rfl⟩
  rw [<- hB] at h4;have hB0:ce B (.int 0)=.ok (oT (kh sub win) ps.length):=by rw [hB];rfl
  have hB1:ce B (.int 1)=.ok (oT mv ps.length):=by rw [hB];rfl
  -- up to the test
  have pre:∀ {r:R PyData},((bi (pf (tE (e2 (gW) (e1 em (ae 8)) (eC (.int 0)))) (bi (bY 9 (aG aA (ah (aG aZ (ah (ae 0) (ah (ae 3) (ah (ae 6) aJ)))) (ah (e2 ce (ae 7) (eC (.int 1))) aJ)))) (cR (rh c ["who","places","moves"] (ah (ae 3) (ah (ae 1) (ah (aG aA (ah (ae 9) (ah (aG bq (ah (ae 0) (ah (ae 3) (ah (ae 1) aJ)))) aJ))) aJ)))))) eG) (bi (bY 6 (aG cr (ah (ae 0) (ah (ae 1) (ah (ae 4) (ah (ae 8) aJ)))))) (bi (bY 9 (aG aA (ah (aG aZ (ah (ae 0) (ah (ae 4) (ah (ae 6) aJ)))) (ah (aG cD (ah (e2 ce (ae 7) (eC (.int 1))) (ah (ae 8) aJ))) aJ)))) (cR (rh c ["who","places","moves"] (ah (ae 4) (ah (aG ca (ah (ae 6) aJ)) (ah (ae 9) aJ)))))))) [.val (gD ps),.val (.tuple (js.map .int)),.val (.int h),.val (.int w),.val (.int (1-w)),.val (.list (tops.map .int)),.val (oT rk ps.length),.val B,.val (.list (lost.map .int)),.non]>>=BJ)=r->aT c k [gD ps,.tuple (js.map .int)]=r:=fun {r} hr=>by
    unfold aT dI;rw [gE,show ([gD ps,.tuple (js.map .int)].map bh.val++List.replicate (10 - [gD ps,.tuple (js.map .int)].length) bh.non)=[.val (gD ps),.val (.tuple (js.map .int)),.non,.non,.non,.non,.non,.non,.non,.non] from rfl];rw [aI (ρ':=[.val (gD ps),.val (.tuple (js.map .int)),.val (.int h),.non,.non,.non,.non,.non,.non,.non]) (by
      rw [bw,cp,bj,show az 1 [0] [.val (gD ps),.val (.tuple (js.map .int)),.non,.non,.non,.non,.non,.non,.non,.non]=[.non,.val (gD ps)] from rfl];simp only [bT,ao,av,R.ok_bind,cH,cc];rw [if_pos (by rw [List.length_map];exact bC (by omega)),hmarks,jX,R.ok_bind,hmx];rfl)]
    rw [aI (ρ':=[.val (gD ps),.val (.tuple (js.map .int)),.val (.int h),.val (.int w),.non,.non,.non,.non,.non,.non]) (by
      simp only [bw,bD,ao,av,bX,R.ok_bind,sW];rw [if_pos (by decide),<- ew];rfl)]
    rw [aI (ρ':=[.val (gD ps),.val (.tuple (js.map .int)),.val (.int h),.val (.int w),.val (.int (1-w)),.non,.non,.non,.non,.non]) (by
      simp only [bw,bD,ao,av,bX,R.ok_bind,pH];rfl)]
    rw [aI (ρ':=[.val (gD ps),.val (.tuple (js.map .int)),.val (.int h),.val (.int w),.val (.int (1-w)),.val (.list (tops.map .int)),.non,.non,.non,.non]) (by
      rw [bw,bj,show az 1 [0,2] [.val (gD ps),.val (.tuple (js.map .int)),.val (.int h),.val (.int w),.val (.int (1-w)),.non,.non,.non,.non,.non]=[.non,.val (gD ps),.val (.int h)] from rfl];simp only [bT,ao,av,R.ok_bind,cH,cc];rw [if_pos (by rw [List.length_map];exact bC (by omega)),htops];rfl)]
    rw [aI (ρ':=[.val (gD ps),.val (.tuple (js.map .int)),.val (.int h),.val (.int w),.val (.int (1-w)),.val (.list (tops.map .int)),.val (oT rk ps.length),.non,.non,.non]) (by
      simp only [bw,aW,aL,aX,ao,av,R.ok_bind,h1];rfl)]
    rw [aI (ρ':=[.val (gD ps),.val (.tuple (js.map .int)),.val (.int h),.val (.int w),.val (.int (1-w)),.val (.list (tops.map .int)),.val (oT rk ps.length),.val B,.non,.non]) (by
      simp only [bw,aW,aL,aX,ao,av,R.ok_bind,h2,h3];rw [show (js.filter fun i=>!du (iJ rk ps.length) i)=sub from esub.symm,h4];rfl)]
    rw [aI (ρ':=[.val (gD ps),.val (.tuple (js.map .int)),.val (.int h),.val (.int w),.val (.int (1-w)),.val (.list (tops.map .int)),.val (oT rk ps.length),.val B,.val (.list (lost.map .int)),.non]) (by
      rw [bw,bj,show az 2 [4] [.val (gD ps),.val (.tuple (js.map .int)),.val (.int h),.val (.int w),.val (.int (1-w)),.val (.list (tops.map .int)),.val (oT rk ps.length),.val B,.non,.non]=[.non,.non,.val (.int (1-w))] from rfl];simp only [kq,bD,ao,av,bX,R.ok_bind,hB0,cH,cc];rw [if_pos (by rw [fT,bJ];exact bC (by omega))];rw [show de 0 (bZ (fun i=>oD (kh sub win i)) ps.length)=de 0 ((ids ps.length).map fun i=>oD (kh sub win i)) from rfl,hlist];rfl)]
    exact hr
  by_cases hl:lost=[]
  · have hall:∀ i∈sub,win i=w:=fun i hi=>by
      by_cases z:win i=1-w
      · have:=(hlost i).mpr ⟨hi,z⟩;rw [hl] at this;cases this
      · have:=I.two i hi;omega
    have S:=wb hj hw hown ew hmax htop A hsub I hmv hne hall;have h6:=kK G (who:=w) (s:=.tuple (js.map .int)) (.inl rfl) hj fun i hi _=>hw i hi
    refine ⟨_,pre ?_,S,hj⟩;rw [np (d:=ix c ps.length ⟨w,js,dN (dN (la ps w rk) mv) (eR ps w js)⟩) ?_]
    · rfl
    · rw [dU,cC,bD,cp];simp only [ao,av,bX,R.ok_bind,hl,List.map_nil,nI,List.length_nil,fL,cT];rw [if_pos (by decide)];rw [aI (ρ':=[.val (gD ps),.val (.tuple (js.map .int)),.val (.int h),.val (.int w),.val (.int (1-w)),.val (.list (tops.map .int)),.val (oT rk ps.length),.val B,.val (.list []),.val (oT (dN (la ps w rk) mv) ps.length)]) (by
        simp only [bw,aW,aL,aX,bD,bX,ao,av,R.ok_bind,h5,hB1,lN (show ps.length<=1000 by omega)];rfl)]
      unfold rh;simp only [bU,aW,aL,aX,ao,av,R.ok_bind,h6,lN (show ps.length<=1000 by omega)];rfl
  · obtain ⟨rk2,erk2⟩:∃ rk2,rk2=rK ps js (1-w) lost:=⟨_,rfl⟩
    have lsub:∀ x∈lost,x∈js:=fun x hx=>((hsub x).mp ((hlost x).mp hx).1).1
    have B2:sy ps js (1-w) lost rk2:=by rw [erk2];exact uT lp.nd lsub hj.nd hj.len
    have g1:=lu G.hl G.hgo G.hp (s:=.tuple (js.map .int)) (g:=.list (lost.map .int)) (.inl rfl) (.inr rfl) hj lp lsub hw (who:=1-w);rw [<- erk2] at g1;have g2:=kT (f:=rk2) (n:=ps.length) (by omega);have g3:=gZ G (jJ B2);have g4:=qR (f:=mv) (n:=ps.length) (by omega) (s:=.list (lost.map .int)) (js:=lost) (.inr rfl);have S:=si hj hw hown ew hmax htop A hsub I hmv hlost hl B2 (pl:=iJ rk2 ps.length) fun i=>by
      rw [gY];exact ⟨fun z=>z.2,fun ⟨q,hq⟩=>⟨hj.inn i (B2.sub i q hq),q,hq⟩⟩
    have hlen:¬ (lost.length:Int)=0:=by
      have:=List.length_pos_iff.mpr hl;omega
    refine ⟨_,pre ?_,S,mC _ _⟩;rw [aI (ρ':=[.val (gD ps),.val (.tuple (js.map .int)),.val (.int h),.val (.int w),.val (.int (1-w)),.val (.list (tops.map .int)),.val (oT rk ps.length),.val B,.val (.list (lost.map .int)),.non]) (by
      rw [dU,cC,bD,cp];simp only [ao,av,bX,R.ok_bind,nI,List.length_map,fL,cT,decide_eq_false hlen];rfl)]
    rw [aI (ρ':=[.val (gD ps),.val (.tuple (js.map .int)),.val (.int h),.val (.int w),.val (.int (1-w)),.val (.list (tops.map .int)),.val (oT rk2 ps.length),.val B,.val (.list (lost.map .int)),.non]) (by
      simp only [bw,aW,aL,aX,ao,av,R.ok_bind,g1];rfl)]
    rw [aI (ρ':=[.val (gD ps),.val (.tuple (js.map .int)),.val (.int h),.val (.int w),.val (.int (1-w)),.val (.list (tops.map .int)),.val (oT rk2 ps.length),.val B,.val (.list (lost.map .int)),.val (oT (dN (la ps (1-w) rk2) fun i=>if i∈lost then mv i else none) ps.length)]) (by
      simp only [bw,aW,aL,aX,bD,bX,ao,av,R.ok_bind,g3,hB1,g4,lN (show ps.length<=1000 by omega)];rfl)]
    unfold rh;simp only [bU,aW,aL,aX,ao,av,R.ok_bind,g2];rfl
end
noncomputable def u8 (c:Addr) (k:Nat):Fs:=(bi (bY 4 (aG (aT c k) (ah (ae 0) (ah (ae 3) aJ)))) (bi (ji 2 (ae 4)) (bY 3 (aG bK (ah (ae 3) (ah (e1 (jQ c "places") (ae 4)) aJ))))))
noncomputable abbrev lR (ps:List P4) (c:Addr) (s:PyData) (acc:List Sh) (js:List Int) (c4:bh):aS :=
  [.val (gD ps),.val s,.own (.list (acc.map (ix c ps.length))),.val (.tuple (js.map .int)),c4]
theorem Bd {ps:List P4} (G:Gr ps) {c:Addr} {kk:Nat} {s0:PyData} {Pm:Int->Prop} (hown:∀ i,Pm i->ap ps i=0\/ap ps i=1) (hS:∀ js,dM ps.length js->fK ps js->js≠[]->(∀ i∈js,Pm i)->∃ s,aT c kk [gD ps,.tuple (js.map .int)]=.ok (ix c ps.length s)/\gq ps js s/\dM ps.length s.pl) :
    ∀ (k n:Nat) (js:List Int) (acc:List Sh) (c4:bh),dM ps.length js->fK ps js->(∀ i∈js,Pm i)->js.length<=k->k+1<=n->acc.length+k<=1000 ->
    ∃ l c4' win mv,dm (tE (e2 (gi tt) (e1 em (ae 3)) (eC (.int 0)))) (u8 c kk) n (lR ps c s0 acc js c4)=.ok (.nx (lR ps c s0 (acc++l) [] c4'))/\(∀ f i,lc f l i=if i∈js then some (win i) else f i)/\(∀ m i,(i∈js->m i=none)->rM m l i=if i∈js then mv i else m i)/\oZ ps js win mv/\∀ s∈l,∀ x∈s.pl,0<=x/\x < ps.length
  | k,0,js,acc,c4,_,_,_,_,h,_=>by omega
  | k,n+1,js,acc,c4,hj,hw,hm,hk,hn,hz=>by
    have hp:=G.hp;rw [iG];have ht:tE (e2 (gi tt) (e1 em (ae 3)) (eC (.int 0))) (lR ps c s0 acc js c4)=.ok (decide (0 < js.length)):=by
      simp only [cC,bD,cp,av,ao,bX,R.ok_bind,kB,kM,cT,List.length_map];congr 1;simp
    rw [ht,R.ok_bind];by_cases h0:js=[]
    · subst h0;refine ⟨[],c4,fun _=>0,fun _=>none,by rw [List.append_nil];rfl,fun f i=>by simp [lc],fun m i _=>by simp [rM],AD _ _,fun s hs=>by cases hs⟩
    · have hpos:=List.length_pos_iff.mpr h0;rw [if_pos (decide_eq_true hpos)];cases k with
      | zero=>omega
      | succ k =>
        obtain ⟨s,h1,S,sp⟩:=hS js hj hw h0 hm;have hl:(gX js s.pl).length < js.length:=by
          obtain ⟨i,hi⟩:=List.exists_mem_of_ne_nil _ S.ne;refine Nat.lt_of_le_of_ne (List.length_filter_le ..) fun z=>?_
          have:=(gJ _ js).mp z i (S.sub i hi);rw [cM.mpr hi] at this;cases this
        obtain ⟨l,c4',win,mv,e,q1,q2,I,q3⟩:=Bd G hown hS k n (gX js s.pl) (acc++[s]) (.val (ix c ps.length s)) (hj.filter _) (S.whole hw) (fun i hi=>hm i (bA.mp hi).1) (by omega) (by omega) (by simp;omega);have h2:=nv (s:=.tuple (js.map .int)) (t:=.tuple (s.pl.map .int)) (.inl rfl) (.inl rfl) (by have:=hj.len;omega);have hb:u8 c kk (lR ps c s0 acc js c4)=.ok (.nx (lR ps c s0 (acc++[s]) (gX js s.pl) (.val (ix c ps.length s)))):=by
          unfold u8;rw [aI (ρ':=lR ps c s0 acc js (.val (ix c ps.length s))) (by
            simp only [bw,aW,aL,aX,ao,av,R.ok_bind,h1];rfl)]
          rw [aI (ρ':=lR ps c s0 (acc++[s]) js (.val (ix c ps.length s))) (by
            rw [vo (ds:=acc.map (ix c ps.length)) (ae 4) rfl (Nat.lt_of_lt_of_le (show _ < 1001 by rw [List.length_map];omega) (by decide))];simp only [ao,av,cc,R.ok_bind];rw [show acc.map (ix c ps.length)++[ix c ps.length s]=(acc++[s]).map (ix c ps.length) by simp];rfl)]
          simp only [bw,aW,aL,aX,cp,ao,av,R.ok_bind,mn,h2];rfl
        refine ⟨s::l,c4',fun i=>if i∈s.pl then s.w else win i,fun i=>if i∈s.pl then s.mv i else mv i,?_,fun f i=>?_,fun m i hmi=>?_,yr (fun i hi=>hown i (hm i hi)) S I,fun t ht' x hx=>?_⟩
        · rw [hb,R.ok_bind,dD,e];simp
        · show lc (x9 s f) l i=_;rw [q1];by_cases hi:i∈js
          · rw [if_pos hi];dsimp only;by_cases hs:i∈s.pl
            · rw [if_neg fun z=>(bA.mp z).2 hs,if_pos hs];exact if_pos hs
            · rw [if_pos (bA.mpr ⟨hi,hs⟩),if_neg hs]
          · rw [if_neg fun z=>hi (bA.mp z).1,if_neg hi];exact if_neg fun z=>hi (S.sub i z)
        · show rM (dN m s.mv) l i=_;rw [q2 (dN m s.mv) i fun z=>by
            obtain ⟨z1,z2⟩:=bA.mp z;show (m i).or _=none;rw [hmi z1,Option.none_or,S.non i (.inl z2)]]
          by_cases hi:i∈js
          · rw [if_pos hi];dsimp only;by_cases hs:i∈s.pl
            · rw [if_neg fun z=>(bA.mp z).2 hs,if_pos hs];show (m i).or _=_;rw [hmi hi,Option.none_or]
            · rw [if_pos (bA.mpr ⟨hi,hs⟩),if_neg hs]
          · rw [if_neg fun z=>hi (bA.mp z).1,if_neg hi];show (m i).or _=_;rw [S.non i (.inl fun z=>hi (S.sub i z)),Option.or_none]
        · rcases List.mem_cons.mp ht' with rfl | z
          · exact sp.inn x hx
          · exact q3 t z x hx
theorem oZ.congr {ps:List P4} {js:List Int} {win:Int->Int} {mv mv':Int->Option Int} (h:oZ ps js win mv) (e:∀ i∈js,mv' i=mv i):oZ ps js win mv':=by
  refine ⟨h.two,fun i hi ho=>by rw [e i hi];exact h.has i hi ho,fun i hi ho=>by rw [e i hi];exact h.non i hi ho,fun i hi g hg=>h.stay i hi g (jt (e i hi) hg),fun i hi hm hp=>h.good i hi hm ?_⟩;exact hp.imp (fun y a b=>⟨jt (e i hi) a,b⟩) fun x y ax a b=>⟨jt (e x ax.1) a,b⟩
theorem oo {ps:List P4} (G:Gr ps) {c:Addr} {k:Nat} {Pm:Int->Prop} (hown:∀ i,Pm i->ap ps i=0\/ap ps i=1) (hS:∀ js,dM ps.length js->fK ps js->js≠[]->(∀ i∈js,Pm i)->∃ s,aT c k [gD ps,.tuple (js.map .int)]=.ok (ix c ps.length s)/\gq ps js s/\dM ps.length s.pl) {js:List Int} (hj:dM ps.length js) (hw:fK ps js) (hm:∀ i∈js,Pm i) :
    ∃ win mv,aD c (k+1) [gD ps,.tuple (js.map .int)]=.ok (.tuple [oT (kh js win) ps.length,oT mv ps.length])/\oZ ps js win mv/\∀ i,i∉js->mv i=none:=by
  have hp:=G.hp;have hjl:=hj.len;obtain ⟨l,c4,win,mv,e,q1,q2,I,q3⟩:=Bd G (c:=c) (s0:=.tuple (js.map .int)) hown hS js.length 1000000 js [] .non hj hw hm (Nat.le_refl _) (by omega) (by simp;omega);rw [List.nil_append] at e;have h3:=Ej (ps:=ps) (by omega) (c:=c) q3;have e1':oT (lc (fun _=>none) l) ps.length=oT (kh js win) ps.length:=congrArg PyData.tuple (cB fun i _ _=>by rw [q1];rfl);have e2':oT (rM (fun _=>none) l) ps.length=oT (fun i=>if i∈js then mv i else none) ps.length:=congrArg PyData.tuple (cB fun i _ _=>by rw [q2 _ i fun _=>rfl]);rw [e1',e2'] at h3;refine ⟨win,fun i=>if i∈js then mv i else none,?_,I.congr fun i hi=>if_pos hi,fun i hi=>if_neg hi⟩;show dP 5 (dG (aT c k) (aV c) bK c) _=_;unfold dG;refine dO ?_;rw [show ([gD ps,.tuple (js.map .int)].map bh.val++List.replicate (5 - [gD ps,.tuple (js.map .int)].length) bh.non)=[.val (gD ps),.val (.tuple (js.map .int)),.non,.non,.non] from rfl];rw [aI (ρ':=[.val (gD ps),.val (.tuple (js.map .int)),.own (.list []),.non,.non]) (by rfl)];rw [aI (ρ':=lR ps c (.tuple (js.map .int)) [] js .non) (by rfl)];rw [aI (ρ':=lR ps c (.tuple (js.map .int)) l [] c4) (by
    rw [fg];show lS (dm (tE (e2 (gi tt) (e1 em (ae 3)) (eC (.int 0)))) (u8 c k) 1000000 _)=_;rw [e];rfl)]
  unfold Es;show cR _ ((lR ps c (.tuple (js.map .int)) l [] c4).set 2 (.val (.list (l.map (ix c ps.length)))))=_;simp only [List.set_cons_succ,List.set_cons_zero,bU,aW,aL,aX,ao,av,R.ok_bind,h3]
theorem oh {ps:List P4} (G:Gr ps) {c:Addr}:∀ (k:Nat) (js:List Int),dM ps.length js->fK ps js->(∀ i∈js,(ap ps i=0\/ap ps i=1)/\0<=am ps i/\am ps i < k) ->
    ∃ win mv,aD c (k+1) [gD ps,.tuple (js.map .int)]=.ok (.tuple [oT (kh js win) ps.length,oT mv ps.length])/\oZ ps js win mv/\∀ i,i∉js->mv i=none
  | 0,js,hj,hw,hm=>oo G (c:=c) (Pm:=fun i=>(ap ps i=0\/ap ps i=1)/\0<=am ps i/\am ps i < (0:Nat)) (fun i h=>h.1) (fun js' _ _ hne h=>by
      obtain ⟨i,hi⟩:=List.exists_mem_of_ne_nil _ hne;have:=(h i hi).2;omega) hj hw hm
  | k+1,js,hj,hw,hm=>oo G (c:=c) (Pm:=fun i=>(ap ps i=0\/ap ps i=1)/\0<=am ps i/\am ps i < ((k+1:Nat):Int)) (fun i h=>h.1) (fun js' hj' hw' hne h=>yU G hj' hw' hne (fun i hi=>(h i hi).1) fun hh sub sp sw hs ⟨i0,hi0,e0⟩=>oh G k sub sp sw fun i hi=>by
      obtain ⟨a,b⟩:=hs i hi;have h1:=h i a;have h2:=(h i0 hi0).2.2;exact ⟨h1.1,h1.2.1,by omega⟩) hj hw hm
theorem Cu {ps:List P4} (G:Gr ps) (hw:fK ps (ids ps.length)) {c:Addr} (hm:∀ i∈ids ps.length,(ap ps i=0\/ap ps i=1)/\0<=am ps i/\am ps i < 13) :
    ∃ win mv,jV c [gD ps]=.ok (.tuple [oT (fun i=>some (win i)) ps.length,oT mv ps.length])/\oZ ps (ids ps.length) win mv/\∀ i,i∉ids ps.length->mv i=none:=by
  obtain ⟨win,mv,e,I,q⟩:=oh G (c:=c) 13 (ids ps.length) (dM.ids _) hw hm;refine ⟨win,mv,?_,I,q⟩;have h2:=nV (ps:=ps) (by have:=G.hp;omega);have e':oT (kh (ids ps.length) win) ps.length=oT (fun i=>some (win i)) ps.length:=congrArg PyData.tuple (cB fun i h0 h1=>by unfold kh;rw [if_pos (cE.mpr ⟨h0,h1⟩)]);rw [e'] at e;unfold jV xL;refine dO ?_;rw [show ([gD ps].map bh.val++List.replicate (1 - [gD ps].length) bh.non)=[.val (gD ps)] from rfl];simp only [bU,aW,aL,aX,ao,R.ok_bind,h2,e]
noncomputable def k0 (ps:List P4) (i:Int):PyData:=(ps[i.toNat]?.map P4.d).getD .none
theorem BC (ps:List P4):ps.map P4.d=bZ (k0 ps) ps.length:=by
  refine List.ext_getElem (by rw [List.length_map,bJ]) fun k h1 h2=>?_
  rw [bJ] at h2;have e:=gu (f:=k0 ps) (n:=ps.length) (i:=(k:Int)) (by omega) (by omega);simp only [Int.toNat_natCast] at e;rw [e,List.getElem_map];unfold k0;rw [List.getElem?_eq_getElem (by omega)];simp
theorem pT {n d e:Nat} (h:e<=n):HT.sIx n d (some (e:Int))=e:=by
  unfold HT.sIx;have h0:¬ ((e:Nat):Int) < 0:=by omega
  simp only [h0,if_false];simp;omega
theorem mL (n d:Nat):HT.sIx n d none=d:=by
  unfold HT.sIx;rfl
theorem xE {ds:List PyData} {e:Nat} (h:e<=ds.length):D2.nh ds none (some (e:Int))=ds.take e:=by
  unfold D2.nh;rw [pT h,mL];simp
theorem BE {ds:List PyData} {e:Nat} (h:e<=ds.length):D2.nh ds (some (e:Int)) none=ds.drop e:=by
  unfold D2.nh;rw [pT h,mL];rw [List.take_of_length_le (by rw [List.length_drop];omega)]
noncomputable def BK (nx:Int->Int) (s:Int):Nat->Int
  | 0=>s
  | k+1=>nx (BK nx s k)
theorem Dj {n:Nat} {S:Int->Prop} {nx:Int->Int} (hS:∀ x,S x->x∈ids n) (hn:∀ x,S x->S (nx x)) {s:Int} (hs:S s):∃ x,S x/\iQ (fun a b=>b=nx a) S x x:=by
  have all:∀ k,S (BK nx s k):=fun k=>by
    induction k with
    | zero=>exact hs
    | succ k ih=>exact hn _ ih
  have path:∀ p d,iQ (fun a b=>b=nx a) S (BK nx s p) (BK nx s (p+d+1)):=fun p d=>by
    induction d with
    | zero=>exact .one rfl (all (p+1))
    | succ d ih=>exact .more ih rfl (all (p+d+1+1))
  by_cases h:∃ p q,p < q/\q<=n/\BK nx s p=BK nx s q
  · obtain ⟨p,q,hpq,_,e⟩:=h;have:=path p (q-p-1);rw [show p+(q-p-1)+1=q by omega,<- e] at this;exact ⟨_,all p,this⟩
  · exfalso;have nd:((List.range (n+1)).map (BK nx s)).Nodup:=by
      unfold List.Nodup;rw [List.pairwise_map];exact List.Pairwise.imp_of_mem (fun {a b} _ hb hab e=>h ⟨a,b,hab,by have:=List.mem_range.mp hb;omega,e⟩) List.pairwise_lt_range
    have:=gP nd (m:=ids n) fun x hx=>by
      obtain ⟨k,_,rfl⟩:=List.mem_map.mp hx;exact hS _ (all k)
    rw [List.length_map,List.length_range,eN] at this;omega
theorem iQ.trans {E:Int->Int->Prop} {al:Int->Prop} {s x t:Int} (h1:iQ E al s x) (h2:iQ E al x t):iQ E al s t:=by
  induction h2 with
  | one a b=>exact .more h1 a b
  | more _ a b ih=>exact .more ih a b
theorem yf {E:Int->Int->Prop} {al:Int->Prop} {μ:Int->Int} (b:Int) {s t:Int} (h:iQ E al s t):iQ E (fun x=>al x/\μ x<=b) s t\/∃ y,b < μ y/\iQ E al s y/\(y=t\/iQ E al y t):=by
  induction h with
  | one a c =>
    rename_i x;by_cases z:μ x<=b
    · exact .inl (.one a ⟨c,z⟩)
    · exact .inr ⟨x,by omega,.one a c,.inl rfl⟩
  | more r a c ih =>
    rename_i x y;rcases ih with z | ⟨u,u1,u2,u3⟩
    · by_cases q:μ y<=b
      · exact .inl (.more z a ⟨c,q⟩)
      · exact .inr ⟨y,by omega,.more r a c,.inl rfl⟩
    · refine .inr ⟨u,u1,u2,.inr ?_⟩;rcases u3 with rfl | u3
      · exact .one a c
      · exact .more u3 a c
theorem qW {E:Int->Int->Prop} {al:Int->Prop} {μ:Int->Int} {B:Int} (hB:∀ x,al x->μ x<=B):∀ (k:Nat) (x:Int),(B - μ x).toNat<=k->iQ E al x x->∃ y,al y/\iQ E (fun z=>al z/\μ z<=μ y) y y
  | k,x,hk,h=>by
    rcases yf (μ:=μ) (μ x) h with z | ⟨y,y1,y2,y3⟩
    · exact ⟨x,h.al,z⟩
    · have hy:=hB y y2.al;cases k with
      | zero=>omega
      | succ k =>
        refine qW hB k y (by omega) ?_;rcases y3 with rfl | y3
        · exact y2
        · exact y3.trans y2
theorem yH {ps:List P4} {B:Int} (hB:∀ i∈ids ps.length,am ps i<=B) (hown:∀ i∈ids ps.length,ap ps i=0\/ap ps i=1) (hgo:∀ i∈ids ps.length,∀ g∈aU ps i,g∈ids ps.length) {win:Int->Int} {mv:Int->Option Int} (I:oZ ps (ids ps.length) win mv) {F:Int->Prop} (hF:∀ i,F i->i∈ids ps.length) {φ:Int->Int->Int}
    (h0:∀ i,F i->ap ps i=0->∃ g∈aU ps i,F g/\∀ m,m%2=1->am ps i<=m->φ m g<=φ m i/\(am ps i=m->φ m g < φ m i))
    (h1:∀ i,F i->ap ps i=1->∀ g∈aU ps i,F g/\∀ m,m%2=1->am ps i<=m->φ m g<=φ m i/\(am ps i=m->φ m g < φ m i)):∀ i,F i->win i=0:=fun i hi=>by
  by_cases he:win i=0
  · exact he
  exfalso;have hwi:win i=1:=(I.two i (hF i hi)).resolve_left he;have step:∀ x,F x/\win x=1->∃ g,Wy ps (ids ps.length) 1 mv x g/\F g/\∀ m,m%2=1->am ps x<=m->φ m g<=φ m x/\(am ps x=m->φ m g < φ m x):=fun x ⟨hx,hwx⟩=>by
    have hxi:=hF x hx;by_cases z:ap ps x=1
    · obtain ⟨g,g1,g2⟩:=I.has x hxi (by rw [z,hwx]);obtain ⟨f1,f2⟩:=h1 x hx z g g2;exact ⟨g,.inl ⟨z,g1⟩,f1,f2⟩
    · obtain ⟨g,g1,g2,g3⟩:=h0 x hx ((hown x hxi).resolve_right z);exact ⟨g,.inr ⟨z,gr g1 (hgo x hxi g g1)⟩,g2,g3⟩
  obtain ⟨nx,hnx⟩:∃ nx:Int->Int,∀ x,F x/\win x=1->Wy ps (ids ps.length) 1 mv x (nx x)/\F (nx x)/\∀ m,m%2=1->am ps x<=m->φ m (nx x)<=φ m x/\(am ps x=m->φ m (nx x) < φ m x) :=
    ⟨fun x=>open Classical in if h:F x/\win x=1 then (step x h).choose else 0,fun x h=>by
      dsimp only;rw [dif_pos h];exact (step x h).choose_spec⟩
  have stay:∀ x,F x/\win x=1->F (nx x)/\win (nx x)=1:=fun x h=>by
    obtain ⟨a,b,_⟩:=hnx x h;exact ⟨b,(I.stay x (hF x h.1) (nx x) (by rw [h.2];exact a)).2.trans h.2⟩
  obtain ⟨x,hx,hp⟩:=Dj (n:=ps.length) (S:=fun x=>F x/\win x=1) (nx:=nx) (fun x h=>hF x h.1) stay ⟨hi,hwi⟩;obtain ⟨y,hy,hq⟩:=qW (μ:=am ps) (B:=B) (fun x h=>hB x (hF x h.1)) (B-am ps x).toNat x (Nat.le_refl _) hp;by_cases hpar:am ps y%2=1
  · have:=hq.less (φ:=φ (am ps y)) (fun z e _=>by subst e;exact ((hnx y hy).2.2 _ hpar (Int.le_refl _)).2 rfl) fun u z au e _=>by subst e;exact ((hnx u au.1).2.2 _ hpar au.2).1
    omega
  · refine I.good y (hF y hy.1) (by rw [hy.2];exact hpar) ?_;rw [hy.2];exact hq.imp (fun z e a=>⟨by subst e;exact (hnx y hy).1,hF z a.1.1,a.1.2,a.2⟩) fun u z au e a=>⟨by subst e;exact (hnx u au.1).1,hF z a.1.1,a.1.2,a.2⟩
inductive vm (ps:List P4) (E:Int->Int->Prop) (S:Int->Prop) (p:Int):Int->Nat->Prop
  | zero (i:Int):vm ps E S p i 0
  | pass {i g:Int} {k:Nat}:S i->am ps i < p->E i g->vm ps E S p g k->vm ps E S p i k
  | hit {i g:Int} {k:Nat}:S i->am ps i=p->E i g->vm ps E S p g k->vm ps E S p i (k+1)
theorem vm.here {ps:List P4} {E:Int->Int->Prop} {S:Int->Prop} {p i:Int} {k:Nat} (h:vm ps E S p i k) (hk:0 < k):S i/\am ps i<=p:=by
  cases h with
  | zero=>omega
  | pass a b _ _=>exact ⟨a,by omega⟩
  | hit a b _ _=>exact ⟨a,by omega⟩
theorem vm.row {ps:List P4} {E:Int->Int->Prop} {S:Int->Prop} {p i:Int} {k:Nat} (h:vm ps E S p i k):∃ l:List Int,l.length=k/\(∀ x∈l,S x/\am ps x=p)/\(∀ x∈l,x=i\/iQ E (fun z=>S z/\am ps z<=p) i x)/\l.Pairwise (iQ E fun z=>S z/\am ps z<=p):=by
  induction h with
  | zero i=>exact ⟨[],rfl,by simp,by simp,.nil⟩
  | pass a b e c ih =>
    rename_i i g k;obtain ⟨l,l1,l2,l3,l4⟩:=ih;refine ⟨l,l1,l2,fun x hx=>.inr ?_,l4⟩;have hg:=c.here (by rw [<- l1];exact List.length_pos_of_mem hx);rcases l3 x hx with rfl | z
    · exact .one e hg
    · exact (iQ.one e hg).trans z
  | hit a b e c ih =>
    rename_i i g k;obtain ⟨l,l1,l2,l3,l4⟩:=ih;have to:∀ x∈l,iQ E (fun z=>S z/\am ps z<=p) i x:=fun x hx=>by
      have hg:=c.here (by rw [<- l1];exact List.length_pos_of_mem hx);rcases l3 x hx with rfl | z
      · exact .one e hg
      · exact (iQ.one e hg).trans z
    refine ⟨i::l,by rw [List.length_cons,l1],fun x hx=>?_,fun x hx=>?_,List.pairwise_cons.mpr ⟨to,l4⟩⟩
    · rcases List.mem_cons.mp hx with rfl | z
      · exact ⟨a,b⟩
      · exact l2 x z
    · rcases List.mem_cons.mp hx with rfl | z
      · exact .inl rfl
      · exact .inr (to x z)
noncomputable def B6 (ps:List P4) (js:List Int) (mv:Int->Option Int):Int->Int->Prop:=Wy ps js 0 mv
noncomputable def iu (ps:List P4) (js:List Int) (p:Int):Nat:=(js.filter fun i=>decide (am ps i=p)).length
theorem yw {ps:List P4} {js:List Int} {win:Int->Int} {mv:Int->Option Int} (I:oZ ps js win mv) {p i:Int} (hp:p%2=1) {k:Nat} (h:vm ps (B6 ps js mv) (fun x=>x∈js/\win x=0) p i k):k<=iu ps js p:=by
  obtain ⟨l,l1,l2,_,l4⟩:=h.row;rw [<- l1];refine gP ?_ fun x hx=>List.mem_filter.mpr ⟨(l2 x hx).1.1,decide_eq_true (l2 x hx).2⟩
  refine List.Pairwise.imp_of_mem (fun {x y} hx hy hxy e=>?_) l4;subst e;obtain ⟨⟨a1,a2⟩,a3⟩:=l2 x hx;refine I.good x a1 (by rw [a2,a3];omega) ?_;rw [a2];exact hxy.imp (fun z e a=>⟨e,a.1.1,a.1.2,by rw [a3];exact a.2⟩) fun u z _ e a=>⟨e,a.1.1,a.1.2,by rw [a3];exact a.2⟩
theorem CL {ps:List P4} {js:List Int} {win:Int->Int} {mv:Int->Option Int} (I:oZ ps js win mv):∃ K:Int->Int->Nat,(∀ p i,p%2=1->K p i<=iu ps js p) /\
    ∀ p i g,p%2=1->i∈js->win i=0->Wy ps js 0 mv i g->am ps i<=p->K p g<=K p i/\(am ps i=p->K p g+1<=K p i):=by
  have mx:∀ (P:Nat->Prop) (b:Nat),P 0->(∀ k,P k->k<=b)->∃ k,P k/\∀ k',P k'->k'<=k:=fun P b=>by
    induction b with
    | zero=>exact fun h0 hb=>⟨0,h0,hb⟩
    | succ b ih =>
      intro h0 hb;by_cases h:P (b+1)
      · exact ⟨b+1,h,hb⟩
      · exact ih h0 fun k hk=>by
          have:=hb k hk;by_cases e:k=b+1
          · subst e;exact (h hk).elim
          · omega
  have ex:∀ p i,∃ k,p%2=1->vm ps (B6 ps js mv) (fun x=>x∈js/\win x=0) p i k/\∀ k',vm ps (B6 ps js mv) (fun x=>x∈js/\win x=0) p i k'->k'<=k:=fun p i=>by
    by_cases hp:p%2=1
    · obtain ⟨k,a,b⟩:=mx _ (iu ps js p) (vm.zero i) fun k hk=>yw I hp hk
      exact ⟨k,fun _=>⟨a,b⟩⟩
    · exact ⟨0,fun z=>(hp z).elim⟩
  refine ⟨fun p i=>(ex p i).choose,fun p i hp=>yw I hp ((ex p i).choose_spec hp).1,fun p i g hp hi hwi hg hm=>?_⟩;have Sg:=(ex p g).choose_spec hp;have Si:=(ex p i).choose_spec hp;show (ex p g).choose<=(ex p i).choose/\(am ps i=p->(ex p g).choose+1<=(ex p i).choose)
  by_cases e:am ps i=p
  · have:=Si.2 _ (.hit ⟨hi,hwi⟩ e hg Sg.1);exact ⟨by omega,fun _=>this⟩
  · have:=Si.2 _ (.pass ⟨hi,hwi⟩ (by omega) hg Sg.1);exact ⟨this,fun z=>(e z).elim⟩
noncomputable def sz:List Int->Int
  | []=>1
  | m::ms=>(m+1)*sz ms
noncomputable def dg:List Int->Int->List Int
  | [],_=>[]
  | _::ms,v=>(v / sz ms)::dg ms (v%sz ms)
noncomputable def NN (ms:List Int):Prop:=∀ m∈ms,0<=m
theorem NN.tail {m:Int} {ms:List Int} (h:NN (m::ms)):NN ms:=fun x hx=>h x (List.mem_cons_of_mem _ hx)
theorem NN.head {m:Int} {ms:List Int} (h:NN (m::ms)):0<=m:=h m List.mem_cons_self
theorem eK:∀ {ms:List Int},NN ms->0 < sz ms
  | [],_=>by decide
  | m::ms,h=>Int.mul_pos (by have:=h.head;omega) (eK h.tail)
theorem NN.drop {ms:List Int} (h:NN ms) (k:Nat):NN (ms.drop k):=fun x hx=>h x (List.mem_of_mem_drop hx)
theorem NN.take {ms:List Int} (h:NN ms) (k:Nat):NN (ms.take k):=fun x hx=>h x (List.mem_of_mem_take hx)
theorem oa:∀ (a b:List Int),sz (a++b)=sz a*sz b
  | [],b=>by show sz b=1*sz b;rw [Int.one_mul]
  | m::a,b=>by
    show (m+1)*sz (a++b)=(m+1)*sz a*sz b;rw [oa a b,Int.mul_assoc]
theorem cG:∀ (ms:List Int) (v:Int),(dg ms v).length=ms.length
  | [],_=>rfl
  | m::ms,v=>by
    show (dg ms (v%sz ms)).length+1=ms.length+1;rw [cG]
theorem qr {B v:Int} (hB:0 < B):v=v / B*B+v%B/\0<=v%B/\v%B < B:=by
  have h1:=Int.emod_add_mul_ediv v B;have h2:=Int.emod_nonneg v (show B≠0 by omega);have h3:=Int.emod_lt_of_pos v hB;rw [Int.mul_comm (v / B) B];exact ⟨by omega,h2,h3⟩
theorem ft {a b B:Int} (hB:0 < B) (h:a < b):a*B+B<=b*B:=by
  have:=Int.mul_le_mul_of_nonneg_right (show a+1<=b by omega) (Int.le_of_lt hB);rw [Int.add_mul,Int.one_mul] at this;exact this
theorem wQ:∀ {ms:List Int},NN ms->∀ {v u:Int},0<=v->v < sz ms->0<=u->u < sz ms->HT.lexLt (dg ms v) (dg ms u)=decide (v < u)
  | [],_,v,u,v0,v1,u0,u1=>by
    have e:sz []=1:=rfl;rw [e] at v1 u1;have:¬ v < u:=by omega
    rw [decide_eq_false this];rfl
  | m::ms,h,v,u,v0,v1,u0,u1=>by
    have hB:=eK h.tail;obtain ⟨a1,a2,a3⟩:=qr (v:=v) hB;obtain ⟨b1,b2,b3⟩:=qr (v:=u) hB;show HT.lexLt (v / sz ms::dg ms (v%sz ms)) (u / sz ms::dg ms (u%sz ms))=_;rw [HT.lexLt_cons];by_cases e:v / sz ms=u / sz ms
    · rw [if_pos e,wQ h.tail a2 a3 b2 b3];rw [e] at a1;by_cases z:v%sz ms < u%sz ms
      · rw [decide_eq_true z,decide_eq_true (by omega)]
      · rw [decide_eq_false z,decide_eq_false (by omega)]
    · rw [if_neg e];by_cases z:v / sz ms < u / sz ms
      · have:=ft hB z;rw [decide_eq_true z,decide_eq_true (by omega)]
      · have:=ft hB (show u / sz ms < v / sz ms by omega);rw [decide_eq_false z,decide_eq_false (by omega)]
theorem uw:∀ r:List Int,HT.lexLt r r=false
  | []=>rfl
  | x::r=>by rw [HT.lexLt_cons,if_pos rfl];exact uw r
theorem km:∀ {ms:List Int},NN ms->∀ {v:Int},0<=v->v < sz ms->∀ k (hk:k < ms.length),0<=(dg ms v)[k]'(by rw [cG];exact hk)/\(dg ms v)[k]'(by rw [cG];exact hk)<=ms[k]
  | [],_,v,_,_,k,hk=>by simp at hk
  | m::ms,h,v,v0,v1,k,hk=>by
    have hB:=eK h.tail;obtain ⟨a1,a2,a3⟩:=qr (v:=v) hB;cases k with
    | zero =>
      show 0<=v / sz ms/\v / sz ms<=m;have q0:0<=v / sz ms:=Int.ediv_nonneg v0 (Int.le_of_lt hB);refine ⟨q0,?_⟩;have e:sz (m::ms)=(m+1)*sz ms:=rfl;by_cases z:v / sz ms<=m
      · exact z
      · have:=ft hB (show m < v / sz ms by omega);rw [e,Int.add_mul,Int.one_mul] at v1;omega
    | succ k=>exact km h.tail a2 a3 k (by simpa using hk)
noncomputable def fl (S v:Int):Int:=v / S*S
theorem yV {S v:Int} (hS:0 < S):fl S v<=v/\v < fl S v+S:=by
  obtain ⟨a,b,c⟩:=qr (v:=v) hS;unfold fl;omega
theorem mX {S T q r:Int} (hS:0 < S):fl S (q*(T*S)+r)=q*(T*S)+fl S r:=by
  unfold fl;rw [show q*(T*S)+r=r+q*T*S by rw [Int.mul_assoc];omega,Int.add_mul_ediv_right _ _ (by omega),Int.add_mul,Int.mul_assoc];omega
theorem Bm {S T r:Int} (hS:0 < S) (hT:0 < T) (h0:0<=r) (h1:r < T*S):0<=fl S r/\fl S r < T*S:=by
  have:=yV (v:=r) hS;refine ⟨?_,by omega⟩;unfold fl;exact Int.mul_nonneg (Int.ediv_nonneg h0 (Int.le_of_lt hS)) (Int.le_of_lt hS)
theorem wX {m:Int} {ms:List Int} (h:NN (m::ms)) {q r:Int} (r0:0<=r) (r1:r < sz ms):dg (m::ms) (q*sz ms+r)=q::dg ms r:=by
  have hB:=eK h.tail;show (q*sz ms+r) / sz ms::dg ms ((q*sz ms+r)%sz ms)=_;rw [show q*sz ms+r=r+q*sz ms by omega,Int.add_mul_ediv_right _ _ (by omega),Int.add_mul_emod_self_right,Int.ediv_eq_zero_of_lt r0 r1,Int.emod_eq_of_lt r0 r1,Int.zero_add]
theorem lV:∀ {ms:List Int},NN ms->dg ms 0=List.replicate ms.length 0
  | [],_=>rfl
  | m::ms,h=>by
    show 0 / sz ms::dg ms (0%sz ms)=0::List.replicate ms.length 0;rw [Int.zero_ediv,Int.zero_emod,lV h.tail]
theorem tF (ms:List Int) (k:Nat):sz ms=sz (ms.take k)*sz (ms.drop k):=by
  rw [<- oa,List.take_append_drop]
theorem uE:∀ {ms:List Int},NN ms->∀ {v:Int},0<=v->v < sz ms->∀ L,L<=ms.length->(dg ms v).take L++List.replicate (ms.length-L) 0=dg ms (fl (sz (ms.drop L)) v)
  | ms,h,v,v0,v1,0,_=>by
    have e:fl (sz (ms.drop 0)) v=0:=by
      unfold fl;rw [List.drop_zero,Int.ediv_eq_zero_of_lt v0 v1,Int.zero_mul]
    rw [e,lV h];simp
  | [],h,v,v0,v1,L+1,hL=>by simp at hL
  | m::ms,h,v,v0,v1,L+1,hL=>by
    have hB:=eK h.tail;obtain ⟨a1,a2,a3⟩:=qr (v:=v) hB;have hL':L<=ms.length:=by simpa using hL
    have ih:=uE h.tail a2 a3 L hL';have hS:=eK (h.tail.drop L);have hT:=eK (h.tail.take L);have hc:=tF ms L;have e1:fl (sz (ms.drop L)) v=v / sz ms*sz ms+fl (sz (ms.drop L)) (v%sz ms):=by
      conv=>lhs;rw [a1]
      rw [hc];exact mX hS
    obtain ⟨f0,f1⟩:=Bm hS hT a2 (by rw [<- hc];exact a3);show v / sz ms::((dg ms (v%sz ms)).take L++List.replicate (ms.length+1-(L+1)) 0)=dg (m::ms) (fl (sz (ms.drop L)) v);rw [<- hc] at f1;rw [e1,wX h f0 f1,<- ih,show ms.length+1-(L+1)=ms.length-L by omega]
theorem A3:∀ {ms:List Int},NN ms->∀ {v:Int},0<=v->v < sz ms->∀ k (hk:k < ms.length),(dg ms v)[k]'(by rw [cG];exact hk) < ms[k] ->
    fl (sz (ms.drop (k+1))) v+sz (ms.drop (k+1)) < sz ms/\(dg ms v).take k++[(dg ms v)[k]'(by rw [cG];exact hk)+1]++List.replicate (ms.length-(k+1)) 0=dg ms (fl (sz (ms.drop (k+1))) v+sz (ms.drop (k+1)))
  | [],_,v,_,_,k,hk,_=>by simp at hk
  | m::ms,h,v,v0,v1,0,hk,hd=>by
    have hB:=eK h.tail;have hd':v / sz ms < m:=hd;have e:sz (m::ms)=(m+1)*sz ms:=rfl;have e0:fl (sz ((m::ms).drop (0+1))) v+sz ((m::ms).drop (0+1))=(v / sz ms+1)*sz ms+0:=by
      show v / sz ms*sz ms+sz ms=_;rw [Int.add_mul,Int.one_mul];omega
    rw [e0];refine ⟨?_,?_⟩
    · have:=ft hB (show v / sz ms+1 < m+1 by omega);rw [e];omega
    · rw [wX h (Int.le_refl _) hB,lV h.tail];rfl
  | m::ms,h,v,v0,v1,k+1,hk,hd=>by
    have hB:=eK h.tail;obtain ⟨a1,a2,a3⟩:=qr (v:=v) hB;have hk':k < ms.length:=by simpa using hk
    obtain ⟨i1,i2⟩:=A3 h.tail a2 a3 k hk' hd;have hS:=eK (h.tail.drop (k+1));have hT:=eK (h.tail.take (k+1));have hc:=tF ms (k+1);have e1:fl (sz (ms.drop (k+1))) v=v / sz ms*sz ms+fl (sz (ms.drop (k+1))) (v%sz ms):=by
      conv=>lhs;rw [a1]
      rw [hc];exact mX hS
    obtain ⟨f0,f1⟩:=Bm hS hT a2 (by rw [<- hc];exact a3);have e2:fl (sz ((m::ms).drop (k+1+1))) v+sz ((m::ms).drop (k+1+1))=v / sz ms*sz ms+(fl (sz (ms.drop (k+1))) (v%sz ms)+sz (ms.drop (k+1))):=by
      show fl (sz (ms.drop (k+1))) v+sz (ms.drop (k+1))=_;rw [e1];omega
    rw [e2];refine ⟨?_,?_⟩
    · have b:=km h v0 v1 0 (by simp);have b2:v / sz ms<=m:=b.2;have:=ft hB (show v / sz ms < m+1 by omega);show _ < (m+1)*sz ms;omega
    · rw [wX h (by omega) i1,<- i2];show v / sz ms::((dg ms (v%sz ms)).take k)++_++List.replicate (ms.length+1-(k+1+1)) 0=_;rw [show ms.length+1-(k+1+1)=ms.length-(k+1) by omega];rfl
noncomputable def ua (ms:List Int) (v:Int) (k:Nat):Int:=fl (sz (ms.drop k)) v+sz (ms.drop k)
theorem uk:∀ {ms:List Int},NN ms->∀ {v:Int},0<=v->v < sz ms->∀ k (hk:k < ms.length),(dg ms v)[k]'(by rw [cG];exact hk)=ms[k]->ua ms v (k+1)=ua ms v k
  | [],_,v,_,_,k,hk,_=>by simp at hk
  | m::ms,h,v,v0,v1,0,hk,hd=>by
    have hd':v / sz ms=m:=hd;have e:sz (m::ms)=(m+1)*sz ms:=rfl;show v / sz ms*sz ms+sz ms=v / sz (m::ms)*sz (m::ms)+sz (m::ms);rw [Int.ediv_eq_zero_of_lt v0 v1,Int.zero_mul,hd',e,Int.add_mul,Int.one_mul];omega
  | m::ms,h,v,v0,v1,k+1,hk,hd=>by
    have hB:=eK h.tail;obtain ⟨a1,a2,a3⟩:=qr (v:=v) hB;have hk':k < ms.length:=by simpa using hk
    have ih:=uk h.tail a2 a3 k hk' hd;have go:∀ j,fl (sz (ms.drop j)) v=v / sz ms*sz ms+fl (sz (ms.drop j)) (v%sz ms):=fun j=>by
      conv=>lhs;rw [a1]
      rw [tF ms j];exact mX (eK (h.tail.drop j))
    show fl (sz (ms.drop (k+1))) v+sz (ms.drop (k+1))=fl (sz (ms.drop k)) v+sz (ms.drop k);unfold ua at ih;rw [go (k+1),go k];omega
theorem zy {ms:List Int} {v:Int} (v0:0<=v) (v1:v < sz ms):ua ms v 0=sz ms:=by
  unfold ua fl;rw [List.drop_zero,Int.ediv_eq_zero_of_lt v0 v1,Int.zero_mul,Int.zero_add]
noncomputable def jm (ms:List Int) (b v:Int):List Int:=if v=sz ms then [b] else dg ms v
structure CW (ms:List Int) (b:Int):Prop where
  nn:NN ms
  lt:∀ m∈ms,m < b
theorem o6 {ms:List Int} {b:Int} (h:CW ms b) {v:Int} (v0:0<=v) (v1:v < sz ms):HT.lexLt (dg ms v) [b]=true/\HT.lexLt [b] (dg ms v)=false/\dg ms v≠[b]:=by
  cases ms with
  | nil=>exact ⟨rfl,rfl,fun z=>nomatch z⟩
  | cons m ms =>
    have hb:=km h.nn v0 v1 0 (by simp);have b2:v / sz ms<=m:=hb.2;have:=h.lt m List.mem_cons_self;show HT.lexLt (v / sz ms::dg ms (v%sz ms)) [b]=true/\HT.lexLt [b] (v / sz ms::dg ms (v%sz ms))=false/\v / sz ms::dg ms (v%sz ms)≠[b];refine ⟨?_,?_,fun z=>?_⟩
    · rw [HT.lexLt_cons,if_neg (by omega),decide_eq_true (by omega)]
    · rw [HT.lexLt_cons,if_neg (by omega),decide_eq_false (by omega)]
    · injection z with z1 _
      omega
theorem p9 {ms:List Int} {b:Int} (h:CW ms b) {v u:Int} (v0:0<=v) (v1:v<=sz ms) (u0:0<=u) (u1:u<=sz ms):HT.lexLt (jm ms b v) (jm ms b u)=decide (v < u):=by
  unfold jm;by_cases a:v=sz ms
  · rw [if_pos a];by_cases c:u=sz ms
    · rw [if_pos c,uw,decide_eq_false (by omega)]
    · rw [if_neg c,(o6 h u0 (by omega)).2.1,decide_eq_false (by omega)]
  · rw [if_neg a];by_cases c:u=sz ms
    · rw [if_pos c,(o6 h v0 (by omega)).1,decide_eq_true (by omega)]
    · rw [if_neg c,wQ h.nn v0 (by omega) u0 (by omega)]
theorem uM {ms:List Int} {b:Int} (h:CW ms b) {v:Int} (v0:0<=v) (v1:v<=sz ms):jm ms b v=[b]<->v=sz ms:=by
  unfold jm;by_cases a:v=sz ms
  · rw [if_pos a];exact ⟨fun _=>a,fun _=>rfl⟩
  · rw [if_neg a];exact ⟨fun z=>((o6 h v0 (by omega)).2.2 z).elim,fun z=>(a z).elim⟩
theorem jS {ms:List Int} {b:Int} {p:List Int->List Int->Bool} {pv:Int->Int->Bool}:∀ (vs:List Int) (v:Int),(∀ x∈v::vs,∀ y∈v::vs,p (jm ms b x) (jm ms b y)=pv x y)->fI p (jm ms b v) (vs.map (jm ms b))=jm ms b (jZ pv v vs)
  | [],v,_=>rfl
  | x::vs,v,h=>by
    show fI p (if p (jm ms b x) (jm ms b v)=true then jm ms b x else jm ms b v) (vs.map (jm ms b))=jm ms b (jZ pv (if pv x v=true then x else v) vs);rw [h x (by simp) v (by simp)];by_cases z:pv x v=true
    · rw [if_pos z,if_pos z];exact jS vs x fun a ha c hc=>h a (List.mem_cons_of_mem _ ha) c (List.mem_cons_of_mem _ hc)
    · rw [if_neg z,if_neg z];refine jS vs v fun a ha c hc=>h a ?_ c ?_
      · rcases List.mem_cons.mp ha with rfl | q
        · simp
        · exact List.mem_cons_of_mem _ (List.mem_cons_of_mem _ q)
      · rcases List.mem_cons.mp hc with rfl | q
        · simp
        · exact List.mem_cons_of_mem _ (List.mem_cons_of_mem _ q)
theorem kG {h ms:List Int} (hl:h.length<=ms.length) (hm:ms.length<=1000):bE [.tuple (h.map .int),.tuple (ms.map .int)]=.ok (.tuple ((h++List.replicate (ms.length-h.length) 0).map .int)):=by
  have hc:=dr (eC (.int 0)) [.non] 0 (fun _=>.int 0) ((ms.map PyData.int).drop h.length) fun d _=>rfl
  unfold bE mY;refine dO ?_;rw [show ([.tuple (h.map .int),.tuple (ms.map .int)].map bh.val++List.replicate (2 - [PyData.tuple (h.map .int),PyData.tuple (ms.map .int)].length) bh.non)=[.val (.tuple (h.map .int)),.val (.tuple (ms.map .int))] from rfl];rw [bU,bD,cp,bj,show az 1 [] [.val (.tuple (h.map .int)),.val (.tuple (ms.map .int))]=[.non] from rfl];simp only [bT,tw,me,mT,cp,av,ao,R.ok_bind,kB,List.length_map,yg,yb];rw [BE (by rw [List.length_map];exact hl)];simp only [R.ok_bind,cH,cc];rw [if_pos (by rw [List.length_drop,List.length_map];exact bC (by omega)),hc,jX,R.ok_bind,qJ,R.ok_bind,wL];rw [if_pos (by simp only [List.length_map,List.length_drop];exact bC (by omega))];have e:((ms.map PyData.int).drop h.length).map (fun _=>PyData.int 0)=(List.replicate (ms.length-h.length) 0).map .int:=by
    rw [List.map_const',List.length_drop,List.length_map,List.map_replicate]
  rw [e,<- List.map_append];rfl
noncomputable def br (ms:List Int) (b v:Int):PyData:=.tuple ((jm ms b v).map .int)
noncomputable def za:Nat->List Int
  | 0=>[]
  | k+1=>(k:Int)::za k
theorem qE:∀ k:Nat,gL ((k:Int)-1) k=(za k).map .int
  | 0=>rfl
  | k+1=>by
    have ih:=qE k;unfold gL at ih ⊢;rw [List.range_succ_eq_map,List.map_cons,List.map_map];show _::_=PyData.int k::(za k).map .int;rw [<- ih];congr 1
    · congr 1;omega
    · refine List.map_congr_left fun j _=>?_
      show PyData.int _=PyData.int _;congr 1;simp;omega
noncomputable def x0:Fs:=(pf (tE (e2 (gi Dp) (e2 ce (ae 0) (ae 3)) (e2 ce (ae 1) (ae 3)))) (cR (aG bE (ah (e2 eY (Da (ae 0) oO (ou (ae 3))) (pR (ah (e2 eY (e2 ce (ae 0) (ae 3)) (eC (.int 1))) aJ))) (ah (ae 1) aJ)))) eG)
section
variable {ms:List Int} {b:Int} (B:CW ms b) (hm:ms.length<=100) {v:Int} (v0:0<=v) (v1:v < sz ms) {L:Nat} (hL:L<=ms.length)
include B hm v0 v1 hL
theorem uX:∀ (k:Nat) (c3:bh),k<=L->ua ms v k=ua ms v L ->
    eS (aP 3) x0 ((za k).map .int) [.val (.tuple (((dg ms v).take L).map .int)),.val (.tuple (ms.map .int)),.val (.tuple [.int b]),c3]=.ok (.rt (br ms b (ua ms v L))) \/
    ∃ c3',eS (aP 3) x0 ((za k).map .int) [.val (.tuple (((dg ms v).take L).map .int)),.val (.tuple (ms.map .int)),.val (.tuple [.int b]),c3]=.ok (.nx [.val (.tuple (((dg ms v).take L).map .int)),.val (.tuple (ms.map .int)),.val (.tuple [.int b]),c3'])/\ua ms v L=sz ms
  | 0,c3,_,e=>.inr ⟨c3,by rw [show za 0=[] from rfl,List.map_nil,fu],by rw [<- e,zy v0 v1]⟩
  | k+1,c3,hk,e=>by
    have hkm:k < ms.length:=by omega
    have hx:ce (.tuple (((dg ms v).take L).map .int)) (.int k)=.ok (.int ((dg ms v)[k]'(by rw [cG];exact hkm))):=by
      rw [rT (by omega) (by rw [List.length_map,List.length_take,cG];omega)];simp
    have hy:ce (.tuple (ms.map .int)) (.int k)=.ok (.int ms[k]):=by
      rw [rT (by omega) (by rw [List.length_map];omega)];simp
    rw [show za (k+1)=(k:Int)::za k from rfl,List.map_cons,eT];rw [show (([.val (.tuple (((dg ms v).take L).map .int)),.val (.tuple (ms.map .int)),.val (.tuple [.int b]),c3]:aS).set 3 (.val (.int k)))=[.val (.tuple (((dg ms v).take L).map .int)),.val (.tuple (ms.map .int)),.val (.tuple [.int b]),.val (.int k)] from rfl];have hbnd:=(km B.nn v0 v1 k hkm).2;have htk:((dg ms v).take k).length=k:=by rw [List.length_take,cG];omega
    by_cases hd:(dg ms v)[k]'(by rw [cG];exact hkm) < ms[k]
    · left;obtain ⟨u1,u2⟩:=A3 B.nn v0 v1 k hkm hd;have hf:=kG (h:=(dg ms v).take k++[(dg ms v)[k]'(by rw [cG];exact hkm)+1]) (ms:=ms) (by rw [List.length_append,htk];exact hkm) (by omega);rw [show ((dg ms v).take k++[(dg ms v)[k]'(by rw [cG];exact hkm)+1]).length=k+1 by rw [List.length_append,htk];rfl,u2] at hf;have hb:x0 [.val (.tuple (((dg ms v).take L).map .int)),.val (.tuple (ms.map .int)),.val (.tuple [.int b]),.val (.int k)]=.ok (.rt (br ms b (ua ms v L))):=by
        unfold x0;simp only [dU,cC,bD,av,ao,R.ok_bind,hx,hy,kM,cT];rw [if_pos (decide_eq_true hd)];simp only [bU,aW,aL,aX,bD,tw,lW,mT,me,av,ao,bX,R.ok_bind,yg,yb,hx,yP,List.length_cons,List.length_nil];rw [xE (by rw [List.length_map,List.length_take,cG];omega),if_pos (by show 1<=_;decide),R.ok_bind,wL,if_pos (by simp only [List.length_take,List.length_map,cG,List.length_cons,List.length_nil];exact bC (by omega)),R.ok_bind];have e3:(((dg ms v).take L).map PyData.int).take k++[PyData.int ((dg ms v)[k]'(by rw [cG];exact hkm)+1)]=((dg ms v).take k++[(dg ms v)[k]'(by rw [cG];exact hkm)+1]).map .int:=by
          rw [<- List.map_take,List.take_take,Nat.min_eq_left (by omega),List.map_append];rfl
        rw [e3];simp only [R.ok_bind,hf];rw [<- e];unfold br jm ua;rw [if_neg (by omega)]
      rw [hb];rfl
    · have heq:(dg ms v)[k]'(by rw [cG];exact hkm)=ms[k]:=by omega
      have hu:=uk B.nn v0 v1 k hkm heq;have hb:x0 [.val (.tuple (((dg ms v).take L).map .int)),.val (.tuple (ms.map .int)),.val (.tuple [.int b]),.val (.int k)]=.ok (.nx [.val (.tuple (((dg ms v).take L).map .int)),.val (.tuple (ms.map .int)),.val (.tuple [.int b]),.val (.int k)]):=by
        unfold x0;simp only [dU,cC,bD,av,ao,R.ok_bind,hx,hy,kM,cT];rw [if_neg (by rw [show Dp ((dg ms v)[k]'(by rw [cG];exact hkm)) ms[k]=false from decide_eq_false hd];simp)];rfl
      rw [hb,R.ok_bind,dD];exact uX k (.val (.int k)) (by omega) (by rw [<- hu];exact e)
theorem pe:cO [.tuple (((dg ms v).take L).map .int),.tuple (ms.map .int),.tuple [.int b]]=.ok (br ms b (ua ms v L)):=by
  have ht:=uX B hm v0 v1 hL L .non (Nat.le_refl _) rfl;have hr:sP [.int ((L:Int)-1),.int (-1),.int (-1)]=.ok ((za L).map .int):=by
    show (if (-1:Int)=-1/\-(2 ^ 62)<=(L:Int)-1/\(L:Int)-1 < 2 ^ 62/\-(2 ^ 62)<=(-1:Int)/\(-1:Int) < 2 ^ 62 then R.ok (gL ((L:Int)-1) ((L:Int)-1-(-1)).toNat) else .no)=_;rw [if_pos (by omega),show ((L:Int)-1-(-1)).toNat=L by omega,qE]
  unfold cO iR;refine dO ?_;rw [show ([.tuple (((dg ms v).take L).map .int),.tuple (ms.map .int),.tuple [.int b]].map bh.val++List.replicate (4 - [PyData.tuple (((dg ms v).take L).map .int),PyData.tuple (ms.map .int),PyData.tuple [.int b]].length) bh.non)=[.val (.tuple (((dg ms v).take L).map .int)),.val (.tuple (ms.map .int)),.val (.tuple [.int b]),.non] from rfl];have hlen:(((dg ms v).take L).map PyData.int).length=L:=by rw [List.length_map,List.length_take,cG];omega
  have hfor:∀ o,eS (aP 3) x0 ((za L).map .int) [.val (.tuple (((dg ms v).take L).map .int)),.val (.tuple (ms.map .int)),.val (.tuple [.int b]),.non]=.ok o->(iy (jL (oK (ah (e2 k6 (e1 em (ae 0)) (eC (.int 1))) (ah (e1 qa (eC (.int 1))) (ah (e1 qa (eC (.int 1))) aJ)))) (aP 3) x0)) [.val (.tuple (((dg ms v).take L).map .int)),.val (.tuple (ms.map .int)),.val (.tuple [.int b]),.non]=.ok o:=fun o ho=>by
    rw [fg,gx,qV];simp only [aL,aX,cp,bD,ao,bX,R.ok_bind,kB,hlen,pH,xB,hr,ho];rfl
  unfold x0 at hfor;rcases ht with h | ⟨c3,h,hz⟩
  · exact np (hfor _ (by unfold x0 at h;exact h))
  · rw [aI (hfor _ (by unfold x0 at h;exact h))];simp only [bU,av,ao,R.ok_bind];unfold br jm;rw [if_pos hz];rfl
end
noncomputable def Az (ms:List Int) (p v:Int):Int:=if v=sz ms then v else if p%2=1 then ua ms v (ms.length-(p / 2).toNat) else fl (sz (ms.drop (ms.length-(p / 2).toNat))) v
noncomputable def iE (w:Int) (μ:Int->Int):List Int->Int
  | []=>0
  | g::gs=>if w=0 then qC (μ g) (gs.map μ) else n9 (μ g) (gs.map μ)
theorem jP {ms:List Int} {b:Int}:∀ vs:List Int,gC (vs.map (br ms b))=some (vs.map (jm ms b))
  | []=>rfl
  | v::vs=>by
    show (match bg ((jm ms b v).map .int),gC (vs.map (br ms b)) with | some ns,some rs=>some (ns::rs) | _,_=>none)=_;rw [dj,jP vs];rfl
theorem tu (ns ms:List Int):gW (.tuple (ns.map .int)) (.tuple (ms.map .int))=.ok (.bool (decide (ns=ms))):=by
  unfold gW;rw [if_pos (zM ns ms)];simp only [PyData.eqv,rq]
theorem o0 {ms:List Int} {b:Int} (B:CW ms b) (hm:ms.length<=100) {n:Nat} {μ:Int->Int} (hμ:∀ i:Int,0<=i->i < n->0<=μ i/\μ i<=sz ms) {p:P4} (hg:∀ g∈p.ns,0<=g/\g < n) (hne:p.ns≠[]) (hgl:p.ns.length<=1000) (hp0:0<=p.m) (hp1:(p.m / 2).toNat<=ms.length) :
    bI [p.d,.list (bZ (fun i=>br ms b (μ i)) n),.tuple (ms.map .int),.tuple [.int b]]=.ok (br ms b (Az ms p.m (iE p.w μ p.ns))):=by
  have hc:bF (aP 0) (fun _=>.ok true) (e2 ce (ae 1) (ae 0)) [.non,.val (.list (bZ (fun i=>br ms b (μ i)) n))] (p.ns.map .int)=.ok ((p.ns.map μ).map (br ms b)):=by
    have:=dr (e2 ce (ae 1) (ae 0)) [.non,.val (.list (bZ (fun i=>br ms b (μ i)) n))] 0 (fun d=>match d with | .int i=>br ms b (μ i) | d=>d) (p.ns.map .int) fun d hd=>by
      obtain ⟨g,h1,rfl⟩:=List.mem_map.mp hd;simp only [List.set_cons_zero,bD,av,ao,R.ok_bind,qI (hg g h1).1 (hg g h1).2]
    rw [this,List.map_map,List.map_map];rfl
  obtain ⟨g,gs,egs⟩:∃ g gs,p.ns=g::gs:=by
    cases h:p.ns with
    | nil=>exact (hne h).elim
    | cons g gs=>exact ⟨g,gs,rfl⟩
  have hall:∀ x∈μ g::gs.map μ,0<=x/\x<=sz ms:=fun x hx=>by
    have:x∈p.ns.map μ:=by rw [egs];exact hx
    obtain ⟨i,hi,rfl⟩:=List.mem_map.mp this;exact hμ i (hg i hi).1 (hg i hi).2
  obtain ⟨v,ev⟩:∃ v,v=iE p.w μ p.ns:=⟨_,rfl⟩
  have hv:0<=v/\v<=sz ms:=by
    rw [ev,egs,show iE p.w μ (g::gs)=if p.w=0 then qC (μ g) (gs.map μ) else n9 (μ g) (gs.map μ) from rfl];split
    · exact hall _ (kX _ _).1
    · exact hall _ (jh _ _).1
  have hbest:(wE (tE (e2 (gW) (e2 ce (ae 0) (eC (.int 0))) (eC (.int 0)))) (e1 uL (ae 4)) (e1 uC (ae 4))) [.val p.d,.val (.list (bZ (fun i=>br ms b (μ i)) n)),.val (.tuple (ms.map .int)),.val (.tuple [.int b]),.val (.list ((p.ns.map μ).map (br ms b))),.non,.non]=.ok (br ms b v):=by
    simp only [nD,cC,cp,bD,av,ao,bX,R.ok_bind,nr,fL,cT];rw [ev,egs,show iE p.w μ (g::gs)=if p.w=0 then qC (μ g) (gs.map μ) else n9 (μ g) (gs.map μ) from rfl];by_cases q:p.w=0
    · rw [decide_eq_true q,if_pos rfl,if_pos q];show (match gC (((g::gs).map μ).map (br ms b)) with | some (r::rs)=>R.ok (PyData.tuple ((fI (fun b a=>HT.lexLt b a) r rs).map .int)) | _=>.no)=_;rw [jP];show R.ok (PyData.tuple ((fI (fun b a=>HT.lexLt b a) (jm ms b (μ g)) ((gs.map μ).map (jm ms b))).map .int))=_;rw [jS (pv:=fun b a=>decide (b < a)) (gs.map μ) (μ g) fun x hx y hy=>p9 B (hall x hx).1 (hall x hx).2 (hall y hy).1 (hall y hy).2];rfl
    · rw [decide_eq_false q,if_neg (by simp),if_neg q];show (match gC (((g::gs).map μ).map (br ms b)) with | some (r::rs)=>R.ok (PyData.tuple ((fI (fun b a=>HT.lexLt a b) r rs).map .int)) | _=>.no)=_;rw [jP];show R.ok (PyData.tuple ((fI (fun b a=>HT.lexLt a b) (jm ms b (μ g)) ((gs.map μ).map (jm ms b))).map .int))=_;rw [jS (pv:=fun b a=>decide (a < b)) (gs.map μ) (μ g) fun x hx y hy=>p9 B (hall y hy).1 (hall y hy).2 (hall x hx).1 (hall x hx).2];rfl
  rw [<- ev];unfold bI i7;refine dO ?_;rw [show ([p.d,.list (bZ (fun i=>br ms b (μ i)) n),.tuple (ms.map .int),.tuple [.int b]].map bh.val++List.replicate (7 - [p.d,.list (bZ (fun i=>br ms b (μ i)) n),.tuple (ms.map .int),.tuple [.int b]].length) bh.non)=[.val p.d,.val (.list (bZ (fun i=>br ms b (μ i)) n)),.val (.tuple (ms.map .int)),.val (.tuple [.int b]),.non,.non,.non] from rfl];rw [aI (ρ':=[.val p.d,.val (.list (bZ (fun i=>br ms b (μ i)) n)),.val (.tuple (ms.map .int)),.val (.tuple [.int b]),.val (.list ((p.ns.map μ).map (br ms b))),.non,.non]) (by
    rw [bw,bj,show az 1 [1] [.val p.d,.val (.list (bZ (fun i=>br ms b (μ i)) n)),.val (.tuple (ms.map .int)),.val (.tuple [.int b]),.non,.non,.non]=[.non,.val (.list (bZ (fun i=>br ms b (μ i)) n))] from rfl];simp only [bT,bD,ao,bX,R.ok_bind,pD,cH,cc];rw [if_pos (by rw [List.length_map];exact bC hgl),hc];rfl)]
  rw [aI (ρ':=[.val p.d,.val (.list (bZ (fun i=>br ms b (μ i)) n)),.val (.tuple (ms.map .int)),.val (.tuple [.int b]),.val (.list ((p.ns.map μ).map (br ms b))),.val (br ms b v),.non]) (by
    rw [bw,hbest];rfl)]
  have hq:gW (br ms b v) (.tuple [.int b])=.ok (.bool (decide (v=sz ms))):=by
    have:=tu (jm ms b v) [b];rw [show ([b].map PyData.int)=[.int b] from rfl] at this;unfold br;rw [this];congr 2;exact decide_eq_decide.mpr (uM B hv.1 hv.2)
  unfold Az;by_cases z:v=sz ms
  · rw [if_pos z];refine np ?_;simp only [dU,cC,bD,av,ao,R.ok_bind,hq,cT,decide_eq_true z,if_true,bU];unfold br jm;rw [if_pos z];rfl
  · have hlt:v < sz ms:=by omega
    rw [if_neg z,aI (ρ':=[.val p.d,.val (.list (bZ (fun i=>br ms b (μ i)) n)),.val (.tuple (ms.map .int)),.val (.tuple [.int b]),.val (.list ((p.ns.map μ).map (br ms b))),.val (br ms b v),.non]) (by
      simp only [dU,cC,bD,av,ao,R.ok_bind,hq,cT,decide_eq_false z];rfl)]
    obtain ⟨L,eL⟩:∃ L,L=ms.length-(p.m / 2).toNat:=⟨_,rfl⟩
    have hL:L<=ms.length:=by omega
    have hrow:br ms b v=.tuple ((dg ms v).map .int):=by unfold br jm;rw [if_neg z]
    rw [aI (ρ':=[.val p.d,.val (.list (bZ (fun i=>br ms b (μ i)) n)),.val (.tuple (ms.map .int)),.val (.tuple [.int b]),.val (.list ((p.ns.map μ).map (br ms b))),.val (br ms b v),.val (.tuple (((dg ms v).take L).map .int))]) (by
      simp only [bw,tw,mT,me,cp,bD,av,ao,bX,R.ok_bind,kB,List.length_map,l8,CO];rw [if_pos (by decide),R.ok_bind,pH,R.ok_bind,yg,R.ok_bind,hrow,R.ok_bind,yb,R.ok_bind];rw [show (ms.length:Int)-p.m / 2=((L:Nat):Int) by omega,xE (by rw [List.length_map,cG];exact hL),List.map_take];rfl)]
    rw [<- eL];have hmod:fS (.int p.m) (.int 2)=.ok (.int (p.m%2)):=by rw [sW,if_pos (by decide)]
    by_cases o:p.m%2=1
    · rw [if_pos o];refine np ?_;simp only [dU,cC,bD,av,ao,bX,R.ok_bind,l8,hmod,fL,cT,decide_eq_true o,if_true,bU,aW,aL,aX,pe B hm hv.1 hlt hL]
    · rw [if_neg o,aI (ρ':=[.val p.d,.val (.list (bZ (fun i=>br ms b (μ i)) n)),.val (.tuple (ms.map .int)),.val (.tuple [.int b]),.val (.list ((p.ns.map μ).map (br ms b))),.val (br ms b v),.val (.tuple (((dg ms v).take L).map .int))]) (by
        simp only [dU,cC,bD,av,ao,bX,R.ok_bind,l8,hmod,fL,cT,decide_eq_false o];rfl)]
      have hf:=kG (h:=(dg ms v).take L) (ms:=ms) (by rw [List.length_take,cG];omega) (by omega);rw [show ((dg ms v).take L).length=L by rw [List.length_take,cG];omega,uE B.nn hv.1 hlt L hL] at hf;simp only [bU,aW,aL,aX,av,ao,R.ok_bind,hf];unfold br jm;rw [if_neg (by
        have:=(yV (v:=v) (eK (B.nn.drop L))).1;omega)]
noncomputable def Tz (c:Int->Int):Nat->Int
  | 0=>1
  | j+1=>(c (2*(j:Int)+1)+1)*Tz c j
noncomputable def gj:Nat->List Int
  | 0=>[]
  | k+1=>(2*(k:Int)+1)::gj k
theorem ke:∀ k,(gj k).length=k
  | 0=>rfl
  | k+1=>congrArg (·+1) (ke k)
theorem rX:∀ {k j:Nat},j<=k->(gj k).drop (k-j)=gj j
  | 0,j,h=>by
    have:j=0:=by omega
    subst this;rfl
  | k+1,j,h=>by
    by_cases e:j=k+1
    · subst e;rw [Nat.sub_self,List.drop_zero]
    · rw [show k+1-j=(k-j)+1 by omega];exact rX (by omega)
theorem mf (c:Int->Int):∀ k,sz ((gj k).map c)=Tz c k
  | 0=>rfl
  | k+1=>by
    show (c (2*(k:Int)+1)+1)*sz ((gj k).map c)=_;rw [mf c k];rfl
theorem AJ (c:Int->Int) {k j:Nat} (h:j<=k):sz (((gj k).map c).drop (k-j))=Tz c j:=by
  rw [<- List.map_drop,rX h,mf]
section
variable {c:Int->Int} (hc:∀ p,0<=c p)
include hc
theorem fB:∀ j,0 < Tz c j
  | 0=>Int.zero_lt_one
  | j+1=>Int.mul_pos (by have:=hc (2*(j:Int)+1);omega) (fB j)
end
theorem pA {c:Int->Int} {i:Nat}:∀ {j:Nat},i<=j->∃ q,Tz c j=q*Tz c i
  | 0,h=>⟨1,by rw [show i=0 by omega,Int.one_mul]⟩
  | j+1,h=>by
    by_cases e:i=j+1
    · exact ⟨1,by rw [e,Int.one_mul]⟩
    · obtain ⟨q,hq⟩:=pA (c:=c) (i:=i) (j:=j) (by omega);exact ⟨(c (2*(j:Int)+1)+1)*q,by
        show (c (2*(j:Int)+1)+1)*Tz c j=_;rw [hq,Int.mul_assoc]⟩
theorem uY {S v u:Int} (hS:0 < S) (h:v<=u):fl S v<=fl S u:=by
  unfold fl;exact Int.mul_le_mul_of_nonneg_right (Int.ediv_le_ediv hS h) (Int.le_of_lt hS)
theorem De {S v q:Int} (hS:0 < S) (h:v < q*S):fl S v+S<=q*S:=by
  have:v / S < q:=Int.ediv_lt_of_lt_mul hS h;unfold fl;exact ft hS this
theorem Eb {S v:Int} (hS:0 < S) (h:0<=v):0<=fl S v:=Int.mul_nonneg (Int.ediv_nonneg h (Int.le_of_lt hS)) (Int.le_of_lt hS)
theorem Ad {S B q v:Int} (hS:0 < S) (hB:0 < B) (e:B=q*S):fl B v<=fl S v:=by
  have h1:=(yV (v:=v) hB).1;have h2:=uY hS h1;have h3:fl S (fl B v)=fl B v:=by
    unfold fl;rw [e,show v / (q*S)*(q*S)=v / (q*S)*q*S by rw [Int.mul_assoc],Int.mul_ediv_cancel _ (by omega)]
  omega
noncomputable def jH (T:Nat->Int) (k:Nat) (p v:Int):Int:=if v=T k then v else if p%2=1 then fl (T (p / 2).toNat) v+T (p / 2).toNat else fl (T (p / 2).toNat) v
theorem BV {c:Int->Int} {k:Nat} {p v:Int} (h:(p / 2).toNat<=k):Az ((gj k).map c) p v=jH (Tz c) k p v:=by
  unfold Az jH ua;rw [mf,List.length_map,ke,AJ c h]
section
variable {c:Int->Int} (hc:∀ p,0<=c p) {k:Nat} {p:Int} (hp:(p / 2).toNat<=k)
include hc hp
theorem xj {v:Int} (v0:0<=v) (v1:v<=Tz c k):0<=jH (Tz c) k p v/\jH (Tz c) k p v<=Tz c k:=by
  have hS:=fB hc (p / 2).toNat;obtain ⟨q,hq⟩:=pA (c:=c) hp;unfold jH;split
  · exact ⟨v0,v1⟩
  · rename_i z;have a:=Eb (S:=Tz c (p / 2).toNat) hS v0;have b:=De (q:=q) (v:=v) hS (by rw [<- hq];omega);rw [<- hq] at b;split
    · exact ⟨by omega,b⟩
    · exact ⟨a,by omega⟩
theorem kL {v u:Int} (v0:0<=v) (h:v<=u) (u1:u<=Tz c k):jH (Tz c) k p v<=jH (Tz c) k p u:=by
  by_cases e:u=Tz c k
  · have:jH (Tz c) k p u=Tz c k:=by unfold jH;rw [if_pos e,e]
    rw [this];exact (xj hc hp v0 (by omega)).2
  · have:=uY (fB hc (p / 2).toNat) h;unfold jH;rw [if_neg e,if_neg (by omega)];split <;> omega
end
theorem nH {μ:Int->Int} {gs:List Int} (hne:gs≠[]):∃ g∈gs,iE 0 μ gs=μ g/\∀ x∈gs,μ g<=μ x:=by
  cases gs with
  | nil=>exact (hne rfl).elim
  | cons g gs =>
    have h:=kX (μ g) (gs.map μ);rw [<- List.map_cons (f:=μ)] at h;obtain ⟨y,y1,y2⟩:=List.mem_map.mp h.1;refine ⟨y,y1,by rw [y2];rfl,fun x hx=>?_⟩;rw [y2];exact h.2 _ (List.mem_map.mpr ⟨x,hx,rfl⟩)
theorem mt {w:Int} (hw:w≠0) {μ:Int->Int} {gs:List Int} (hne:gs≠[]):∃ g∈gs,iE w μ gs=μ g/\∀ x∈gs,μ x<=μ g:=by
  cases gs with
  | nil=>exact (hne rfl).elim
  | cons g gs =>
    have h:=jh (μ g) (gs.map μ);rw [<- List.map_cons (f:=μ)] at h;obtain ⟨y,y1,y2⟩:=List.mem_map.mp h.1;refine ⟨y,y1,by rw [y2];show (if w=0 then _ else _)=_;rw [if_neg hw],fun x hx=>?_⟩;rw [y2];exact h.2 _ (List.mem_map.mpr ⟨x,hx,rfl⟩)
theorem vS {w:Int} {μ U:Int->Int} {gs:List Int} (hne:gs≠[]) (h:∀ g∈gs,μ g<=U g):iE w μ gs<=iE w U gs:=by
  by_cases z:w=0
  · subst z;obtain ⟨g,_,e,m⟩:=nH (μ:=μ) hne;obtain ⟨g',a',e',_⟩:=nH (μ:=U) hne;have:=m g' a';have:=h g' a';omega
  · obtain ⟨g,a,e,_⟩:=mt z (μ:=μ) hne;obtain ⟨g',_,e',m⟩:=mt z (μ:=U) hne;have:=m g a;have:=h g a;omega
noncomputable def wF (ps:List P4) (T:Nat->Int) (k:Nat) (μ:Int->Int) (i:Int):Int:=jH T k (am ps i) (iE (ap ps i) μ (aU ps i))
structure Ms (ps:List P4) (c:Int->Int) (k:Nat):Prop where
  hc:∀ p,0<=c p
  own:∀ i∈ids ps.length,ap ps i=0\/ap ps i=1
  go:∀ i∈ids ps.length,∀ g∈aU ps i,g∈ids ps.length
  ne:∀ i∈ids ps.length,aU ps i≠[]
  lo:∀ i∈ids ps.length,0<=am ps i
  hi:∀ i∈ids ps.length,((am ps i) / 2).toNat<=k
  od:∀ i∈ids ps.length,am ps i%2=1->((am ps i) / 2).toNat < k
structure BS (ps:List P4) (c:Int->Int) (k:Nat) (μ:Int->Int):Prop where
  b:∀ i∈ids ps.length,0<=μ i/\μ i<=Tz c k
  le:∀ i∈ids ps.length,wF ps (Tz c) k μ i<=μ i
section
variable {ps:List P4} {c:Int->Int} {k:Nat} (M:Ms ps c k)
include M
theorem Bc {μ:Int->Int} (hb:∀ i∈ids ps.length,0<=μ i/\μ i<=Tz c k) {i:Int} (hi:i∈ids ps.length):0<=wF ps (Tz c) k μ i/\wF ps (Tz c) k μ i<=Tz c k:=by
  have:0<=iE (ap ps i) μ (aU ps i)/\iE (ap ps i) μ (aU ps i)<=Tz c k:=by
    by_cases z:ap ps i=0
    · rw [z];obtain ⟨g,a,e,_⟩:=nH (μ:=μ) (M.ne i hi);rw [e];exact hb g (M.go i hi g a)
    · obtain ⟨g,a,e,_⟩:=mt z (μ:=μ) (M.ne i hi);rw [e];exact hb g (M.go i hi g a)
  exact xj M.hc (M.hi i hi) this.1 this.2
theorem xf {μ U:Int->Int} (hb:∀ i∈ids ps.length,0<=μ i/\μ i<=U i) (hU:∀ i∈ids ps.length,U i<=Tz c k) {i:Int} (hi:i∈ids ps.length):wF ps (Tz c) k μ i<=wF ps (Tz c) k U i:=by
  refine kL M.hc (M.hi i hi) ?_ (vS (M.ne i hi) fun g hg=>(hb g (M.go i hi g hg)).2) ?_
  · by_cases z:ap ps i=0
    · rw [z];obtain ⟨g,a,e,_⟩:=nH (μ:=μ) (M.ne i hi);rw [e];exact (hb g (M.go i hi g a)).1
    · obtain ⟨g,a,e,_⟩:=mt z (μ:=μ) (M.ne i hi);rw [e];exact (hb g (M.go i hi g a)).1
  · by_cases z:ap ps i=0
    · rw [z];obtain ⟨g,a,e,_⟩:=nH (μ:=U) (M.ne i hi);rw [e];exact hU g (M.go i hi g a)
    · obtain ⟨g,a,e,_⟩:=mt z (μ:=U) (M.ne i hi);rw [e];exact hU g (M.go i hi g a)
theorem rB {i v u:Int} (hi:i∈ids ps.length) (hv:0<=v/\v<=Tz c k) (hu:u < Tz c k) (h:jH (Tz c) k (am ps i) v<=u):v < Tz c k/\∀ m,m%2=1->am ps i<=m->v / Tz c (m / 2).toNat<=u / Tz c (m / 2).toNat/\(am ps i=m->v / Tz c (m / 2).toNat < u / Tz c (m / 2).toNat):=by
  unfold jH at h;by_cases z:v=Tz c k
  · rw [if_pos z] at h;omega
  · rw [if_neg z] at h;refine ⟨by omega,fun m hm hle=>?_⟩;have hlo:=M.lo i hi;have hS:=fB M.hc (am ps i / 2).toNat;have hB:=fB M.hc (m / 2).toNat;obtain ⟨q,hq⟩:=pA (c:=c) (i:=(am ps i / 2).toNat) (j:=(m / 2).toNat) (by omega);have hf:=Ad (v:=v) hS hB hq;have h1:fl (Tz c (am ps i / 2).toNat) v<=u:=by
      split at h <;> omega
    refine ⟨?_,fun e=>?_⟩
    · refine (Int.le_ediv_iff_mul_le hB).mpr ?_;unfold fl at hf h1;omega
    · subst e;rw [if_pos hm] at h;have:v / Tz c (am ps i / 2).toNat+1<=u / Tz c (am ps i / 2).toNat:=by
        refine (Int.le_ediv_iff_mul_le hB).mpr ?_;rw [Int.add_mul,Int.one_mul];exact h
      omega
theorem yG {μ:Int->Int} (H:BS ps c k μ) {win:Int->Int} {mv:Int->Option Int} (I:oZ ps (ids ps.length) win mv) {i:Int} (hi:i∈ids ps.length) (hf:μ i < Tz c k):win i=0:=by
  refine yH (B:=2*(k:Int)+1) (fun i hi=>?_) M.own M.go I (F:=fun i=>i∈ids ps.length/\μ i < Tz c k) (fun i h=>h.1) (φ:=fun m i=>μ i / Tz c (m / 2).toNat) (fun i h ho=>?_) (fun i h ho g hg=>?_) i ⟨hi,hf⟩
  · have:=M.hi i hi;have:=M.lo i hi;omega
  · obtain ⟨g,a,e,_⟩:=nH (μ:=μ) (M.ne i h.1);have hgi:=M.go i h.1 g a;have hl:=H.le i h.1;unfold wF at hl;rw [ho,e] at hl;obtain ⟨f1,f2⟩:=rB M h.1 (H.b g hgi) h.2 hl;exact ⟨g,a,⟨hgi,f1⟩,f2⟩
  · obtain ⟨g',a,e,mx⟩:=mt (w:=ap ps i) (by omega) (μ:=μ) (M.ne i h.1);have hgi:=M.go i h.1 g hg;have hl:=H.le i h.1;unfold wF at hl;rw [e] at hl;have hl2:=kL M.hc (M.hi i h.1) (H.b g hgi).1 (mx g hg) (H.b g' (M.go i h.1 g' a)).2;obtain ⟨f1,f2⟩:=rB M h.1 (H.b g hgi) h.2 (Int.le_trans hl2 hl);exact ⟨⟨hgi,f1⟩,f2⟩
end
noncomputable def Vz (c:Int->Int) (K:Int->Int):Nat->Int
  | 0=>0
  | j+1=>K (2*(j:Int)+1)*Tz c j+Vz c K j
theorem Aw {c K:Int->Int} (hc:∀ p,0<=c p) (h:∀ p,p%2=1->0<=K p/\K p<=c p):∀ j,0<=Vz c K j/\Vz c K j < Tz c j
  | 0=>⟨Int.le_refl _,Int.zero_lt_one⟩
  | j+1=>by
    obtain ⟨a,b⟩:=Aw hc h j;have hk:=h (2*(j:Int)+1) (by omega);have hT:=fB hc j;show 0<=K (2*(j:Int)+1)*Tz c j+Vz c K j/\K (2*(j:Int)+1)*Tz c j+Vz c K j < (c (2*(j:Int)+1)+1)*Tz c j;have h1:=ft hT (show K (2*(j:Int)+1) < c (2*(j:Int)+1)+1 by omega);have h0:=Int.mul_nonneg hk.1 (Int.le_of_lt hT);omega
theorem yl {c K:Int->Int} {j0:Nat}:∀ {j:Nat},j0<=j->∃ q,Vz c K j=q*Tz c j0+Vz c K j0
  | 0,h=>⟨0,by rw [show j0=0 by omega];simp⟩
  | j+1,h=>by
    by_cases e:j0=j+1
    · exact ⟨0,by rw [e];simp⟩
    · obtain ⟨q,hq⟩:=yl (c:=c) (K:=K) (j0:=j0) (j:=j) (by omega);obtain ⟨r,hr⟩:=pA (c:=c) (i:=j0) (j:=j) (by omega);refine ⟨K (2*(j:Int)+1)*r+q,?_⟩;show K (2*(j:Int)+1)*Tz c j+Vz c K j=_;rw [hq,hr,Int.add_mul,Int.mul_assoc];omega
theorem yu {c K L:Int->Int} (hc:∀ p,0<=c p) {j0:Nat} (h:∀ j:Nat,j0<=j->K (2*(j:Int)+1)<=L (2*(j:Int)+1)):∀ {j:Nat},j0<=j->Vz c K j-Vz c K j0<=Vz c L j-Vz c L j0
  | 0,hj=>by rw [show j0=0 by omega];omega
  | j+1,hj=>by
    by_cases e:j0=j+1
    · rw [e];omega
    · have ih:=yu hc h (j:=j) (by omega);have:=Int.mul_le_mul_of_nonneg_right (h j (by omega)) (Int.le_of_lt (fB hc j));show K (2*(j:Int)+1)*Tz c j+Vz c K j-Vz c K j0<=L (2*(j:Int)+1)*Tz c j+Vz c L j-Vz c L j0;omega
theorem Dr {c K L:Int->Int} (hc:∀ p,0<=c p) {j0:Nat} (h:∀ j:Nat,j0<=j->K (2*(j:Int)+1)<=L (2*(j:Int)+1)) (h1:K (2*(j0:Int)+1)+1<=L (2*(j0:Int)+1)) {j:Nat} (hj:j0 < j):Vz c K j-Vz c K j0+Tz c j0<=Vz c L j-Vz c L j0:=by
  have a:=yu hc (j0:=j0+1) (fun j h'=>h j (by omega)) (j:=j) (by omega);have b:=ft (fB hc j0) (show K (2*(j0:Int)+1) < L (2*(j0:Int)+1) by omega);have e1:Vz c K (j0+1)=K (2*(j0:Int)+1)*Tz c j0+Vz c K j0:=rfl;have e2:Vz c L (j0+1)=L (2*(j0:Int)+1)*Tz c j0+Vz c L j0:=rfl;omega
theorem Ed {c K:Int->Int} (hc:∀ p,0<=c p) (h:∀ p,p%2=1->0<=K p/\K p<=c p) {j0 j:Nat} (hj:j0<=j):fl (Tz c j0) (Vz c K j)=Vz c K j-Vz c K j0:=by
  obtain ⟨q,hq⟩:=yl (c:=c) (K:=K) hj;obtain ⟨a,b⟩:=Aw hc h j0;have hT:=fB hc j0;unfold fl;rw [hq,show q*Tz c j0+Vz c K j0=Vz c K j0+q*Tz c j0 by omega,Int.add_mul_ediv_right _ _ (by omega),Int.ediv_eq_zero_of_lt a b,Int.zero_add];omega
section
variable {ps:List P4} {c:Int->Int} {k:Nat} (M:Ms ps c k) (hcn:∀ p,c p=(iu ps (ids ps.length) p:Int))
include M hcn
theorem yJ {win:Int->Int} {mv:Int->Option Int} (I:oZ ps (ids ps.length) win mv):∃ U,BS ps c k U/\∀ i∈ids ps.length,win i=0->U i < Tz c k:=by
  obtain ⟨K,k1,k2⟩:=CL I;have kb:∀ i p,p%2=1->0<=(K p i:Int)/\(K p i:Int)<=c p:=fun i p hp=>by
    have:=k1 p i hp;rw [hcn];omega
  have hT:=fB M.hc k;have vb:∀ i,0<=Vz c (fun p=>(K p i:Int)) k/\Vz c (fun p=>(K p i:Int)) k < Tz c k:=fun i=>Aw M.hc (kb i) k
  obtain ⟨U,hU⟩:∃ U:Int->Int,U=fun i=>if win i=0 then Vz c (fun p=>(K p i:Int)) k else Tz c k:=⟨_,rfl⟩
  have U0:∀ i,win i=0->U i=Vz c (fun p=>(K p i:Int)) k:=fun i h=>by rw [hU];exact if_pos h
  have U1:∀ i,win i≠0->U i=Tz c k:=fun i h=>by rw [hU];exact if_neg h
  have Ub:∀ i∈ids ps.length,0<=U i/\U i<=Tz c k:=fun i _=>by
    by_cases z:win i=0
    · rw [U0 i z];have:=vb i;omega
    · rw [U1 i z];omega
  have key:∀ i∈ids ps.length,win i=0->∀ g,Wy ps (ids ps.length) 0 mv i g->jH (Tz c) k (am ps i) (U g)<=U i:=fun i hi hw g hg=>by
    have hs:=I.stay i hi g (by rw [hw];exact hg);have hwg:win g=0:=hs.2.trans hw;rw [U0 i hw,U0 g hwg];have hb:=vb g;have hlo:=M.lo i hi;have step:∀ j:Nat,(am ps i / 2).toNat<=j->(K (2*(j:Int)+1) g:Int)<=(K (2*(j:Int)+1) i:Int):=fun j hj=>by
      have:=(k2 (2*(j:Int)+1) i g (by omega) hi hw hg (by omega)).1;omega
    have f:=Ed M.hc (kb g) (M.hi i hi);have vi:=Aw M.hc (kb i) (am ps i / 2).toNat;unfold jH;rw [if_neg (by omega)];by_cases o:am ps i%2=1
    · rw [if_pos o,f];have:=Dr M.hc (K:=fun p=>(K p g:Int)) (L:=fun p=>(K p i:Int)) step (by
        have e:2*(((am ps i / 2).toNat:Nat):Int)+1=am ps i:=by omega
        have:=(k2 (am ps i) i g o hi hw hg (Int.le_refl _)).2 rfl;rw [e];omega) (M.od i hi o)
      omega
    · rw [if_neg o,f];have:=yu M.hc (K:=fun p=>(K p g:Int)) (L:=fun p=>(K p i:Int)) step (M.hi i hi);omega
  refine ⟨U,⟨Ub,fun i hi=>?_⟩,fun i hi h=>by rw [U0 i h];exact (vb i).2⟩;by_cases hw:win i=0
  · unfold wF;by_cases ho:ap ps i=0
    · obtain ⟨g,g1,g2⟩:=I.has i hi (ho.trans hw.symm);obtain ⟨g',a',e',m'⟩:=nH (μ:=U) (M.ne i hi);rw [ho,e'];refine Int.le_trans (kL M.hc (M.hi i hi) (Ub g' (M.go i hi g' a')).1 (m' g g2) (Ub g (M.go i hi g g2)).2) ?_;exact key i hi hw g (.inl ⟨ho,g1⟩)
    · obtain ⟨g,a,e,_⟩:=mt ho (μ:=U) (M.ne i hi);rw [e];exact key i hi hw g (.inr ⟨ho,gr a (M.go i hi g a)⟩)
  · rw [U1 i hw];exact (Bc M Ub hi).2
end
theorem oJ (ps:List P4):ps.map (·.m)=(ids ps.length).map (am ps):=by
  refine List.ext_getElem (by rw [List.length_map,List.length_map,eN]) fun k h1 h2=>?_
  rw [List.length_map] at h1;have e:(ids ps.length)[k]'(by rw [eN];exact h1)=(k:Int):=by
    have:=tV (n:=ps.length) h1;rw [List.getElem?_eq_getElem (by rw [eN];exact h1)] at this;exact Option.some.inj this
  rw [List.getElem_map,List.getElem_map,e,eB (by omega) (by omega)];simp
noncomputable def cn (ps:List P4) (p:Int):Int:=(iu ps (ids ps.length) p:Int)
theorem xk (ps:List P4) (p:Int):(((ps.map (·.m)).count p:Nat):Int)=cn ps p:=by
  unfold cn iu;rw [oJ,List.count_eq_countP,List.countP_map,List.countP_eq_length_filter];rfl
theorem AO (ps:List P4) (p:Int):0<=cn ps p/\cn ps p<=ps.length:=by
  unfold cn iu;have:=List.length_filter_le (fun i=>decide (am ps i=p)) (ids ps.length);rw [eN] at this;omega
noncomputable def A7:Nat->List Int
  | 0=>[]
  | k+1=>((k:Int)+1)::A7 k
theorem mK:∀ k:Nat,gL (k:Int) k=(A7 k).map .int
  | 0=>rfl
  | k+1=>by
    have ih:=mK k;unfold gL at ih ⊢;rw [List.range_succ_eq_map,List.map_cons,List.map_map];show _::_=PyData.int ((k:Int)+1)::(A7 k).map .int;rw [<- ih];congr 1;refine List.map_congr_left fun j _=>?_
    show PyData.int _=PyData.int _;congr 1;simp;omega
theorem Bw (i j:Int):sP [.int i,.int j,.int (-1)]=if (-1:Int)=-1/\-(2 ^ 62)<=i/\i < 2 ^ 62/\-(2 ^ 62)<=j/\j < 2 ^ 62 then .ok (gL i (i-j).toNat) else .no:=rfl
noncomputable def EB:aS->R Bool:=tE (e2 (gW) (e2 fS (ae 0) (eC (.int 2))) (eC (.int 1)))
theorem lr {ps:List P4}:∀ m:Nat,bF (aP 0) EB (pB (ae 1) (ae 0)) [.non,.val (.list ((ps.map (·.m)).map .int))] ((A7 m).map .int)=.ok (((gj ((m+1) / 2)).map (cn ps)).map .int)
  | 0=>rfl
  | m+1=>by
    have ih:=lr (ps:=ps) m;have ht:EB [.val (.int ((m:Int)+1)),.val (.list ((ps.map (·.m)).map .int))]=.ok (decide (((m:Int)+1)%2=1)):=by
      unfold EB;simp only [cC,bD,ao,bX,R.ok_bind,sW];rw [if_pos (by decide),R.ok_bind,fL,R.ok_bind,cT]
    have he:pB (ae 1) (ae 0) [.val (.int ((m:Int)+1)),.val (.list ((ps.map (·.m)).map .int))]=.ok (.int (cn ps ((m:Int)+1))):=by
      show (iC (.list ((ps.map (·.m)).map .int)) (.int ((m:Int)+1)))=_;show (match bg ((ps.map (·.m)).map .int) with | some ns=>R.ok (PyData.int (ns.count ((m:Int)+1):Nat)) | none=>.no)=_;rw [dj,<- xk]
    rw [show A7 (m+1)=((m:Int)+1)::A7 m from rfl,List.map_cons,dw];rw [show (([.non,.val (.list ((ps.map (·.m)).map .int))]:aS).set 0 (.val (.int ((m:Int)+1))))=[.val (.int ((m:Int)+1)),.val (.list ((ps.map (·.m)).map .int))] from rfl,ht,R.ok_bind,ih];by_cases o:((m:Int)+1)%2=1
    · rw [decide_eq_true o,if_pos rfl,he];obtain ⟨q,hq⟩:∃ q:Nat,q=(m+1) / 2:=⟨_,rfl⟩
      rw [<- hq,show (m+1+1) / 2=q+1 by omega,show gj (q+1)=(2*(q:Int)+1)::gj q from rfl,List.map_cons,List.map_cons,show 2*(q:Int)+1=(m:Int)+1 by omega];rfl
    · rw [decide_eq_false o,if_neg (by simp),show (m+1+1) / 2=(m+1) / 2 by omega]
theorem zk {ps:List P4} {mx:Nat} (hp:ps.length<=24) (hx:oF (.list ((ps.map (·.m)).map .int))=.ok (.int mx)) (hm:mx<=12):bN [gD ps]=.ok (.tuple (((gj ((mx+1) / 2)).map (cn ps)).map .int)):=by
  have hc:bF (aP 0) (fun _=>.ok true) (e2 ce (ae 0) (eC (.int 1))) [.non] (ps.map P4.d)=.ok ((ps.map (·.m)).map .int):=by
    clear hx hp;induction ps with
    | nil=>rfl
    | cons p ps ih =>
      rw [List.map_cons,dw,ih];rfl
  have hr:sP [.int (mx:Int),.int 0,.int (-1)]=.ok ((A7 mx).map .int):=by
    rw [Bw,if_pos (by omega),show ((mx:Int)-0).toNat=mx by omega,mK]
  have hd:=lr (ps:=ps) mx;have hlen:((A7 mx).map PyData.int).length<=1000:=by
    have:=mK mx;rw [<- this];unfold gL;simp;omega
  unfold bN gG;refine dO ?_;rw [show ([gD ps].map bh.val++List.replicate (2 - [gD ps].length) bh.non)=[.val (gD ps),.non] from rfl];rw [aI (ρ':=[.val (gD ps),.val (.list ((ps.map (·.m)).map .int))]) (by
    rw [bw,bj,show az 1 [] [.val (gD ps),.non]=[.non] from rfl];simp only [bT,ao,R.ok_bind,cH,cc];rw [if_pos (by rw [List.length_map];exact bC (by omega)),hc];rfl)]
  rw [bU,cp,bj,show az 1 [1] [.val (gD ps),.val (.list ((ps.map (·.m)).map .int))]=[.non,.val (.list ((ps.map (·.m)).map .int))] from rfl];simp only [qV,aL,aX,cp,av,ao,bX,R.ok_bind,hx,xB,hr,cc];unfold EB at hd;rw [if_pos (bC hlen),hd];rfl
theorem oz {ps:List P4} (hp:ps.length<=24):bp [gD ps]=.ok (.tuple [.int ((ps.length:Int)+1)]):=by
  have hlen:em (gD ps)=.ok (.int ps.length):=by simp
  unfold bp h7;refine dO ?_;rw [show ([gD ps].map bh.val++List.replicate (1 - [gD ps].length) bh.non)=[.val (gD ps)] from rfl];simp only [bU,lW,aL,aX,cp,bD,ao,bX,R.ok_bind,hlen,yP];rw [if_pos (by show 1<=_;decide)];rfl
noncomputable def Sm (n:Nat) (μ:Int->Int):Int:=((ids n).map μ).sum
theorem sr {μ U:Int->Int}:∀ {l:List Int},(∀ x∈l,μ x<=U x)->(l.map μ).sum<=(l.map U).sum
  | [],_=>by simp
  | x::l,h=>by
    have:=sr (l:=l) fun y hy=>h y (List.mem_cons_of_mem _ hy)
    have:=h x List.mem_cons_self;simp only [List.map_cons,List.sum_cons];omega
theorem xU {μ U:Int->Int}:∀ {l:List Int},(∀ x∈l,μ x<=U x)->(∃ x∈l,μ x < U x)->(l.map μ).sum < (l.map U).sum
  | [],_,⟨_,h,_⟩=>by simp at h
  | x::l,h,⟨y,hy,hl⟩=>by
    have a:=h x List.mem_cons_self;simp only [List.map_cons,List.sum_cons];rcases List.mem_cons.mp hy with rfl | z
    · have:=sr (l:=l) fun y hy=>h y (List.mem_cons_of_mem _ hy)
      omega
    · have:=xU (l:=l) (fun y hy=>h y (List.mem_cons_of_mem _ hy)) ⟨y,z,hl⟩;omega
theorem kY (t:Int):∀ l:List Int,(l.map fun _=>t).sum=l.length*t
  | []=>by simp
  | x::l=>by
    simp only [List.map_cons,List.sum_cons,kY t l,List.length_cons];rw [show ((l.length+1:Nat):Int)=(l.length:Int)+1 by omega,Int.add_mul,Int.one_mul];omega
theorem nC {p q r:Int->Bool}:∀ l:List Int,(∀ x∈l,(p x=true->r x=true/\q x=false)/\(q x=true->r x=true))->(l.filter p).length+(l.filter q).length<=(l.filter r).length
  | [],_=>by simp
  | x::l,h=>by
    have ih:=nC l fun y hy=>h y (List.mem_cons_of_mem _ hy)
    obtain ⟨h1,h2⟩:=h x List.mem_cons_self;cases hp:p x with
    | true =>
      obtain ⟨a,b⟩:=h1 hp;rw [List.filter_cons_of_pos hp,List.filter_cons_of_pos a,List.filter_cons_of_neg (by rw [b];simp),List.length_cons,List.length_cons];omega
    | false =>
      rw [List.filter_cons_of_neg (by rw [hp];simp)];cases hq:q x with
      | true =>
        rw [List.filter_cons_of_pos hq,List.filter_cons_of_pos (h2 hq),List.length_cons,List.length_cons];omega
      | false =>
        rw [List.filter_cons_of_neg (by rw [hq];simp)];cases hr:r x with
        | true=>rw [List.filter_cons_of_pos hr,List.length_cons];omega
        | false=>rw [List.filter_cons_of_neg (by rw [hr];simp)];exact ih
noncomputable def nK (ps:List P4) (j:Nat):Nat:=((ids ps.length).filter fun i=>decide (am ps i < 2*(j:Int))).length
theorem x6 (ps:List P4) (j:Nat):nK ps j+iu ps (ids ps.length) (2*(j:Int)+1)<=nK ps (j+1):=by
  unfold nK iu;refine nC _ fun x _=>⟨fun h=>?_,fun h=>?_⟩
  · have:=of_decide_eq_true h;exact ⟨decide_eq_true (by omega),decide_eq_false (by omega)⟩
  · have:=of_decide_eq_true h;exact decide_eq_true (by omega)
theorem va (c:Nat):(c:Int)+1<=2 ^ c:=by
  induction c with
  | zero=>decide
  | succ c ih=>rw [Int.pow_succ];omega
theorem rO (ps:List P4):∀ j:Nat,Tz (cn ps) j<=2 ^ nK ps j
  | 0=>by
    show (1:Int)<=_;have:=va (nK ps 0);omega
  | j+1=>by
    have ih:=rO ps j;have h1:=va (iu ps (ids ps.length) (2*(j:Int)+1));have h2:(0:Int)<=Tz (cn ps) j:=Int.le_of_lt (fB (fun p=>(AO ps p).1) j);show (cn ps (2*(j:Int)+1)+1)*Tz (cn ps) j<=_;have h3:(cn ps (2*(j:Int)+1)+1)*Tz (cn ps) j<=2 ^ iu ps (ids ps.length) (2*(j:Int)+1)*2 ^ nK ps j :=
      Int.mul_le_mul h1 ih h2 (by omega)
    rw [<- Int.pow_add] at h3;refine Int.le_trans h3 ?_;have h4:=Nat.pow_le_pow_right (n:=2) (by decide) (x6 ps j);rw [Nat.add_comm] at h4;have h5:((2 ^ (iu ps (ids ps.length) (2*(j:Int)+1)+nK ps j):Nat):Int)<=((2 ^ nK ps (j+1):Nat):Int):=by omega
    simpa using h5
theorem zR {ps:List P4} (hp:ps.length<=10) (j:Nat):Tz (cn ps) j<=1024:=by
  refine Int.le_trans (rO ps j) ?_;have h:nK ps j<=10:=by
    unfold nK;have:=List.length_filter_le (fun i=>decide (am ps i < 2*(j:Int))) (ids ps.length);rw [eN] at this;omega
  have h4:=Nat.pow_le_pow_right (n:=2) (by decide) h;have h5:((2 ^ nK ps j:Nat):Int)<=((2 ^ 10:Nat):Int):=by omega
  simpa using h5
noncomputable def mZ (ps:List P4) (ms:List Int) (b:Int) (μ:Int->Int) (r:Bool) (c5 c6 c7:bh):aS:=[.val (gD ps),.val (.tuple (ms.map .int)),.val (.tuple [.int b]),.own (.list (bZ (fun i=>br ms b (μ i)) ps.length)),.val (.bool r),c5,c6,c7]
noncomputable def Cb:Fs:=(bi (bY 7 (gy 3 (aG bI (ah (ae 6) (ah (ae 3) (ah (ae 1) (ah (ae 2) aJ))))))) (pf (tE (e2 nU (ae 7) (e2 ce (fw 3) (ae 5)))) (bi (gf 3 (ae 5) (ae 7)) (bY 4 (eC (.bool true)))) eG))
noncomputable def Ep:Fs:=(bi (bY 4 (eC (.bool false))) (iy (jL (ld (ae 0)) (eD 5 6) Cb)))
structure Rs (ps:List P4) (c:Int->Int) (k:Nat) (μ:Int->Int):Prop where
  b:∀ i∈ids ps.length,0<=μ i/\μ i<=Tz c k
  le:∀ U,BS ps c k U->∀ i∈ids ps.length,μ i<=U i
section
variable {ps:List P4} {k:Nat} (G:Gr ps) (hk:k<=100) (M:Ms ps (cn ps) k)
include G hk M
theorem EE:CW ((gj k).map (cn ps)) ((ps.length:Int)+1):=by
  refine ⟨fun m hm=>?_,fun m hm=>?_⟩
  · obtain ⟨p,_,rfl⟩:=List.mem_map.mp hm;exact (AO ps p).1
  · obtain ⟨p,_,rfl⟩:=List.mem_map.mp hm;have:=(AO ps p).2;omega
theorem D5 {μ:Int->Int} (hb:∀ i∈ids ps.length,0<=μ i/\μ i<=Tz (cn ps) k) {i:Int} (hi:i∈ids ps.length):bI [k0 ps i,.list (bZ (fun i=>br ((gj k).map (cn ps)) ((ps.length:Int)+1) (μ i)) ps.length),.tuple (((gj k).map (cn ps)).map .int),.tuple [.int ((ps.length:Int)+1)]]=.ok (br ((gj k).map (cn ps)) ((ps.length:Int)+1) (wF ps (Tz (cn ps)) k μ i)):=by
  obtain ⟨h0,h1⟩:=cE.mp hi;have hd:k0 ps i=(ps[i.toNat]'(by omega)).d:=by
    unfold k0;rw [List.getElem?_eq_getElem (show i.toNat < ps.length by omega)];rfl
  have hmem:=List.getElem_mem (show i.toNat < ps.length by omega);have hl:=M.lo i hi;have hh:=M.hi i hi;have h:=o0 (EE G hk M) (by rw [List.length_map,ke];exact hk) (n:=ps.length) (μ:=μ) (fun j j0 j1=>by rw [mf];exact hb j (cE.mpr ⟨j0,j1⟩)) (p:=ps[i.toNat]'(by omega)) (G.hgo _ hmem) (G.ne _ hmem) (Nat.le_trans (G.hl _ hmem) (by decide)) (by rw [<- eB h0 h1];exact hl) (by rw [<- eB h0 h1,List.length_map,ke];exact hh);rw [hd,h];unfold wF;rw [<- eB h0 h1,<- eX h0 h1,<- eU h0 h1,BV hh]
theorem pP:∀ (m s:Nat) (μ:Int->Int) (r:Bool) (c5 c6 c7:bh),s+m=ps.length->Rs ps (cn ps) k μ ->
    ∃ μ' r' c5' c6' c7',eS (eD 5 6) Cb (de s ((pc s m).map (k0 ps))) (mZ ps ((gj k).map (cn ps)) ((ps.length:Int)+1) μ r c5 c6 c7)=.ok (.nx (mZ ps ((gj k).map (cn ps)) ((ps.length:Int)+1) μ' r' c5' c6' c7'))/\Rs ps (cn ps) k μ'/\(∀ i,μ i<=μ' i) /\
      (r'=false->r=false/\μ'=μ/\∀ j:Nat,s<=j->j < s+m->wF ps (Tz (cn ps)) k μ j<=μ j)/\(r'=true->r=true\/∃ i∈ids ps.length,μ i < μ' i)
  | 0,s,μ,r,c5,c6,c7,_,I=>⟨μ,r,c5,c6,c7,by show eS _ _ [] _=_;rw [fu],I,fun _=>Int.le_refl _,fun h=>⟨h,rfl,fun j h1 h2=>by omega⟩,fun h=>.inl h⟩
  | m+1,s,μ,r,c5,c6,c7,hs,I=>by
    have hi:((s:Nat):Int)∈ids ps.length:=cE.mpr ⟨by omega,by omega⟩;have B:=EE G hk M;have ha:=D5 G hk M I.b hi;have ab:=Bc M I.b hi;obtain ⟨a,ea⟩:∃ a,a=wF ps (Tz (cn ps)) k μ s:=⟨_,rfl⟩
    rw [<- ea] at ha ab;obtain ⟨ms,ems⟩:∃ ms,ms=(gj k).map (cn ps):=⟨_,rfl⟩
    have hsz:sz ms=Tz (cn ps) k:=by rw [ems,mf]
    obtain ⟨b,eb⟩:∃ b,b=(ps.length:Int)+1:=⟨_,rfl⟩
    rw [<- ems,<- eb] at ha B;simp only [<- ems,<- eb];rw [mH,List.map_cons];rw [show de s (k0 ps s::(pc (s+1) m).map (k0 ps))=.tuple [.int s,k0 ps s]::de (s+1) ((pc (s+1) m).map (k0 ps)) from rfl,vY];rw [show ((mZ ps ms b μ r c5 c6 c7).set 5 (.val (.int s))).set 6 (.val (k0 ps s))=mZ ps ms b μ r (.val (.int s)) (.val (k0 ps s)) c7 from rfl];have hset:bY 7 (gy 3 (aG bI (ah (ae 6) (ah (ae 3) (ah (ae 1) (ah (ae 2) aJ)))))) (mZ ps ms b μ r (.val (.int s)) (.val (k0 ps s)) c7)=.ok (.nx (mZ ps ms b μ r (.val (.int s)) (.val (k0 ps s)) (.val (br ms b a)))):=by
      rw [bw];have e:gy 3 (aG bI (ah (ae 6) (ah (ae 3) (ah (ae 1) (ah (ae 2) aJ))))) (mZ ps ms b μ r (.val (.int s)) (.val (k0 ps s)) c7)=.ok (br ms b a):=by
        show (lS (aG bI (ah (ae 6) (ah (ae 3) (ah (ae 1) (ah (ae 2) aJ)))) [.val (gD ps),.val (.tuple (ms.map .int)),.val (.tuple [.int b]),.val (.list (bZ (fun i=>br ms b (μ i)) ps.length)),.val (.bool r),.val (.int s),.val (k0 ps s),w5 c7])>>=jv)=_;simp only [aW,aL,aX,av,ao,R.ok_bind,ha,cc];show (match bg ((jm ms b a).map .int) with | some _=>R.ok (PyData.tuple ((jm ms b a).map .int)) | none=>.no)=_;rw [dj];rfl
      rw [e];rfl
    have hgt:nU (br ms b a) (br ms b (μ s))=.ok (.bool (decide (μ s < a))):=by
      unfold br;rw [Cd,p9 B (I.b _ hi).1 (by rw [hsz];exact (I.b _ hi).2) ab.1 (by rw [hsz];exact ab.2)]
    have hix:ce (.list (bZ (fun i=>br ms b (μ i)) ps.length)) (.int s)=.ok (br ms b (μ s)):=qI (f:=fun i=>br ms b (μ i)) (by omega) (by omega);have htest:(tE (e2 nU (ae 7) (e2 ce (fw 3) (ae 5)))) (mZ ps ms b μ r (.val (.int s)) (.val (k0 ps s)) (.val (br ms b a)))=.ok (decide (μ s < a)):=by
      unfold mZ;simp only [cC,bD,av,ao,pW,p8,R.ok_bind,hix,hgt,cT]
    by_cases z:μ s < a
    · obtain ⟨μ1,e1⟩:∃ μ1:Int->Int,μ1=fun j=>if j=(s:Int) then a else μ j:=⟨_,rfl⟩
      have m1s:μ1 s=a:=by rw [e1];exact if_pos rfl
      have m1o:∀ j:Int,j≠s->μ1 j=μ j:=fun j h=>by rw [e1];exact if_neg h
      have up:∀ j,μ j<=μ1 j:=fun j=>by
        by_cases q:j=(s:Int)
        · subst q;omega
        · rw [m1o j q];omega
      have I1:Rs ps (cn ps) k μ1:=⟨fun j hj=>by
        by_cases q:j=(s:Int)
        · subst q;rw [m1s];exact ab
        · rw [m1o j q];exact I.b j hj,fun U hU j hj=>by
        by_cases q:j=(s:Int)
        · subst q;rw [m1s,ea];exact Int.le_trans (xf M (fun i hi=>⟨(I.b i hi).1,I.le U hU i hi⟩) (fun i hi=>(hU.b i hi).2) hi) (hU.le _ hi)
        · rw [m1o j q];exact I.le U hU j hj⟩
      obtain ⟨μ',r',c5',c6',c7',f1,f2,f3,f4,f5⟩:=pP m (s+1) μ1 true (.val (.int s)) (.val (k0 ps s)) (.val (br ms b a)) (by omega) I1;rw [<- ems,<- eb] at f1;have hbody:Cb (mZ ps ms b μ r (.val (.int s)) (.val (k0 ps s)) c7)=.ok (.nx (mZ ps ms b μ1 true (.val (.int s)) (.val (k0 ps s)) (.val (br ms b a)))):=by
        unfold Cb;rw [aI hset,dU,htest,R.ok_bind,if_pos (decide_eq_true z)];rw [aI (ρ':=mZ ps ms b μ1 r (.val (.int s)) (.val (k0 ps s)) (.val (br ms b a))) (by
          rw [j7 (ds:=bZ (fun i=>br ms b (μ i)) ps.length) (n:=s) (v:=br ms b a) rfl rfl rfl (by omega) (by rw [bJ];omega),jT (by omega) (by omega)];rw [show (fun j=>if j=(s:Int) then br ms b a else br ms b (μ j))=fun j=>br ms b (μ1 j) by
            funext j;rw [e1];dsimp only;split <;> rfl]
          rfl)]
        rfl
      refine ⟨μ',r',c5',c6',c7',?_,f2,fun i=>Int.le_trans (up i) (f3 i),fun h=>?_,fun h=>.inr ⟨s,hi,?_⟩⟩
      · rw [hbody,R.ok_bind,dD,f1]
      · exact nomatch (f4 h).1
      · have:=f3 s;omega
    · obtain ⟨μ',r',c5',c6',c7',f1,f2,f3,f4,f5⟩:=pP m (s+1) μ r (.val (.int s)) (.val (k0 ps s)) (.val (br ms b a)) (by omega) I;rw [<- ems,<- eb] at f1;have hbody:Cb (mZ ps ms b μ r (.val (.int s)) (.val (k0 ps s)) c7)=.ok (.nx (mZ ps ms b μ r (.val (.int s)) (.val (k0 ps s)) (.val (br ms b a)))):=by
        unfold Cb;rw [aI hset,dU,htest,R.ok_bind,if_neg (by rw [decide_eq_false z];simp)];rfl
      refine ⟨μ',r',c5',c6',c7',?_,f2,f3,fun h=>?_,f5⟩
      · rw [hbody,R.ok_bind,dD,f1]
      · obtain ⟨g1,g2,g3⟩:=f4 h;refine ⟨g1,g2,fun j h1 h2=>?_⟩;by_cases q:j=s
        · subst q;omega
        · exact g3 j (by omega) (by omega)
theorem tW:∀ (N:Nat) (μ:Int->Int) (c5 c6 c7:bh),Rs ps (cn ps) k μ->((ps.length:Int)*Tz (cn ps) k-Sm ps.length μ).toNat+2<=N ->
    ∃ μ' c5' c6' c7',dm (tE (ae 4)) Ep N (mZ ps ((gj k).map (cn ps)) ((ps.length:Int)+1) μ true c5 c6 c7)=.ok (.nx (mZ ps ((gj k).map (cn ps)) ((ps.length:Int)+1) μ' false c5' c6' c7'))/\Rs ps (cn ps) k μ'/\BS ps (cn ps) k μ'
  | 0,μ,c5,c6,c7,I,h=>by omega
  | N+1,μ,c5,c6,c7,I,h=>by
    obtain ⟨μ1,r1,d5,d6,d7,f1,f2,f3,f4,f5⟩:=pP G hk M ps.length 0 μ false c5 c6 c7 (by omega) I;have hbody:Ep (mZ ps ((gj k).map (cn ps)) ((ps.length:Int)+1) μ true c5 c6 c7)=.ok (.nx (mZ ps ((gj k).map (cn ps)) ((ps.length:Int)+1) μ1 r1 d5 d6 d7)):=by
      unfold Ep;rw [aI (ρ':=mZ ps ((gj k).map (cn ps)) ((ps.length:Int)+1) μ false c5 c6 c7) (by rfl)];rw [fg,gx,kq];rw [show ae 0 (mZ ps ((gj k).map (cn ps)) ((ps.length:Int)+1) μ false c5 c6 c7)=.ok (gD ps) from rfl];simp only [R.ok_bind,cH];rw [BC,show bZ (k0 ps) ps.length=(pc 0 ps.length).map (k0 ps) by rw [lT];rfl,f1];rfl
    rw [iG,show tE (ae 4) (mZ ps ((gj k).map (cn ps)) ((ps.length:Int)+1) μ true c5 c6 c7)=.ok true from rfl,R.ok_bind,if_pos rfl,hbody,R.ok_bind,dD];cases hr:r1 with
    | true =>
      have hs:Sm ps.length μ < Sm ps.length μ1:=by
        rcases f5 hr with q | q
        · exact nomatch q
        · exact xU (fun x _=>f3 x) q
      have hu:Sm ps.length μ1<=(ps.length:Int)*Tz (cn ps) k:=by
        have:=sr (l:=ids ps.length) (μ:=μ1) (U:=fun _=>Tz (cn ps) k) fun x hx=>(f2.b x hx).2
        rw [kY,eN] at this;exact this
      exact tW N μ1 d5 d6 d7 f2 (by omega)
    | false =>
      obtain ⟨_,g2,g3⟩:=f4 hr;subst g2;obtain ⟨N',rfl⟩:∃ N',N=N'+1:=⟨N-1,by omega⟩
      refine ⟨μ1,d5,d6,d7,?_,f2,⟨f2.b,fun i hi=>?_⟩⟩
      · rw [iG];rfl
      · obtain ⟨h0,h1⟩:=cE.mp hi;have:=g3 i.toNat (by omega) (by omega);rw [show ((i.toNat:Nat):Int)=i by omega] at this;exact this
theorem xR (h10:ps.length<=10) (hmo:bN [gD ps]=.ok (.tuple (((gj k).map (cn ps)).map .int))):∃ μ,fQ [gD ps]=.ok (.tuple (bZ (fun i=>br ((gj k).map (cn ps)) ((ps.length:Int)+1) (μ i)) ps.length))/\Rs ps (cn ps) k μ/\BS ps (cn ps) k μ:=by
  have hT:=fB M.hc k;have hT2:=zR h10 k;have hbe:=oz (ps:=ps) G.hp;have I0:Rs ps (cn ps) k fun _=>0:=⟨fun i _=>⟨Int.le_refl _,by omega⟩,fun U hU i hi=>(hU.b i hi).1⟩
  have hS0:Sm ps.length (fun _=>0)=0:=by unfold Sm;rw [kY];omega
  have hn:(ps.length:Int)*Tz (cn ps) k<=10*1024:=Int.mul_le_mul (by omega) hT2 (by omega) (by omega);obtain ⟨μ,c5,c6,c7,e,I,P⟩:=tW G hk M 1000000 (fun _=>0) .non .non .non I0 (by omega);refine ⟨μ,?_,I,P⟩;have hfil:=kG (h:=[]) (ms:=(gj k).map (cn ps)) (by simp) (by rw [List.length_map,ke];omega);have hrow:PyData.tuple ((([]:List Int)++List.replicate (((gj k).map (cn ps)).length-([]:List Int).length) 0).map .int)=br ((gj k).map (cn ps)) ((ps.length:Int)+1) 0:=by
    unfold br jm;rw [if_neg (by rw [mf];omega),lV (EE G hk M).nn];rfl
  rw [hrow] at hfil;have hc:=dr (aG bE (ah (pR aJ) (ah (ae 1) aJ))) [.non,.val (.tuple (((gj k).map (cn ps)).map .int))] 0 (fun _=>br ((gj k).map (cn ps)) ((ps.length:Int)+1) 0) (ps.map P4.d) fun d _=>by
    simp only [List.set_cons_zero,aW,lW,aL,aX,av,ao,R.ok_bind];rw [if_pos (by show 0<=_;decide),R.ok_bind];exact hfil
  have htab:(ps.map P4.d).map (fun _=>br ((gj k).map (cn ps)) ((ps.length:Int)+1) 0)=bZ (fun _=>br ((gj k).map (cn ps)) ((ps.length:Int)+1) 0) ps.length:=by
    unfold bZ;rw [List.map_const',List.map_const',List.length_map,eN]
  rw [htab] at hc;unfold fQ o9;refine dO ?_;rw [show ([gD ps].map bh.val++List.replicate (8 - [gD ps].length) bh.non)=[.val (gD ps),.non,.non,.non,.non,.non,.non,.non] from rfl];rw [aI (ρ':=[.val (gD ps),.val (.tuple (((gj k).map (cn ps)).map .int)),.non,.non,.non,.non,.non,.non]) (by
    simp only [bw,aW,aL,aX,ao,R.ok_bind,hmo];rfl)]
  rw [aI (ρ':=[.val (gD ps),.val (.tuple (((gj k).map (cn ps)).map .int)),.val (.tuple [.int ((ps.length:Int)+1)]),.non,.non,.non,.non,.non]) (by
    simp only [bw,aW,aL,aX,ao,R.ok_bind,hbe];rfl)]
  rw [aI (ρ':=[.val (gD ps),.val (.tuple (((gj k).map (cn ps)).map .int)),.val (.tuple [.int ((ps.length:Int)+1)]),.own (.list (bZ (fun _=>br ((gj k).map (cn ps)) ((ps.length:Int)+1) 0) ps.length)),.non,.non,.non,.non]) (by
    rw [kr,bj,show az 1 [1] [.val (gD ps),.val (.tuple (((gj k).map (cn ps)).map .int)),.val (.tuple [.int ((ps.length:Int)+1)]),.non,.non,.non,.non,.non]=[.non,.val (.tuple (((gj k).map (cn ps)).map .int))] from rfl];simp only [bT,ao,R.ok_bind,cH,cc];rw [if_pos (by rw [List.length_map];exact bC (by omega)),hc];rfl)]
  rw [aI (ρ':=mZ ps ((gj k).map (cn ps)) ((ps.length:Int)+1) (fun _=>0) true .non .non .non) (by rfl)];rw [aI (ρ':=mZ ps ((gj k).map (cn ps)) ((ps.length:Int)+1) μ false c5 c6 c7) (by
    rw [fg];unfold Ep Cb at e;unfold l9;rw [e];rfl)]
  rfl
theorem Ei (h10:ps.length<=10) (hmo:bN [gD ps]=.ok (.tuple (((gj k).map (cn ps)).map .int))):∃ μ,bM [gD ps]=.ok (.tuple (bZ (fun i=>.int (if μ i=Tz (cn ps) k then 1 else 0)) ps.length))/\Rs ps (cn ps) k μ/\BS ps (cn ps) k μ:=by
  obtain ⟨μ,e,I,P⟩:=xR G hk M h10 hmo;have hbe:=oz (ps:=ps) G.hp;have hp:=G.hp;refine ⟨μ,?_,I,P⟩;obtain ⟨ms,ems⟩:∃ ms,ms=(gj k).map (cn ps):=⟨_,rfl⟩
  obtain ⟨b,eb⟩:∃ b,b=(ps.length:Int)+1:=⟨_,rfl⟩
  have B:=EE G hk M;rw [<- ems,<- eb] at e B;rw [<- eb] at hbe;have hsz:sz ms=Tz (cn ps) k:=by rw [ems,mf]
  have hc:∀ is:List Int,(∀ i∈is,i∈ids ps.length)->bF (aP 0) (fun _=>.ok true) (wE (tE (e2 (gW) (ae 0) (ae 1))) (eC (.int 1)) (eC (.int 0))) [.non,.val (.tuple [.int b])] (is.map fun i=>br ms b (μ i))=.ok (is.map fun i=>.int (if μ i=Tz (cn ps) k then 1 else 0)):=by
    intro is;induction is with
    | nil=>intro _;rfl
    | cons i is ih =>
      intro h;have hi:=I.b i (h i List.mem_cons_self);have hq:gW (br ms b (μ i)) (.tuple [.int b])=.ok (.bool (decide (μ i=Tz (cn ps) k))):=by
        have:=tu (jm ms b (μ i)) [b];rw [show ([b].map PyData.int)=[.int b] from rfl] at this;unfold br;rw [this];congr 2;rw [<- hsz] at hi ⊢;exact decide_eq_decide.mpr (uM B hi.1 hi.2)
      rw [List.map_cons,dw,ih fun x hx=>h x (List.mem_cons_of_mem _ hx)];simp only [List.set_cons_zero,nD,cC,bD,ao,av,bX,R.ok_bind,hq,cT,if_true,List.map_cons];by_cases z:μ i=Tz (cn ps) k
      · rw [decide_eq_true z,if_pos rfl,if_pos z];rfl
      · rw [decide_eq_false z,if_neg (by simp),if_neg z];rfl
  unfold bM gB;refine dO ?_;rw [show ([gD ps].map bh.val++List.replicate (2 - [gD ps].length) bh.non)=[.val (gD ps),.non] from rfl];rw [aI (ρ':=[.val (gD ps),.val (.tuple [.int b])]) (by
    simp only [bw,aW,aL,aX,ao,R.ok_bind,hbe];rfl)]
  rw [bU,cp,bj,show az 1 [1] [.val (gD ps),.val (.tuple [.int b])]=[.non,.val (.tuple [.int b])] from rfl];simp only [bT,aW,aL,aX,ao,R.ok_bind,e,cH,cc];rw [if_pos (by rw [bJ];exact bC (by omega))];have h:=hc (ids ps.length) fun i h=>h
  unfold bZ;rw [h];rfl
end
theorem zH {ps:List P4} {k:Nat} (M:Ms ps (cn ps) k) {μ:Int->Int} (I:Rs ps (cn ps) k μ) (P:BS ps (cn ps) k μ) {win:Int->Int} {mv:Int->Option Int} (W:oZ ps (ids ps.length) win mv) {i:Int} (hi:i∈ids ps.length):(if μ i=Tz (cn ps) k then (1:Int) else 0)=win i:=by
  obtain ⟨U,hU,hf⟩:=yJ M (fun _=>rfl) W;by_cases z:μ i=Tz (cn ps) k
  · rw [if_pos z];rcases W.two i hi with q | q
    · have:=hf i hi q;have:=I.le U hU i hi;omega
    · exact q.symm
  · rw [if_neg z];have:=(I.b i hi).2;exact (yG M P W hi (by omega)).symm
theorem yp {ps:List P4} {hi:Int} (hpl:∀ p∈ps,Pl ps.length hi p) (h1:1<=ps.length) (h10:ps.length<=10) (hi12:hi<=12):∃ w:Int->Int,bM [gD ps]=.ok (.tuple (((ids ps.length).map w).map .int))/\∀ {win:Int->Int} {mv:Int->Option Int},oZ ps (ids ps.length) win mv->∀ i∈ids ps.length,w i=win i:=by
  have G:Gr ps:=A1 hpl (by omega);have P:∀ i∈ids ps.length,(ap ps i=0\/ap ps i=1)/\0<=am ps i/\am ps i<=12:=fun i hi'=>by
    obtain ⟨a0,a1⟩:=cE.mp hi';have P:=hpl _ (List.getElem_mem (show i.toNat < ps.length by omega));rw [eX a0 a1,eB a0 a1];have:=P.w0;have:=P.w1;have:=P.m0;have:=P.m1;omega
  obtain ⟨h,hx,⟨i0,hi0,e0⟩,hm⟩:=oq (ps:=ps) (js:=ids ps.length) (fun z=>by have:=eN ps.length;rw [z] at this;simp at this;omega);rw [<- oJ] at hx;have hb:=(P i0 hi0).2;obtain ⟨mx,emx⟩:∃ mx:Nat,h=mx:=⟨h.toNat,by omega⟩
  rw [emx] at hx;have M:Ms ps (cn ps) ((mx+1) / 2):=by
    refine ⟨fun p=>(AO ps p).1,fun i hi=>(P i hi).1,fun i hi g hg=>cE.mpr (G.goals hg),fun i hi z=>?_,fun i hi=>(P i hi).2.1,fun i hi=>?_,fun i hi o=>?_⟩
    · obtain ⟨a0,a1⟩:=cE.mp hi;obtain ⟨g,hg⟩:=G.gne a0 a1;rw [z] at hg;exact nomatch hg
    · have:=hm i hi;omega
    · have:=hm i hi;have:=(P i hi).2;omega
  obtain ⟨μ,e,I,Q⟩:=Ei G (by omega) M h10 (zk G.hp hx (by omega));refine ⟨fun i=>if μ i=Tz (cn ps) ((mx+1) / 2) then 1 else 0,?_,fun W i hi=>zH M I Q W hi⟩;rw [e,List.map_map];rfl
theorem xN (l:List PyData):xu (.list (l.map fun _=>.bool true))=.ok (.bool true):=by
  show (match D2.o4 (l.map fun _=>PyData.bool true) with | some k=>R.ok (PyData.bool k) | none=>.no)=_;rw [uI (fun _=>true)];simp
theorem yx (c:Addr):xW (uJ c):=by
  intro ns hns;obtain ⟨ps,hi,hgr,hpl,hp1,hp10,hi0,hi12⟩:=sL ns (most:=10) (by omega) (by omega);have G:Gr ps:=A1 hpl (by omega);have hp:=G.hp;obtain ⟨win,mv,hwon,I,hn⟩:=Cu G (vd G) (c:=c) fun i hi'=>by
    obtain ⟨h0,h1⟩:=cE.mp hi';have P:=hpl _ (List.getElem_mem (show i.toNat < ps.length by omega));rw [eX h0 h1,eB h0 h1];have:=P.w0;have:=P.w1;have:=P.m0;have:=P.m1;omega
  obtain ⟨w,hm,hw⟩:=yp hpl hp1 (by omega) hi12;obtain ⟨is,eis⟩:∃ is,is=(ids ps.length).map w:=⟨_,rfl⟩
  have hil:is.length<=1000:=by rw [eis,List.length_map,eN];omega
  have hwin:oT (fun i=>some (win i)) ps.length=.tuple (is.map .int):=by
    rw [eis,List.map_map];show PyData.tuple (bZ (fun i=>.int (win i)) ps.length)=.tuple (bZ (fun i=>.int (w i)) ps.length);rw [cB (g:=fun i=>.int (w i)) fun i h0 h1=>by
      rw [hw I i (cE.mpr ⟨h0,h1⟩)]]
  rw [<- eis] at hm;rw [hwin] at hwon;have hc1:=dr (e1 (nP .int) (ae 0)) [.non] 0 (fun _=>.bool true) (is.map PyData.int) fun d hd=>by
    obtain ⟨x,_,rfl⟩:=List.mem_map.mp hd;rfl
  have hc2:=dr (CG (e1 (nP .bool) (ae 0))) [.non] 0 (fun _=>.bool true) (is.map PyData.int) fun d hd=>by
    obtain ⟨x,_,rfl⟩:=List.mem_map.mp hd;rfl
  have hall:=xN (is.map PyData.int);have heq:=tu is is;rw [decide_eq_true rfl] at heq;unfold uJ yD;refine dO ?_;rw [show ([vC ns].map bh.val++List.replicate (3 - [vC ns].length) bh.non)=[.val (vC ns),.non,.non] from rfl];rw [aI (ρ':=[.val (vC ns),.val (gD ps),.non]) (by
    simp only [bw,aW,aL,aX,ao,bX,R.ok_bind,hgr];rfl)]
  rw [aI (ρ':=[.val (vC ns),.val (gD ps),.val (.tuple (is.map .int))]) (by
    simp only [bw,aW,aL,aX,ao,av,R.ok_bind,hm];rfl)]
  rw [aI (ρ':=[.val (vC ns),.val (gD ps),.val (.tuple (is.map .int))]) (by
    rw [dU,z9,mm,mm,cC,cC,cp,cp,bj,show az 1 [] [.val (vC ns),.val (gD ps),.val (.tuple (is.map .int))]=[.non] from rfl];simp only [bT,ao,av,R.ok_bind,cH,cc];rw [if_pos (by rw [List.length_map];exact bC hil),hc1,jX,R.ok_bind,hall];rfl)]
  rw [aI (ρ':=[.val (vC ns),.val (gD ps),.val (.tuple (is.map .int))]) (by
    rw [dU,mm,cC,cp,bj,show az 1 [] [.val (vC ns),.val (gD ps),.val (.tuple (is.map .int))]=[.non] from rfl];simp only [bT,ao,av,R.ok_bind,cH,cc];rw [if_pos (by rw [List.length_map];exact bC hil),hc2,jX,R.ok_bind,hall];rfl)]
  have h0:ce (.tuple [.tuple (is.map .int),oT mv ps.length]) (.int 0)=.ok (.tuple (is.map .int)):=rfl;simp only [bU,zg,bD,aW,aL,aX,ao,av,bX,R.ok_bind,hwon,hm,h0,heq,cT,if_true]
noncomputable def Dt:List Stmt:=PySem.Challenge.pw_duelground_k31_whole_two_ways.main.body
noncomputable abbrev top (i:Nat):Stmt:=Dt.getD i (.Pass ⟨0,0,0,0⟩)
noncomputable abbrev gH:Stmt:=top 31
noncomputable abbrev i6:Stmt:=top 32
noncomputable abbrev iU:Stmt:=top 33
noncomputable abbrev i9:Stmt:=top 34
noncomputable abbrev iS:Stmt:=top 35
noncomputable abbrev fP:Stmt:=top 36
noncomputable abbrev hW:Stmt:=top 5
noncomputable abbrev kj:Stmt:=top 6
noncomputable abbrev dX:Stmt:=top 4
noncomputable abbrev iK:Stmt:=top 7
noncomputable abbrev gn:Stmt:=top 8
noncomputable abbrev lQ:Stmt:=top 9
noncomputable abbrev e8:Stmt:=top 10
noncomputable abbrev ia:Stmt:=top 13
noncomputable abbrev hV:Stmt:=top 18
noncomputable abbrev ed:Stmt:=top 17
noncomputable abbrev kf:Stmt:=top 24
noncomputable abbrev dn:Stmt:=top 25
noncomputable abbrev ki:Stmt:=top 14
noncomputable abbrev gA:Stmt:=top 22
noncomputable abbrev eh:Stmt:=top 23
noncomputable abbrev hJ:Stmt:=top 16
noncomputable abbrev fD:Stmt:=top 19
noncomputable abbrev jl:Stmt:=top 15
noncomputable abbrev cz:Stmt:=top 27
noncomputable abbrev cX:Stmt:=top 20
noncomputable abbrev eW:Stmt:=top 28
noncomputable abbrev yE:Stmt:=top 29
noncomputable abbrev iY:Stmt:=top 38
section
variable {P:Program} {w:World} {K:PySem.W.Frag} {mg:Str->Option Value} {base:Heap} {f:Addr} {fd:FuncData} {k:Nat}
noncomputable abbrev je:Stmt:=At (top 12) 0
theorem zU:aY ["self","who","places","moves"] ["self","who","places","moves"] (ai je):=⟨rfl,rfl,rfl,by decide +kernel,rfl,by decide +kernel,by decide +kernel⟩
theorem Ah {P:Program} {w:World} {K:PySem.W.Frag} {mg:Str->Option Value} {base:Heap} {f C:Addr} {fd:FuncData} (F:gI K "__init__" "Share.__init__" je f fd) (cl:wJ K C) (n0:dS K C "who") (n1:dS K C "places") (n2:dS K C "moves") :
    bf P w K mg base (cV P w mg) 1 f fd ["self","who","places","moves"] (Ez C ["who","places","moves"]):=by
  obtain ⟨oc,od,kV,doc,pm,an,cdv,ct,osl,rfl,lk,hcd⟩:=F.ex;refine xQ (k:=0) lk hcd zU (fun vs H Q E h=>?_) fun A outer s H vs Q E hr h=>?_
  · obtain ⟨x,dx,ws,rfl,_,hl,_⟩:=h;rw [List.length_cons,hl];rfl
  · obtain ⟨x,dx,ws,rfl,hx,hl,k⟩:=h
    match ws,hl with
    | [w1,w2,w3],_ =>
      refine ⟨_,l7 (tL (pv 0) (pv 1) rfl) (l7 (tL (pv 0) (pv 2) rfl) (uU (tL (pv 0) (pv 3) rfl))),?_⟩;refine ⟨_,rfl,_,rfl,x,C,dx,[],rfl,hx,cl,n0,(by show 0 < 1000;decide),_,rfl,_,rfl,x,C,dx,_,rfl,ba,cl,n1,(by show 1 < 1000;decide),_,rfl,_,rfl,x,C,dx,_,rfl,ba,cl,n2,(by refine Nat.lt_of_le_of_lt (gw _ _ _) ?_;exact Nat.lt_of_le_of_lt (Nat.succ_le_succ (gw _ _ _)) (by show 2 < 1000;decide)),?_⟩;refine k _ (by rw [ba,DL (by decide +kernel) (by decide +kernel) (by decide +kernel)];rfl) fun b hb=>?_
      rw [ar hb,ar hb,ar hb]
theorem nY:aY ["_law_script","_law_k"] ["_law_script","_law_k"] (ai gH):=⟨rfl,rfl,rfl,by decide +kernel,rfl,by decide +kernel,by decide +kernel⟩
theorem nQ (W:gI K "_law_cell_at" "_law_cell_at" gH f fd) (b_len:mg "len" = none) :
    bf P w K mg base (cV P w mg) (k+1) f fd ["_law_script","_law_k"] (dz (dP 2 (gF)) 2):=by
  refine aE W nY (G:=["len"]) (by decide +kernel) fun cdv A outer s H E hr T=>?_
  exact (ak (dZ (rL (ad (aa T 1 rfl)) (ad (cK T 0 rfl b_len (ad (aa T 0 rfl))))) (aw (aH (aQ T.hu (ad (aa T 0 rfl)) (ad (aa T 1 rfl)) (fun _ _=>rfl)))) dq)
      (aw (aH aj)))
theorem rj:aY ["_law_script","_law_k","_law_drawn_here"] ["_law_script","_law_k"] (ai i6):=⟨rfl,rfl,rfl,by decide +kernel,rfl,by decide +kernel,by decide +kernel⟩
theorem rP (W:gI K "_law_mixed" "_law_mixed" i6 f fd) {f22:Addr} {d22:FuncData} {cf:g9} (C22:iq P w K mg base k "_law_cell_at" ["_law_script","_law_k"] cf f22 d22) :
    bf P w K mg base (cV P w mg) (k+1) f fd ["_law_script","_law_k"] (dz (dP 3 (iL cf)) 2):=by
  refine aE W rj (G:=["_law_cell_at"]) (by decide +kernel) fun cdv A outer s H E hr T=>?_
  exact (ak (aM T 2 rfl (cg (ad (eI (ad (ci (ad (ci (ad (aC C22 hr T 0 rfl (af (aa T 0 rfl) (af (aa T 1 rfl) aq)) rfl (ag (ag ay)))) (ad (eI (ad aj) (ad (aa T 1 rfl)))))) (ad aj))) (ad aj))) (ad aj)))
      (aw (aH (cg (ad (ci (ad (ci (ad (eI (ad (aa T 2 rfl)) (ad (aa T 2 rfl)))) (ad (eI (ad aj) (ad (aa T 2 rfl)))))) (ad (aa T 1 rfl)))) (ad aj)))))
theorem rG:aY ["_law_number","_law_k","_law_drawn_here"] ["_law_number","_law_k"] (ai iU):=⟨rfl,rfl,rfl,by decide +kernel,rfl,by decide +kernel,by decide +kernel⟩
theorem qp (W:gI K "_law_drawn" "_law_drawn" iU f fd) :
    bf P w K mg base (cV P w mg) (k+1) f fd ["_law_number","_law_k"] (dz (dP 3 (iF)) 2):=by
  refine aE W rG (G:=[]) (by decide +kernel) fun cdv A outer s H E hr T=>?_
  exact (ak (aM T 2 rfl (cg (ad (eI (ad (ci (ad (ci (ad (aa T 0 rfl)) (ad (eI (ad aj) (ad (aa T 1 rfl)))))) (ad aj))) (ad aj))) (ad aj)))
      (aw (aH (cg (ad (ci (ad (ci (ad (eI (ad (aa T 2 rfl)) (ad (aa T 2 rfl)))) (ad (eI (ad aj) (ad (aa T 2 rfl)))))) (ad (aa T 1 rfl)))) (ad aj)))))
theorem qH:aY ["_law_number","_law_count","_law_found","_law_k"] ["_law_number","_law_count"] (ai i9):=⟨rfl,rfl,rfl,by decide +kernel,rfl,by decide +kernel,by decide +kernel⟩
theorem qM (W:gI K "_law_goals" "_law_goals" i9 f fd) {f24:Addr} {d24:FuncData} {bu:g9} (C24:iq P w K mg base k "_law_drawn" ["_law_number","_law_k"] bu f24 d24) (b_int:mg "int" = none) (b_range:mg "range" = none) (b_sorted:mg "sorted" = none) (b_tuple:mg "tuple" = none) :
    bf P w K mg base (cV P w mg) (k+1) f fd ["_law_number","_law_count"] (dz (dP 4 (iM bu)) 2):=by
  refine aE W qH (G:=["range","int","_law_drawn","tuple","sorted"]) (by decide +kernel) fun cdv A outer s H E hr T=>?_
  exact (ak (kl T 2 rfl rn)
      (ak (cY (have T:=T.nox;fq PassesOwn.never T.calm (ja T 0 rfl b_range (af (ci (ad (ci (ad aj) (ad (cg (ad (aa T 0 rfl)) (ad aj))))) (ad (eI (ad aj) (ad (wA T 1 rfl b_int (ad (lU T.hu (ad (cg (ad (fW (ad (aa T 0 rfl)) (ad aj))) (ad aj))) (ad aj)))))))) aq) (ag ay)) (aN T 3 rfl) (aw (wK T 2 rfl (cg (ad (aC C24 hr T 2 rfl (af (aa T 0 rfl) (af (aa T 3 rfl) aq)) rfl (ag (ag ay)))) (ad (aa T 1 rfl))) fV))))
      (aw (aH (bH T 3 rfl b_tuple (cU (ph T 4 rfl b_sorted (dB T 2 rfl))))))))
theorem rg:aY ["_law_number","_law_count","_law_high","_law_gain"] ["_law_number","_law_count","_law_high"] (ai iS):=⟨rfl,rfl,rfl,by decide +kernel,rfl,by decide +kernel,by decide +kernel⟩
theorem qw (W:gI K "_law_place" "_law_place" iS f fd) {f24:Addr} {d24:FuncData} {bu:g9} (C24:iq P w K mg base k "_law_drawn" ["_law_number","_law_k"] bu f24 d24) {f25:Addr} {d25:FuncData} {cL:g9} (C25:iq P w K mg base k "_law_goals" ["_law_number","_law_count"] cL f25 d25) :
    bf P w K mg base (cV P w mg) (k+1) f fd ["_law_number","_law_count","_law_high"] (dz (dP 4 (iD bu cL)) 3):=by
  refine aE W rg (G:=["_law_goals","_law_drawn"]) (by decide +kernel) fun cdv A outer s H E hr T=>?_
  exact (ak (aM T 3 rfl (gT (ad (cg (ad (fW (ad (aa T 0 rfl)) (ad aj))) (ad aj))) (ad aj)))
      (ak (dZ (cZ T.hu (ad (cg (ad (fW (ad (aa T 0 rfl)) (ad aj))) (ad aj))) (ad aj)) (aw (aM T 3 rfl (gT (ad (cg (ad (fW (ad (aa T 0 rfl)) (ad aj))) (ad aj))) (ad aj)))) dq)
      (aw (aH (iZ (af (cg (ad (aa T 0 rfl)) (ad aj)) (af (cg (ad (fW (ad (aa T 0 rfl)) (ad aj))) (ad (ci (ad (aa T 2 rfl)) (ad aj)))) (af (aa T 3 rfl) (af (aC C25 hr T 0 rfl (af (aC C24 hr T 1 rfl (af (aa T 0 rfl) (af aj aq)) rfl (ag (ag ay))) (af (aa T 1 rfl) aq)) rfl (ag (ag ay))) aq)))))))))
theorem qd:aY ["_law_script","_law_most","_law_number","_law_count","_law_high"] ["_law_script","_law_most"] (ai fP):=⟨rfl,rfl,rfl,by decide +kernel,rfl,by decide +kernel,by decide +kernel⟩
theorem qf (W:gI K "_law_ground" "_law_ground" fP f fd) {f23:Addr} {d23:FuncData} {cj:g9} (C23:iq P w K mg base k "_law_mixed" ["_law_script","_law_k"] cj f23 d23) {f26:Addr} {d26:FuncData} {cx:g9} (C26:iq P w K mg base k "_law_place" ["_law_number","_law_count","_law_high"] cx f26 d26) (b_len:mg "len" = none) (b_max:mg "max" = none) (b_min:mg "min" = none) (b_range:mg "range" = none) (b_tuple:mg "tuple" = none) :
    bf P w K mg base (cV P w mg) (k+1) f fd ["_law_script","_law_most"] (dz (dP 5 (im cj cx)) 2):=by
  refine aE W qd (G:=["_law_mixed","min","max","len","tuple","range"]) (by decide +kernel) fun cdv A outer s H E hr T=>?_
  exact (ak (aM T 2 rfl (aC C23 hr T 0 rfl (af (aa T 0 rfl) (af aj aq)) rfl (ag (ag ay))))
      (ak (aM T 3 rfl (ci (ad aj) (ad (cg (ad (aa T 2 rfl)) (ad (xz T 1 rfl b_min (ad (aa T 1 rfl)) (ad (yC T 2 rfl b_max (ad aj) (ad (cK T 3 rfl b_len (ad (aa T 0 rfl))))))))))))
      (ak (aM T 4 rfl (aQ T.hu (cU (oA (af aj (af aj (af aj (af aj (af aj (af aj aq)))))))) (ad (cg (ad (fW (ad (aa T 2 rfl)) (ad aj))) (ad aj))) (fun _ _=>rfl)))
      (aw (aH (bH T 4 rfl b_tuple (cU (bm (N:=["_law_k","_law_script","_law_count","_law_high"]) (own:=1) (G:=["_law_place","_law_mixed"]) (fr:=[0,3,4]) T rfl rfl (oN:=["_law_script","_law_most","_law_number","_law_count","_law_high"]) (on:=(ai fP).names) (by decide +kernel) (ja T 5 rfl b_range (af (aa T 3 rfl) aq) (ag ay)) (bn (by decide)) (fun cl C s' H' fp E' T=>⟨(aN T 0 rfl),cs,(aC C26 hr T 0 rfl (af (aC C23 hr T 1 rfl (af (aa T 1 rfl) (af (ci (ad aj) (ad (aa T 0 rfl))) aq)) rfl (ag (ag ay))) (af (aa T 2 rfl) (af (aa T 3 rfl) aq))) rfl (ag (ag (ag ay))))⟩)))))))))
theorem pI:aY ["ground"] ["ground"] (ai hW):=⟨rfl,rfl,rfl,by decide +kernel,rfl,by decide +kernel,by decide +kernel⟩
theorem pJ (W:gI K "beyond_all" "beyond_all" hW f fd) (b_len:mg "len" = none) :
    bf P w K mg base (cV P w mg) (k+1) f fd ["ground"] (dz (dP 1 (h7)) 1):=by
  refine aE W pI (G:=["len"]) (by decide +kernel) fun cdv A outer s H E hr T=>?_
  exact (aw (aH (iZ (af (ci (ad (cK T 0 rfl b_len (ad (aa T 0 rfl)))) (ad aj)) aq))))
theorem xw:aY ["head","most"] ["head","most"] (ai kj):=⟨rfl,rfl,rfl,by decide +kernel,rfl,by decide +kernel,by decide +kernel⟩
theorem w6 (W:gI K "filled" "filled" kj f fd) (b_len:mg "len" = none) (b_tuple:mg "tuple" = none) :
    bf P w K mg base (cV P w mg) (k+1) f fd ["head","most"] (dz (dP 2 (mY)) 2):=by
  refine aE W xw (G:=["tuple","len"]) (by decide +kernel) fun cdv A outer s H E hr T=>?_
  exact (aw (aH (ci (ad (aa T 0 rfl)) (ad (bH T 0 rfl b_tuple (cU (bm (N:=["count"]) (own:=1) (G:=[]) (fr:=[]) T rfl rfl (oN:=["head","most"]) (on:=(ai kj).names) (by decide +kernel) (bx (jO (ad (aa T 1 rfl)) (kP (cK T 1 rfl b_len (ad (aa T 0 rfl)))) kH)) (bn (by decide)) (fun cl C s' H' fp E' T=>⟨(aN T 0 rfl),cs,aj⟩))))))))
theorem nZ:aY ["ground","marks"] ["ground"] (ai dX):=⟨rfl,rfl,rfl,by decide +kernel,rfl,by decide +kernel,by decide +kernel⟩
theorem n6 (W:gI K "most_counts" "most_counts" dX f fd) {t_MARK:Tok} (g_MARK:mg "MARK" = some (.int 1 t_MARK)) (b_max:mg "max" = none) (b_range:mg "range" = none) (b_tuple:mg "tuple" = none) :
    bf P w K mg base (cV P w mg) (k+1) f fd ["ground"] (dz (dP 2 (gG)) 1):=by
  refine aE W nZ (G:=["tuple","range","max"]) (by decide +kernel) fun cdv A outer s H E hr T=>?_
  exact (ak (aM T 1 rfl (o2 (bm (N:=["place"]) (own:=1) (G:=["MARK"]) (fr:=[]) T rfl rfl (oN:=["ground","marks"]) (on:=(ai dX).names) (by decide +kernel) (bx (aa T 0 rfl)) (bn (by decide)) (fun cl C s' H' fp E' T=>⟨(aN T 0 rfl),cs,(aQ T.hu (ad (aa T 0 rfl)) (ad (cy T 0 rfl g_MARK)) (fun _ _=>rfl))⟩))))
      (aw (aH (bH T 0 rfl b_tuple (cU (bm (N:=["mark","marks"]) (own:=1) (G:=[]) (fr:=[1]) T rfl rfl (oN:=["ground","marks"]) (on:=(ai dX).names) (by decide +kernel) (ly T 1 rfl b_range (af (oQ T 2 rfl b_max (ad (aa T 1 rfl))) (af aj (af (mV (ad aj)) aq))) (ag (ag (ag ay)))) (bn (by decide)) (fun cl C s' H' fp E' T=>⟨(aN T 0 rfl),(dY (cZ T.hu (ad (cg (ad (aa T 0 rfl)) (ad aj))) (ad aj))),(sD (ad (aa T 1 rfl)) (aa T 0 rfl))⟩)))))))
theorem r8:aY ["head","most","beyond","where"] ["head","most","beyond"] (ai iK):=⟨rfl,rfl,rfl,by decide +kernel,rfl,by decide +kernel,by decide +kernel⟩
theorem se (W:gI K "row_above" "row_above" iK f fd) {f2:Addr} {d2:FuncData} {bE:g9} (C2:iq P w K mg base k "filled" ["head","most"] bE f2 d2) (b_len:mg "len" = none) (b_range:mg "range" = none) :
    bf P w K mg base (cV P w mg) (k+1) f fd ["head","most","beyond"] (dz (dP 4 (iR bE)) 3):=by
  refine aE W r8 (G:=["range","len","filled"]) (by decide +kernel) fun cdv A outer s H E hr T=>?_
  exact (ak (cY (have T:=T.nox;fq PassesOwn.never T.calm (ly T 0 rfl b_range (af (gT (ad (cK T 1 rfl b_len (ad (aa T 0 rfl)))) (ad aj)) (af (mV (ad aj)) (af (mV (ad aj)) aq))) (ag (ag (ag ay)))) (aN T 3 rfl) (aw (dZ (rL (ad (aQ T.hu (ad (aa T 0 rfl)) (ad (aa T 3 rfl)) (fun _ _=>rfl))) (ad (aQ T.hu (ad (aa T 1 rfl)) (ad (aa T 3 rfl)) (fun _ _=>rfl)))) (aw (aH (aC C2 hr T 2 rfl (af (ci (ad (jO (ad (aa T 0 rfl)) kH (kP (aa T 3 rfl)))) (ad (iZ (af (ci (ad (aQ T.hu (ad (aa T 0 rfl)) (ad (aa T 3 rfl)) (fun _ _=>rfl))) (ad aj)) aq)))) (af (aa T 1 rfl) aq)) rfl (ag (ag ay))))) dq))))
      (aw (aH (aa T 2 rfl))))
theorem rz:aY ["place","measures","most","beyond","rows","row","head"] ["place","measures","most","beyond"] (ai gn):=⟨rfl,rfl,rfl,by decide +kernel,rfl,by decide +kernel,by decide +kernel⟩
theorem qT (W:gI K "row_asked" "row_asked" gn f fd) {f2:Addr} {d2:FuncData} {bE:g9} (C2:iq P w K mg base k "filled" ["head","most"] bE f2 d2) {f3:Addr} {d3:FuncData} {cO:g9} (C3:iq P w K mg base k "row_above" ["head","most","beyond"] cO f3 d3) {t_GOALS:Tok} (g_GOALS:mg "GOALS" = some (.int 3 t_GOALS)) {t_MARK:Tok} (g_MARK:mg "MARK" = some (.int 1 t_MARK)) {t_WHO:Tok} (g_WHO:mg "WHO" = some (.int 0 t_WHO)) (b_len:mg "len" = none) (b_max:mg "max" = none) (b_min:mg "min" = none) :
    bf P w K mg base (cV P w mg) (k+1) f fd ["place","measures","most","beyond"] (dz (dP 7 (i7 bE cO)) 4):=by
  refine aE W rz (G:=["GOALS","WHO","min","max","len","MARK","row_above","filled"]) (by decide +kernel) fun cdv A outer s H E hr T=>?_
  exact (ak (gU (dH 4 rfl (N:=["goal","measures"]) (own:=1) (G:=[]) (fr:=[1]) T rfl rfl (oN:=["place","measures","most","beyond","rows","row","head"]) (on:=(ai gn).names) (by decide +kernel) (bx (aQ T.hu (ad (aa T 0 rfl)) (ad (cy T 0 rfl g_GOALS)) (fun _ _=>rfl))) (bn (by decide)) (fun cl C s' H' fp E' T=>⟨(aN T 0 rfl),cs,(aQ T.hu (ad (aa T 1 rfl)) (ad (aa T 0 rfl)) (fun _ _=>rfl))⟩)) (show 4 < 7 by decide))
      (ak (aM T 5 rfl (fY (cZ T.hu (ad (aQ T.hu (ad (aa T 0 rfl)) (ad (cy T 1 rfl g_WHO)) (fun _ _=>rfl))) (ad aj)) (vP T 2 rfl b_min (ad (aa T 4 rfl))) (vX T 3 rfl b_max (ad (aa T 4 rfl)))))
      (ak (dZ (cZ T.hu (ad (aa T 5 rfl)) (ad (aa T 3 rfl))) (aw (aH (aa T 3 rfl))) dq)
      (ak (aM T 6 rfl (jO (ad (aa T 5 rfl)) kH (kP (gT (ad (cK T 4 rfl b_len (ad (aa T 2 rfl)))) (ad (fW (ad (aQ T.hu (ad (aa T 0 rfl)) (ad (cy T 5 rfl g_MARK)) (fun _ _=>rfl))) (ad aj)))))))
      (ak (dZ (cZ T.hu (ad (cg (ad (aQ T.hu (ad (aa T 0 rfl)) (ad (cy T 5 rfl g_MARK)) (fun _ _=>rfl))) (ad aj))) (ad aj)) (aw (aH (aC C3 hr T 6 rfl (af (aa T 6 rfl) (af (aa T 2 rfl) (af (aa T 3 rfl) aq))) rfl (ag (ag (ag ay)))))) dq)
      (aw (aH (aC C2 hr T 7 rfl (af (aa T 6 rfl) (af (aa T 2 rfl) aq)) rfl (ag (ag ay))))))))))
theorem Ai:aY ["ground","most","beyond","measures","is_rising","number","place","row"] ["ground"] (ai lQ):=⟨rfl,rfl,rfl,by decide +kernel,rfl,by decide +kernel,by decide +kernel⟩
theorem AM (W:gI K "risen" "risen" lQ f fd) {f1:Addr} {d1:FuncData} {bp:g9} (C1:iq P w K mg base k "beyond_all" ["ground"] bp f1 d1) {f2:Addr} {d2:FuncData} {bE:g9} (C2:iq P w K mg base k "filled" ["head","most"] bE f2 d2) {f0:Addr} {d0:FuncData} {bN:g9} (C0:iq P w K mg base k "most_counts" ["ground"] bN f0 d0) {f4:Addr} {d4:FuncData} {bI:g9} (C4:iq P w K mg base k "row_asked" ["place","measures","most","beyond"] bI f4 d4) (b_enumerate:mg "enumerate" = none) (b_tuple:mg "tuple" = none) :
    bf P w K mg base (cV P w mg) (k+1) f fd ["ground"] (dz (dP 8 (o9 bp bE bN bI)) 1):=by
  refine aE W Ai (G:=["most_counts","beyond_all","enumerate","row_asked","tuple"]) (by decide +kernel) fun cdv A outer s H E hr T=>?_
  exact (ak (aM T 1 rfl (aC C0 hr T 0 rfl (af (aa T 0 rfl) aq) rfl (ag ay)))
      (ak (aM T 2 rfl (aC C1 hr T 1 rfl (af (aa T 0 rfl) aq) rfl (ag ay)))
      (ak (dH 3 rfl (N:=["place","most"]) (own:=1) (G:=["filled"]) (fr:=[1]) T rfl rfl (oN:=["ground","most","beyond","measures","is_rising","number","place","row"]) (on:=(ai lQ).names) (by decide +kernel) (bx (aa T 0 rfl)) (bn (by decide)) (fun cl C s' H' fp E' T=>⟨(aN T 0 rfl),cs,(aC C2 hr T 0 rfl (af (iZ aq) (af (aa T 1 rfl) aq)) rfl (ag (ag ay)))⟩))
      (ak (aM T 4 rfl fV)
      (ak (cY (have T:=T.nox;jM 1000000 PassesOwn.never (gR (aa T 4 rfl)) (ak (aM T 4 rfl fV)
      (aw (cY (have T:=T.nox;fq PassesOwn.never T.calm (jk T 2 rfl b_enumerate (aa T 0 rfl)) (gQ T 5 6 rfl rfl) (ak (aM T 7 rfl (nk 3 (aC C4 hr T 3 rfl (af (aa T 6 rfl) (af (aa T 3 rfl) (af (aa T 1 rfl) (af (aa T 2 rfl) aq)))) rfl (ag (ag (ag (ag ay)))))))
      (aw (dZ (vN T.hu (ad (aa T 7 rfl)) (ad (aQ T.hu (dB T 3 rfl) (ad (aa T 5 rfl)) (fun _ _=>rfl)))) (ak (gO T 3 rfl (have T:=T.nox;(aa T 5 rfl)) (aa T 7 rfl))
      (aw (aM T 4 rfl fV))) dq)))))))))
      (aw (aH (bH T 4 rfl b_tuple (dB T 3 rfl)))))))))
theorem nT:aY ["ground","beyond"] ["ground"] (ai e8):=⟨rfl,rfl,rfl,by decide +kernel,rfl,by decide +kernel,by decide +kernel⟩
theorem nR (W:gI K "by_measures" "by_measures" e8 f fd) {f1:Addr} {d1:FuncData} {bp:g9} (C1:iq P w K mg base k "beyond_all" ["ground"] bp f1 d1) {f5:Addr} {d5:FuncData} {fQ:g9} (C5:iq P w K mg base k "risen" ["ground"] fQ f5 d5) (b_tuple:mg "tuple" = none) :
    bf P w K mg base (cV P w mg) (k+1) f fd ["ground"] (dz (dP 2 (gB bp fQ)) 1):=by
  refine aE W nT (G:=["beyond_all","tuple","risen"]) (by decide +kernel) fun cdv A outer s H E hr T=>?_
  exact (ak (aM T 1 rfl (aC C1 hr T 0 rfl (af (aa T 0 rfl) aq) rfl (ag ay)))
      (aw (aH (bH T 1 rfl b_tuple (cU (bm (N:=["row","beyond"]) (own:=1) (G:=[]) (fr:=[1]) T rfl rfl (oN:=["ground","beyond"]) (on:=(ai e8).names) (by decide +kernel) (bx (aC C5 hr T 2 rfl (af (aa T 0 rfl) aq) rfl (ag ay))) (bn (by decide)) (fun cl C s' H' fp E' T=>⟨(aN T 0 rfl),cs,(fY (cZ T.hu (ad (aa T 0 rfl)) (ad (aa T 1 rfl))) aj aj)⟩)))))))
theorem qg:aY ["ground"] ["ground"] (ai ia):=⟨rfl,rfl,rfl,by decide +kernel,rfl,by decide +kernel,by decide +kernel⟩
theorem qb (W:gI K "all_places" "all_places" ia f fd) (b_len:mg "len" = none) (b_range:mg "range" = none) (b_tuple:mg "tuple" = none) :
    bf P w K mg base (cV P w mg) (k+1) f fd ["ground"] (dz (dP 1 (h9)) 1):=by
  refine aE W qg (G:=["tuple","range","len"]) (by decide +kernel) fun cdv A outer s H E hr T=>?_
  exact (aw (aH (vK T 0 rfl b_tuple 1 rfl b_range (af (cK T 2 rfl b_len (ad (aa T 0 rfl))) aq))))
theorem sn:aY ["moves","places"] ["moves","places"] (ai hV):=⟨rfl,rfl,rfl,by decide +kernel,rfl,by decide +kernel,by decide +kernel⟩
theorem sG (W:gI K "moves_at" "moves_at" hV f fd) (b_enumerate:mg "enumerate" = none) (b_tuple:mg "tuple" = none) :
    bf P w K mg base (cV P w mg) (k+1) f fd ["moves","places"] (dz (dP 2 (jD)) 2):=by
  refine aE W sn (G:=["tuple","enumerate"]) (by decide +kernel) fun cdv A outer s H E hr T=>?_
  exact (aw (aH (bH T 0 rfl b_tuple (cU (bm (N:=["number","move","places"]) (own:=2) (G:=[]) (fr:=[1]) T rfl rfl (oN:=["moves","places"]) (on:=(ai hV).names) (by decide +kernel) (jk T 1 rfl b_enumerate (aa T 0 rfl)) (jg (by decide) (by decide)) (fun cl C s' H' fp E' T=>⟨(gQ T 0 1 rfl rfl),cs,(fY (ny T.hu (ad (aa T 0 rfl)) (ad (aa T 2 rfl)) (by with_unfolding_all rfl)) (aa T 1 rfl) dL)⟩))))))
theorem lE:aY ["moves","others"] ["moves","others"] (ai ed):=⟨rfl,rfl,rfl,by decide +kernel,rfl,by decide +kernel,by decide +kernel⟩
theorem lF (W:gI K "moves_of_both" "moves_of_both" ed f fd) (b_tuple:mg "tuple" = none) (b_zip:mg "zip" = none) :
    bf P w K mg base (cV P w mg) (k+1) f fd ["moves","others"] (dz (dP 2 (fA)) 2):=by
  refine aE W lE (G:=["tuple","zip"]) (by decide +kernel) fun cdv A outer s H E hr T=>?_
  exact (aw (aH (bH T 0 rfl b_tuple (cU (bm (N:=["move","other"]) (own:=2) (G:=[]) (fr:=[]) T rfl rfl (oN:=["moves","others"]) (on:=(ai ed).names) (by decide +kernel) (yO T 1 rfl b_zip (aa T 0 rfl) (aa T 1 rfl)) (jg (by decide) (by decide)) (fun cl C s' H' fp E' T=>⟨(gQ T 0 1 rfl rfl),cs,(fY (oC (ad (aa T 0 rfl)) (ad dL)) (aa T 1 rfl) (aa T 0 rfl))⟩))))))
theorem xg:aY ["ranks"] ["ranks"] (ai kf):=⟨rfl,rfl,rfl,by decide +kernel,rfl,by decide +kernel,by decide +kernel⟩
theorem xl (W:gI K "ranked" "ranked" kf f fd) (b_enumerate:mg "enumerate" = none) (b_tuple:mg "tuple" = none) :
    bf P w K mg base (cV P w mg) (k+1) f fd ["ranks"] (dz (dP 1 (nq)) 1):=by
  refine aE W xg (G:=["tuple","enumerate"]) (by decide +kernel) fun cdv A outer s H E hr T=>?_
  exact (aw (aH (bH T 0 rfl b_tuple (cU (bm (N:=["number","rank"]) (own:=2) (G:=[]) (fr:=[]) T rfl rfl (oN:=["ranks"]) (on:=(ai kf).names) (by decide +kernel) (jk T 1 rfl b_enumerate (aa T 0 rfl)) (jg (by decide) (by decide)) (fun cl C s' H' fp E' T=>⟨(gQ T 0 1 rfl rfl),(dY (lY (ad (aa T 1 rfl)) (ad dL))),(aa T 0 rfl)⟩))))))
theorem lJ:aY ["ground","who","ranks","moves","number"] ["ground","who","ranks"] (ai dn):=⟨rfl,rfl,rfl,by decide +kernel,rfl,by decide +kernel,by decide +kernel⟩
theorem lB (W:gI K "pulling_moves" "pulling_moves" dn f fd) {f17:Addr} {d17:FuncData} {ca:g9} (C17:iq P w K mg base k "ranked" ["ranks"] ca f17 d17) {t_GOALS:Tok} (g_GOALS:mg "GOALS" = some (.int 3 t_GOALS)) {t_WHO:Tok} (g_WHO:mg "WHO" = some (.int 0 t_WHO)) (b_tuple:mg "tuple" = none) :
    bf P w K mg base (cV P w mg) (k+1) f fd ["ground","who","ranks"] (dz (dP 5 (fF ca)) 3):=by
  refine aE W lJ (G:=["ranked","WHO","GOALS","tuple"]) (by decide +kernel) fun cdv A outer s H E hr T=>?_
  exact (ak (dH 3 rfl (N:=["rank"]) (own:=1) (G:=[]) (fr:=[]) T rfl rfl (oN:=["ground","who","ranks","moves","number"]) (on:=(ai dn).names) (by decide +kernel) (bx (aa T 2 rfl)) (bn (by decide)) (fun cl C s' H' fp E' T=>⟨(aN T 0 rfl),cs,dL⟩))
      (ak (cY (have T:=T.nox;fq PassesOwn.never T.calm (bx (aC C17 hr T 0 rfl (af (aa T 2 rfl) aq) rfl (ag ay))) (aN T 4 rfl) (aw (dZ (uy (wt (cZ T.hu (ad (aQ T.hu (ad (aQ T.hu (ad (aa T 0 rfl)) (ad (aa T 4 rfl)) (fun _ _=>rfl))) (ad (cy T 1 rfl g_WHO)) (fun _ _=>rfl))) (ad (aa T 1 rfl))) (tK (nA (ad (aQ T.hu (ad (aa T 2 rfl)) (ad (aa T 4 rfl)) (fun _ _=>rfl))) (ad aj))))) (aw (gO T 3 rfl (have T:=T.nox;(aa T 4 rfl)) (aQ T.hu (cU (bm (N:=["goal","ranks","number"]) (own:=1) (G:=[]) (fr:=[2,4]) T rfl rfl (oN:=["ground","who","ranks","moves","number"]) (on:=(ai dn).names) (by decide +kernel) (bx (aQ T.hu (ad (aQ T.hu (ad (aa T 0 rfl)) (ad (aa T 4 rfl)) (fun _ _=>rfl))) (ad (cy T 2 rfl g_GOALS)) (fun _ _=>rfl))) (bn (by decide)) (fun cl C s' H' fp E' T=>⟨(aN T 0 rfl),(dY (cZ T.hu (ad (aQ T.hu (ad (aa T 1 rfl)) (ad (aa T 0 rfl)) (fun _ _=>rfl))) (ad (gT (ad (aQ T.hu (ad (aa T 1 rfl)) (ad (aa T 2 rfl)) (fun _ _=>rfl))) (ad aj))))),(aa T 0 rfl)⟩))) (ad aj) (fun _ _=>rfl)))) dq))))
      (aw (aH (bH T 3 rfl b_tuple (dB T 3 rfl))))))
theorem yT:aY ["some","others"] ["some","others"] (ai ki):=⟨rfl,rfl,rfl,by decide +kernel,rfl,by decide +kernel,by decide +kernel⟩
theorem xC (W:gI K "common" "common" ki f fd) (b_tuple:mg "tuple" = none) :
    bf P w K mg base (cV P w mg) (k+1) f fd ["some","others"] (dz (dP 2 (l5)) 2):=by
  refine aE W yT (G:=["tuple"]) (by decide +kernel) fun cdv A outer s H E hr T=>?_
  exact (aw (aH (bH T 0 rfl b_tuple (cU (bm (N:=["number","others"]) (own:=1) (G:=[]) (fr:=[1]) T rfl rfl (oN:=["some","others"]) (on:=(ai ki).names) (by decide +kernel) (bx (aa T 0 rfl)) (bn (by decide)) (fun cl C s' H' fp E' T=>⟨(aN T 0 rfl),(dY (ny T.hu (ad (aa T 0 rfl)) (ad (aa T 1 rfl)) (by with_unfolding_all rfl))),(aa T 0 rfl)⟩))))))
theorem sd:aY ["place","ways","who","ranks","known"] ["place","ways","who","ranks"] (ai gA):=⟨rfl,rfl,rfl,by decide +kernel,rfl,by decide +kernel,by decide +kernel⟩
theorem rY (W:gI K "is_forced" "is_forced" gA f fd) {t_WHO:Tok} (g_WHO:mg "WHO" = some (.int 0 t_WHO)) (b_len:mg "len" = none) :
    bf P w K mg base (cV P w mg) (k+1) f fd ["place","ways","who","ranks"] (dz (dP 5 (iV)) 4):=by
  refine aE W sd (G:=["WHO","len"]) (by decide +kernel) fun cdv A outer s H E hr T=>?_
  exact (ak (gU (dH 4 rfl (N:=["goal","ranks"]) (own:=1) (G:=[]) (fr:=[3]) T rfl rfl (oN:=["place","ways","who","ranks","known"]) (on:=(ai gA).names) (by decide +kernel) (bx (aa T 1 rfl)) (bn (by decide)) (fun cl C s' H' fp E' T=>⟨(aN T 0 rfl),(dY (lY (ad (aQ T.hu (ad (aa T 1 rfl)) (ad (aa T 0 rfl)) (fun _ _=>rfl))) (ad dL))),(aa T 0 rfl)⟩)) (show 4 < 5 by decide))
      (ak (dZ (cZ T.hu (ad (aQ T.hu (ad (aa T 0 rfl)) (ad (cy T 0 rfl g_WHO)) (fun _ _=>rfl))) (ad (aa T 2 rfl))) (aw (aH (zN (ad (cK T 1 rfl b_len (ad (aa T 4 rfl)))) (ad aj)))) dq)
      (aw (aH (lU T.hu (ad (cK T 1 rfl b_len (ad (aa T 4 rfl)))) (ad (cK T 1 rfl b_len (ad (aa T 1 rfl)))))))))
theorem tM:aY ["ground","inside","who","goals","ways","ranks","rank","found","unranked","number"] ["ground","inside","who","goals"] (ai eh):=⟨rfl,rfl,rfl,by decide +kernel,rfl,by decide +kernel,by decide +kernel⟩
theorem sT (W:gI K "ranks_to" "ranks_to" eh f fd) {f8:Addr} {d8:FuncData} {cb:g9} (C8:iq P w K mg base k "common" ["some","others"] cb f8 d8) {f15:Addr} {d15:FuncData} {bS:g9} (C15:iq P w K mg base k "is_forced" ["place","ways","who","ranks"] bS f15 d15) {t_GOALS:Tok} (g_GOALS:mg "GOALS" = some (.int 3 t_GOALS)) (b_len:mg "len" = none) (b_list:mg "list" = none) (b_range:mg "range" = none) (b_tuple:mg "tuple" = none) :
    bf P w K mg base (cV P w mg) (k+1) f fd ["ground","inside","who","goals"] (dz (dP 10 (jN cb bS)) 4):=by
  refine aE W tM (G:=["range","len","list","tuple"]) (by decide +kernel) fun cdv A outer s H E hr T=>?_
  exact (ak (aM T 4 rfl (o2 (bm (N:=["place","inside"]) (own:=1) (G:=["common","GOALS"]) (fr:=[1]) T rfl rfl (oN:=["ground","inside","who","goals","ways","ranks","rank","found","unranked","number"]) (on:=(ai eh).names) (by decide +kernel) (bx (aa T 0 rfl)) (bn (by decide)) (fun cl C s' H' fp E' T=>⟨(aN T 0 rfl),cs,(aC C8 hr T 0 rfl (af (aQ T.hu (ad (aa T 0 rfl)) (ad (cy T 1 rfl g_GOALS)) (fun _ _=>rfl)) (af (aa T 1 rfl) aq)) rfl (ag (ag ay)))⟩))))
      (ak (kl T 5 rfl (bm (N:=["number","goals"]) (own:=1) (G:=[]) (fr:=[3]) T rfl rfl (oN:=["ground","inside","who","goals","ways","ranks","rank","found","unranked","number"]) (on:=(ai eh).names) (by decide +kernel) (ja T 0 rfl b_range (af (cK T 1 rfl b_len (ad (aa T 0 rfl))) aq) (ag ay)) (bn (by decide)) (fun cl C s' H' fp E' T=>⟨(aN T 0 rfl),cs,(fY (ny T.hu (ad (aa T 0 rfl)) (ad (aa T 1 rfl)) (by with_unfolding_all rfl)) aj dL)⟩)))
      (ak (aM T 6 rfl aj)
      (ak (aM T 7 rfl (o2 (nG T 2 rfl b_list (ad (aa T 3 rfl)))))
      (ak (cY (have T:=T.nox;jM 1000000 PassesOwn.never (nA (ad (cK T 1 rfl b_len (ad (aa T 7 rfl)))) (ad aj)) (ak (vH T 6 rfl aj)
      (ak (gU (dH 8 rfl (N:=["number","ranks"]) (own:=1) (G:=[]) (fr:=[5]) T rfl rfl (oN:=["ground","inside","who","goals","ways","ranks","rank","found","unranked","number"]) (on:=(ai eh).names) (by decide +kernel) (bx (aa T 1 rfl)) (bn (by decide)) (fun cl C s' H' fp E' T=>⟨(aN T 0 rfl),(dY (oC (ad (aQ T.hu (dB T 1 rfl) (ad (aa T 0 rfl)) (fun _ _=>rfl))) (ad dL))),(aa T 0 rfl)⟩)) (show 8 < 10 by decide))
      (ak (gU (dH 7 rfl (N:=["number","ground","ways","who","ranks"]) (own:=1) (G:=["is_forced"]) (fr:=[0,4,2,5]) T rfl rfl (oN:=["ground","inside","who","goals","ways","ranks","rank","found","unranked","number"]) (on:=(ai eh).names) (by decide +kernel) (bx (aa T 8 rfl)) (bn (by decide)) (fun cl C s' H' fp E' T=>⟨(aN T 0 rfl),(dY (gR (nk 4 (aC C15 hr T 0 rfl (af (aQ T.hu (ad (aa T 1 rfl)) (ad (aa T 0 rfl)) (fun _ _=>rfl)) (af (aQ T.hu (ad (aa T 2 rfl)) (ad (aa T 0 rfl)) (fun _ _=>rfl)) (af (aa T 3 rfl) (af (aa T 4 rfl) aq)))) rfl (ag (ag (ag (ag ay)))))))),(aa T 0 rfl)⟩)) (show 7 < 10 by decide))
      (aw (cY (have T:=T.nox;fq PassesOwn.never T.calm (bx (aa T 7 rfl)) (aN T 9 rfl) (aw (gO T 5 rfl (have T:=T.nox;(aa T 9 rfl)) (aa T 6 rfl)))))))))))
      (aw (aH (bH T 3 rfl b_tuple (dB T 5 rfl)))))))))
theorem tO:aY ["ground"] ["ground"] (ai hJ):=⟨rfl,rfl,rfl,by decide +kernel,rfl,by decide +kernel,by decide +kernel⟩
theorem sk (W:gI K "no_moves" "no_moves" hJ f fd) (b_tuple:mg "tuple" = none) :
    bf P w K mg base (cV P w mg) (k+1) f fd ["ground"] (dz (dP 1 (jy)) 1):=by
  refine aE W tO (G:=["tuple"]) (by decide +kernel) fun cdv A outer s H E hr T=>?_
  exact (aw (aH (bH T 0 rfl b_tuple (cU (bm (N:=["place"]) (own:=1) (G:=[]) (fr:=[]) T rfl rfl (oN:=["ground"]) (on:=(ai hJ).names) (by decide +kernel) (bx (aa T 0 rfl)) (bn (by decide)) (fun cl C s' H' fp E' T=>⟨(aN T 0 rfl),cs,dL⟩))))))
theorem lI:aY ["ground","who","part","moves","number"] ["ground","who","part"] (ai fD):=⟨rfl,rfl,rfl,by decide +kernel,rfl,by decide +kernel,by decide +kernel⟩
theorem lG (W:gI K "staying_moves" "staying_moves" fD f fd) {f8:Addr} {d8:FuncData} {cb:g9} (C8:iq P w K mg base k "common" ["some","others"] cb f8 d8) {f10:Addr} {d10:FuncData} {bQ:g9} (C10:iq P w K mg base k "no_moves" ["ground"] bQ f10 d10) {t_GOALS:Tok} (g_GOALS:mg "GOALS" = some (.int 3 t_GOALS)) {t_WHO:Tok} (g_WHO:mg "WHO" = some (.int 0 t_WHO)) (b_list:mg "list" = none) (b_tuple:mg "tuple" = none) :
    bf P w K mg base (cV P w mg) (k+1) f fd ["ground","who","part"] (dz (dP 5 (fH cb bQ)) 3):=by
  refine aE W lI (G:=["list","no_moves","WHO","common","GOALS","tuple"]) (by decide +kernel) fun cdv A outer s H E hr T=>?_
  exact (ak (kl T 3 rfl (nG T 0 rfl b_list (ad (aC C10 hr T 1 rfl (af (aa T 0 rfl) aq) rfl (ag ay)))))
      (ak (cY (have T:=T.nox;fq PassesOwn.never T.calm (bx (aa T 2 rfl)) (aN T 4 rfl) (aw (dZ (cZ T.hu (ad (aQ T.hu (ad (aQ T.hu (ad (aa T 0 rfl)) (ad (aa T 4 rfl)) (fun _ _=>rfl))) (ad (cy T 2 rfl g_WHO)) (fun _ _=>rfl))) (ad (aa T 1 rfl))) (aw (gO T 3 rfl (have T:=T.nox;(aa T 4 rfl)) (aQ T.hu (ad (aC C8 hr T 3 rfl (af (aQ T.hu (ad (aQ T.hu (ad (aa T 0 rfl)) (ad (aa T 4 rfl)) (fun _ _=>rfl))) (ad (cy T 4 rfl g_GOALS)) (fun _ _=>rfl)) (af (aa T 2 rfl) aq)) rfl (ag (ag ay)))) (ad aj) (fun _ _=>rfl)))) dq))))
      (aw (aH (bH T 5 rfl b_tuple (dB T 3 rfl))))))
theorem we:aY ["some","others"] ["some","others"] (ai jl):=⟨rfl,rfl,rfl,by decide +kernel,rfl,by decide +kernel,by decide +kernel⟩
theorem v8 (W:gI K "without" "without" jl f fd) (b_tuple:mg "tuple" = none) :
    bf P w K mg base (cV P w mg) (k+1) f fd ["some","others"] (dz (dP 2 (kI)) 2):=by
  refine aE W we (G:=["tuple"]) (by decide +kernel) fun cdv A outer s H E hr T=>?_
  exact (aw (aH (bH T 0 rfl b_tuple (cU (bm (N:=["number","others"]) (own:=1) (G:=[]) (fr:=[1]) T rfl rfl (oN:=["some","others"]) (on:=(ai jl).names) (by decide +kernel) (bx (aa T 0 rfl)) (bn (by decide)) (fun cl C s' H' fp E' T=>⟨(aN T 0 rfl),(dY (qU T.hu (ad (aa T 0 rfl)) (ad (aa T 1 rfl)) (by with_unfolding_all rfl))),(aa T 0 rfl)⟩))))))
theorem kW:aY ["ground","inside","highest","who","other","tops","ranks","below","lost","moves"] ["ground","inside"] (ai cz):=⟨rfl,rfl,rfl,by decide +kernel,rfl,by decide +kernel,by decide +kernel⟩
theorem kF (W:gI K "share_by_marks" "share_by_marks" cz f fd) {f12:Addr} {d12:FuncData} {cD:g9} (C12:iq P w K mg base k "moves_at" ["moves","places"] cD f12 d12) {f11:Addr} {d11:FuncData} {aA:g9} (C11:iq P w K mg base k "moves_of_both" ["moves","others"] aA f11 d11) {f18:Addr} {d18:FuncData} {aZ:g9} (C18:iq P w K mg base k "pulling_moves" ["ground","who","ranks"] aZ f18 d18) {f17:Addr} {d17:FuncData} {ca:g9} (C17:iq P w K mg base k "ranked" ["ranks"] ca f17 d17) {f16:Addr} {d16:FuncData} {cr:g9} (C16:iq P w K mg base k "ranks_to" ["ground","inside","who","goals"] cr f16 d16) {f13:Addr} {d13:FuncData} {bq:g9} (C13:iq P w K mg base k "staying_moves" ["ground","who","part"] bq f13 d13) {f20:Addr} {d20:FuncData} {aD:g9} (C20:iq P w K mg base k "winners_within" ["ground","inside"] aD f20 d20) {f9:Addr} {d9:FuncData} {bK:g9} (C9:iq P w K mg base k "without" ["some","others"] bK f9 d9) {t_MARK:Tok} (g_MARK:mg "MARK" = some (.int 1 t_MARK)) (b_enumerate:mg "enumerate" = none) (b_len:mg "len" = none) (b_max:mg "max" = none) {c_Share:Addr} (cl_Share:wJ K c_Share) (n_Share_moves:dS K c_Share "moves") (n_Share_places:dS K c_Share "places") (n_Share_who:dS K c_Share "who") (m_Share:mg "Share" = some (.ref c_Share)) {fi_Share:Addr} {di_Share:FuncData} (MK_Share:Mk K c_Share fi_Share) (I_Share:bf P w K mg base (cV P w mg) 1 fi_Share di_Share ["self","who","places","moves"] (Ez c_Share ["who","places","moves"])) (B_Share:bO K di_Share ["self","who","places","moves"] []) (hk:2<=k) :
    bf P w K mg base (cV P w mg) (k+1) f fd ["ground","inside"] (dz (dP 10 (dI cD aA aZ ca cr bq aD bK c_Share)) 2):=by
  refine aE W kW (G:=["max","ranks_to","winners_within","without","ranked","enumerate","len","moves_of_both","pulling_moves","Share","staying_moves","moves_at"]) (by decide +kernel) fun cdv A outer s H E hr T=>?_
  exact (ak (aM T 2 rfl (oQ T 0 rfl b_max (cU (bm (N:=["number","ground"]) (own:=1) (G:=["MARK"]) (fr:=[0]) T rfl rfl (oN:=["ground","inside","highest","who","other","tops","ranks","below","lost","moves"]) (on:=(ai cz).names) (by decide +kernel) (bx (aa T 1 rfl)) (bn (by decide)) (fun cl C s' H' fp E' T=>⟨(aN T 0 rfl),cs,(aQ T.hu (ad (aQ T.hu (ad (aa T 1 rfl)) (ad (aa T 0 rfl)) (fun _ _=>rfl))) (ad (cy T 0 rfl g_MARK)) (fun _ _=>rfl))⟩)))))
      (ak (aM T 3 rfl (cg (ad (aa T 2 rfl)) (ad aj)))
      (ak (aM T 4 rfl (gT (ad aj) (ad (aa T 3 rfl))))
      (ak (gU (dH 5 rfl (N:=["number","ground","highest"]) (own:=1) (G:=["MARK"]) (fr:=[0,2]) T rfl rfl (oN:=["ground","inside","highest","who","other","tops","ranks","below","lost","moves"]) (on:=(ai cz).names) (by decide +kernel) (bx (aa T 1 rfl)) (bn (by decide)) (fun cl C s' H' fp E' T=>⟨(aN T 0 rfl),(dY (cZ T.hu (ad (aQ T.hu (ad (aQ T.hu (ad (aa T 1 rfl)) (ad (aa T 0 rfl)) (fun _ _=>rfl))) (ad (cy T 0 rfl g_MARK)) (fun _ _=>rfl))) (ad (aa T 2 rfl)))),(aa T 0 rfl)⟩)) (show 5 < 10 by decide))
      (ak (aM T 6 rfl (aC C16 hr T 1 rfl (af (aa T 0 rfl) (af (aa T 1 rfl) (af (aa T 3 rfl) (af (aa T 5 rfl) aq)))) rfl (ag (ag (ag (ag ay))))))
      (ak (aM T 7 rfl (aC C20 hr T 2 rfl (af (aa T 0 rfl) (af (aC C9 hr T 3 rfl (af (aa T 1 rfl) (af (aC C17 hr T 4 rfl (af (aa T 6 rfl) aq) rfl (ag ay)) aq)) rfl (ag (ag ay))) aq)) rfl (ag (ag ay))))
      (ak (gU (dH 8 rfl (N:=["number","winner","other"]) (own:=2) (G:=[]) (fr:=[4]) T rfl rfl (oN:=["ground","inside","highest","who","other","tops","ranks","below","lost","moves"]) (on:=(ai cz).names) (by decide +kernel) (jk T 5 rfl b_enumerate (aQ T.hu (ad (aa T 7 rfl)) (ad aj) (fun _ _=>rfl))) (jg (by decide) (by decide)) (fun cl C s' H' fp E' T=>⟨(gQ T 0 1 rfl rfl),(dY (cZ T.hu (ad (aa T 1 rfl)) (ad (aa T 2 rfl)))),(aa T 0 rfl)⟩)) (show 8 < 10 by decide))
      (ak (dZ (cZ T.hu (ad (cK T 6 rfl b_len (ad (aa T 8 rfl)))) (ad aj)) (ak (aM T 9 rfl (aC C11 hr T 7 rfl (af (aC C18 hr T 8 rfl (af (aa T 0 rfl) (af (aa T 3 rfl) (af (aa T 6 rfl) aq))) rfl (ag (ag (ag ay)))) (af (aQ T.hu (ad (aa T 7 rfl)) (ad aj) (fun _ _=>rfl)) aq)) rfl (ag (ag ay))))
      (aw (aH (qP MK_Share I_Share (hr.mono hk) T 9 rfl m_Share B_Share (af (aa T 3 rfl) (af (aa T 1 rfl) (af (aC C11 hr T 7 rfl (af (aa T 9 rfl) (af (aC C13 hr T 10 rfl (af (aa T 0 rfl) (af (aa T 3 rfl) (af (aa T 1 rfl) aq))) rfl (ag (ag (ag ay)))) aq)) rfl (ag (ag ay))) aq))) (ag (ag (ag ay))))))) dq)
      (ak (aM T 6 rfl (aC C16 hr T 1 rfl (af (aa T 0 rfl) (af (aa T 1 rfl) (af (aa T 4 rfl) (af (aa T 8 rfl) aq)))) rfl (ag (ag (ag (ag ay))))))
      (ak (aM T 9 rfl (aC C11 hr T 7 rfl (af (aC C18 hr T 8 rfl (af (aa T 0 rfl) (af (aa T 4 rfl) (af (aa T 6 rfl) aq))) rfl (ag (ag (ag ay)))) (af (aC C12 hr T 11 rfl (af (aQ T.hu (ad (aa T 7 rfl)) (ad aj) (fun _ _=>rfl)) (af (aa T 8 rfl) aq)) rfl (ag (ag ay))) aq)) rfl (ag (ag ay))))
      (aw (aH (qP MK_Share I_Share (hr.mono hk) T 9 rfl m_Share B_Share (af (aa T 4 rfl) (af (aC C17 hr T 4 rfl (af (aa T 6 rfl) aq) rfl (ag ay)) (af (aa T 9 rfl) aq))) (ag (ag (ag ay))))))))))))))))
theorem jq:aY ["ground","shares","winners","moves","share","number"] ["ground","shares"] (ai cX):=⟨rfl,rfl,rfl,by decide +kernel,rfl,by decide +kernel,by decide +kernel⟩
theorem jn (W:gI K "winners_and_moves" "winners_and_moves" cX f fd) {f11:Addr} {d11:FuncData} {aA:g9} (C11:iq P w K mg base k "moves_of_both" ["moves","others"] aA f11 d11) {f10:Addr} {d10:FuncData} {bQ:g9} (C10:iq P w K mg base k "no_moves" ["ground"] bQ f10 d10) (b_tuple:mg "tuple" = none) {c_Share:Addr} (cl_Share:wJ K c_Share) (n_Share_moves:dS K c_Share "moves") (n_Share_places:dS K c_Share "places") (n_Share_who:dS K c_Share "who") :
    bf P w K mg base (cV P w mg) (k+1) f fd ["ground","shares"] (dz (dP 6 (dR aA bQ c_Share)) 2):=by
  refine aE W jq (G:=["no_moves","moves_of_both","tuple"]) (by decide +kernel) fun cdv A outer s H E hr T=>?_
  exact (ak (dH 2 rfl (N:=["place"]) (own:=1) (G:=[]) (fr:=[]) T rfl rfl (oN:=["ground","shares","winners","moves","share","number"]) (on:=(ai cX).names) (by decide +kernel) (bx (aa T 0 rfl)) (bn (by decide)) (fun cl C s' H' fp E' T=>⟨(aN T 0 rfl),cs,dL⟩))
      (ak (aM T 3 rfl (aC C10 hr T 0 rfl (af (aa T 0 rfl) aq) rfl (ag ay)))
      (ak (cY (have T:=T.nox;fq PassesOwn.never T.calm (bx (aa T 1 rfl)) (aN T 4 rfl) (ak (cY (have T:=T.nox;fq PassesOwn.never T.calm (bx (jY cl_Share n_Share_places (aa T 4 rfl))) (aN T 5 rfl) (aw (gO T 2 rfl (have T:=T.nox;(aa T 5 rfl)) (jY cl_Share n_Share_who (aa T 4 rfl))))))
      (aw (aM T 3 rfl (aC C11 hr T 1 rfl (af (aa T 3 rfl) (af (jY cl_Share n_Share_moves (aa T 4 rfl)) aq)) rfl (ag (ag ay))))))))
      (aw (aH (iZ (af (bH T 2 rfl b_tuple (dB T 2 rfl)) (af (aa T 3 rfl) aq))))))))
theorem kN:aY ["ground","inside","shares","left","share"] ["ground","inside"] (ai eW):=⟨rfl,rfl,rfl,by decide +kernel,rfl,by decide +kernel,by decide +kernel⟩
theorem kS (W:gI K "winners_within" "winners_within" eW f fd) {f19:Addr} {d19:FuncData} {aT:g9} (C19:iq P w K mg base k "share_by_marks" ["ground","inside"] aT f19 d19) {f14:Addr} {d14:FuncData} {aV:g9} (C14:iq P w K mg base k "winners_and_moves" ["ground","shares"] aV f14 d14) {f9:Addr} {d9:FuncData} {bK:g9} (C9:iq P w K mg base k "without" ["some","others"] bK f9 d9) (b_len:mg "len" = none) {c_Share:Addr} (cl_Share:wJ K c_Share) (n_Share_places:dS K c_Share "places") :
    bf P w K mg base (cV P w mg) (k+1) f fd ["ground","inside"] (dz (dP 5 (dG aT aV bK c_Share)) 2):=by
  refine aE W kN (G:=["len","share_by_marks","without","winners_and_moves"]) (by decide +kernel) fun cdv A outer s H E hr T=>?_
  exact (ak (kl T 2 rfl (oA aq))
      (ak (aM T 3 rfl (aa T 1 rfl))
      (ak (cY (have T:=T.nox;jM 1000000 PassesOwn.never (nA (ad (cK T 0 rfl b_len (ad (aa T 3 rfl)))) (ad aj)) (ak (aM T 4 rfl (aC C19 hr T 1 rfl (af (aa T 0 rfl) (af (aa T 3 rfl) aq)) rfl (ag (ag ay))))
      (ak (qY T 2 rfl (aa T 4 rfl))
      (aw (aM T 3 rfl (aC C9 hr T 2 rfl (af (aa T 3 rfl) (af (jY cl_Share n_Share_places (aa T 4 rfl)) aq)) rfl (ag (ag ay)))))))))
      (aw (AW 2 (aH (aC C14 hr T 3 rfl (af (aa T 0 rfl) (af (aa T 2 rfl) aq)) rfl (ag (ag ay)))))))))
theorem DP:aY ["ground"] ["ground"] (ai yE):=⟨rfl,rfl,rfl,by decide +kernel,rfl,by decide +kernel,by decide +kernel⟩
theorem Dz (W:gI K "won" "won" yE f fd) {f7:Addr} {d7:FuncData} {cu:g9} (C7:iq P w K mg base k "all_places" ["ground"] cu f7 d7) {f20:Addr} {d20:FuncData} {aD:g9} (C20:iq P w K mg base k "winners_within" ["ground","inside"] aD f20 d20) :
    bf P w K mg base (cV P w mg) (k+1) f fd ["ground"] (dz (dP 1 (xL cu aD)) 1):=by
  refine aE W DP (G:=["winners_within","all_places"]) (by decide +kernel) fun cdv A outer s H E hr T=>?_
  exact (aw (aH (aC C20 hr T 0 rfl (af (aa T 0 rfl) (af (aC C7 hr T 1 rfl (af (aa T 0 rfl) aq) rfl (ag ay)) aq)) rfl (ag (ag ay)))))
theorem Dq:aY ["_law_script","_law_ground_here","_law_found"] ["_law_script"] (ai iY):=⟨rfl,rfl,rfl,by decide +kernel,rfl,by decide +kernel,by decide +kernel⟩
theorem DA (W:gI K "law" "law" iY f fd) {f27:Addr} {d27:FuncData} {cv:g9} (C27:iq P w K mg base k "_law_ground" ["_law_script","_law_most"] cv f27 d27) {f6:Addr} {d6:FuncData} {bM:g9} (C6:iq P w K mg base k "by_measures" ["ground"] bM f6 d6) {f21:Addr} {d21:FuncData} {jV:g9} (C21:iq P w K mg base k "won" ["ground"] jV f21 d21) (b_all:mg "all" = none) (b_bool:mg "bool" = none) (b_int:mg "int" = none) (b_isinstance:mg "isinstance" = none) (b_tuple:mg "tuple" = none) :
    bf P w K mg base (cV P w mg) (k+1) f fd ["_law_script"] (dz (dP 3 (yD cv bM jV)) 1):=by
  refine aE W Dq (G:=["_law_ground","by_measures","isinstance","tuple","all","won"]) (by decide +kernel) fun cdv A outer s H E hr T=>?_
  exact (ak (aM T 1 rfl (aC C27 hr T 0 rfl (af (aa T 0 rfl) (af aj aq)) rfl (ag (ag ay))))
      (ak (aM T 2 rfl (aC C6 hr T 1 rfl (af (aa T 1 rfl) aq) rfl (ag ay)))
      (ak (dZ (uy (yN (k7 (gR (mW T 2 rfl b_isinstance T 3 rfl b_tuple (ad (aa T 2 rfl))))) (wl (k7 (gR (rE T 4 rfl b_all (cU (bm (N:=["_law_part"]) (own:=1) (G:=["isinstance","int"]) (fr:=[]) T rfl rfl (oN:=["_law_script","_law_ground_here","_law_found"]) (on:=(ai iY).names) (by decide +kernel) (bx (aa T 2 rfl)) (bn (by decide)) (fun cl C s' H' fp E' T=>⟨(aN T 0 rfl),cs,(pK T 0 rfl b_isinstance T 1 rfl b_int (ad (aa T 0 rfl)))⟩))))))))) (aw (aH fV)) dq)
      (ak (dZ (k7 (gR (rE T 4 rfl b_all (cU (bm (N:=["_law_part"]) (own:=1) (G:=["isinstance","bool"]) (fr:=[]) T rfl rfl (oN:=["_law_script","_law_ground_here","_law_found"]) (on:=(ai iY).names) (by decide +kernel) (bx (aa T 2 rfl)) (bn (by decide)) (fun cl C s' H' fp E' T=>⟨(aN T 0 rfl),cs,(yk (nM T 0 rfl b_isinstance T 1 rfl b_bool (ad (aa T 0 rfl))))⟩)))))) (aw (aH fV)) dq)
      (aw (aH (x8 (lU T.hu (ad (aa T 2 rfl)) (ad (aQ T.hu (ad (aC C21 hr T 5 rfl (af (aa T 1 rfl) aq) rfl (ag ay))) (ad aj) (fun _ _=>rfl)))) (yh (lU T.hu (ad (aC C6 hr T 1 rfl (af (aa T 1 rfl) aq) rfl (ag ay))) (ad (aa T 2 rfl)))))))))))
end
noncomputable def F0:List PyData->R PyData:=fun ds=>open Classical in if ∃ ns:List Int,ns.length<=63/\ds=[.list (ns.map .int)] then .ok (.bool true) else .no
theorem uV:xW F0:=fun ns h=>if_pos ⟨ns,h,rfl⟩
theorem D9 {c_Share:Addr} (vs:List V) (H:Hp) (Q:VK) (E:XK) (h:dz F0 1 vs H Q E):dz (uJ c_Share) 1 vs H Q E:=by
  obtain ⟨ds,r,hl,q⟩:=h;refine ⟨ds,r,hl,?_⟩;by_cases hd:∃ ns:List Int,ns.length<=63/\ds=[.list (ns.map .int)]
  · obtain ⟨ns,h1,rfl⟩:=hd;rw [uV ns h1] at q;rw [yx c_Share ns h1];exact q
  · unfold F0 at q;rw [if_neg hd] at q;exact q.elim
theorem CS {l:PySem.W.OpenLaw} {w:World} {K:PySem.W.Frag} {h:Heap} {mg:Str->Option Value} {fa:Addr} (X:K.In h) (G:h.Ns mainGlobals mg) (hfa:mg "law" = some (.ref fa))
    {f28:Addr} {od28 an28:Option Addr} {sl28:Array (Option Value)} {oc28 kV28 dc28 pm28 cd28 ct28:Value}
    {f0:Addr} {d0:FuncData} (q0:cP K "_law_cell_at" gH f0 d0)
    {f1:Addr} {d1:FuncData} (q1:cP K "_law_mixed" i6 f1 d1)
    {f2:Addr} {d2:FuncData} (q2:cP K "_law_drawn" iU f2 d2)
    {f3:Addr} {d3:FuncData} (q3:cP K "_law_goals" i9 f3 d3)
    {f4:Addr} {d4:FuncData} (q4:cP K "_law_place" iS f4 d4)
    {f5:Addr} {d5:FuncData} (q5:cP K "_law_ground" fP f5 d5)
    {f6:Addr} {d6:FuncData} (q6:cP K "beyond_all" hW f6 d6)
    {f7:Addr} {d7:FuncData} (q7:cP K "filled" kj f7 d7)
    {f8:Addr} {d8:FuncData} (q8:cP K "most_counts" dX f8 d8)
    {f9:Addr} {d9:FuncData} (q9:cP K "row_above" iK f9 d9)
    {f10:Addr} {d10:FuncData} (q10:cP K "row_asked" gn f10 d10)
    {f11:Addr} {d11:FuncData} (q11:cP K "risen" lQ f11 d11)
    {f12:Addr} {d12:FuncData} (q12:cP K "by_measures" e8 f12 d12)
    {f13:Addr} {d13:FuncData} (q13:cP K "all_places" ia f13 d13)
    {f14:Addr} {d14:FuncData} (q14:cP K "moves_at" hV f14 d14)
    {f15:Addr} {d15:FuncData} (q15:cP K "moves_of_both" ed f15 d15)
    {f16:Addr} {d16:FuncData} (q16:cP K "ranked" kf f16 d16)
    {f17:Addr} {d17:FuncData} (q17:cP K "pulling_moves" dn f17 d17)
    {f18:Addr} {d18:FuncData} (q18:cP K "common" ki f18 d18)
    {f19:Addr} {d19:FuncData} (q19:cP K "is_forced" gA f19 d19)
    {f20:Addr} {d20:FuncData} (q20:cP K "ranks_to" eh f20 d20)
    {f21:Addr} {d21:FuncData} (q21:cP K "no_moves" hJ f21 d21)
    {f22:Addr} {d22:FuncData} (q22:cP K "staying_moves" fD f22 d22)
    {f23:Addr} {d23:FuncData} (q23:cP K "without" jl f23 d23)
    {f24:Addr} {d24:FuncData} (q24:cP K "share_by_marks" cz f24 d24)
    {f25:Addr} {d25:FuncData} (q25:cP K "winners_and_moves" cX f25 d25)
    {f26:Addr} {d26:FuncData} (q26:cP K "winners_within" eW f26 d26)
    {f27:Addr} {d27:FuncData} (q27:cP K "won" yE f27 d27)
    (a28:PySem.W.nsIn K mainGlobals "law" = some (some (.ref f28))) (l28:K.lookup f28=some ⟨oc28,od28,.func (PySem.W.fnOf "law" "law" (dJ iY) (cN iY) (ai iY) .none kV28 dc28 pm28 an28 cd28 ct28),sl28⟩) (c28:PySem.W.codeIn K cd28 "law" = true) (k28:PySem.W.keepIn K (.ref f28)=true)
    {t0:Tok} (qg0:PySem.W.nsIn K mainGlobals "GOALS" = some (some (.int 3 t0)))
    {t1:Tok} (qg1:PySem.W.nsIn K mainGlobals "MARK" = some (some (.int 1 t1)))
    {t2:Tok} (qg2:PySem.W.nsIn K mainGlobals "WHO" = some (some (.int 0 t2)))
    (qz0:PySem.W.nsIn K mainGlobals "all" = some none)
    (qz1:PySem.W.nsIn K mainGlobals "bool" = some none)
    (qz2:PySem.W.nsIn K mainGlobals "enumerate" = some none)
    (qz3:PySem.W.nsIn K mainGlobals "int" = some none)
    (qz4:PySem.W.nsIn K mainGlobals "isinstance" = some none)
    (qz5:PySem.W.nsIn K mainGlobals "len" = some none)
    (qz6:PySem.W.nsIn K mainGlobals "list" = some none)
    (qz7:PySem.W.nsIn K mainGlobals "max" = some none)
    (qz8:PySem.W.nsIn K mainGlobals "min" = some none)
    (qz9:PySem.W.nsIn K mainGlobals "range" = some none)
    (qz10:PySem.W.nsIn K mainGlobals "sorted" = some none)
    (qz11:PySem.W.nsIn K mainGlobals "tuple" = some none)
    (qz12:PySem.W.nsIn K mainGlobals "zip" = some none)
    {c_Share fi_Share:Addr} {od_Share an_Share:Option Addr} {sl_Share:Array (Option Value)} {oc_Share kV_Share dc_Share pm_Share cd_Share ct_Share:Value}
    (qa_Share:PySem.W.nsIn K mainGlobals "Share" = some (some (.ref c_Share)))
    (qi_Share:PySem.W.findIn K (.ref c_Share) "__init__" = some (some (.ref fi_Share))) (qf_Share:PySem.W.isFn K (.ref fi_Share)=true)
    (ql_Share:K.lookup fi_Share=some ⟨oc_Share,od_Share,.func (PySem.W.fnOf "__init__" "Share.__init__" (dJ je) (cN je) (ai je) .none kV_Share dc_Share pm_Share an_Share cd_Share ct_Share),sl_Share⟩)
    (qc_Share:PySem.W.codeIn K cd_Share "Share.__init__" = true) (qk_Share:PySem.W.keepIn K (.ref fi_Share)=true)
    (qpg_Share:PySem.W.plainGet K c_Share Str.empty=true) (qhd_Share:PySem.W.hasDictIn K c_Share=true) (qpo_Share:PySem.W.plainOver K c_Share=true) (qsa_Share:PySem.W.findIn K (.ref c_Share) "__setattr__" = some (some (.builtin "object.__setattr__"))) (qmk_Share:PySem.W.makesIn K c_Share=true) (qkc_Share:PySem.W.keepIn K (.ref c_Share)=true)
    (qn_Share_who:PySem.W.findIn K (.ref c_Share) "who" = some none)
    (qn_Share_places:PySem.W.findIn K (.ref c_Share) "places" = some none)
    (qn_Share_moves:PySem.W.findIn K (.ref c_Share) "moves" = some none)
    (nl:lP K=true) :
    lP K=true/\∃ fd:FuncData,(∀ (s:Shared) (v:Value),BindsTo s fd ⟨[v],[]⟩ [("_law_script",v)])/\∀ base:Heap,K.In base->base.Ns mainGlobals mg->bf l.prog w K mg base (cV l.prog w mg) 33 fa fd ["_law_script"] (dz F0 1):=by
  have e:=hfa.symm.trans (PySem.W.mg_of X G a28);cases e;have b0:bO K d0 ["_law_script","_law_k"] []:=vc q0.fn fun _ _ _ _ _ _ _ _=>rfl
  have m0:=PySem.W.mg_of X G q0.ns;have b1:bO K d1 ["_law_script","_law_k"] []:=vc q1.fn fun _ _ _ _ _ _ _ _=>rfl
  have m1:=PySem.W.mg_of X G q1.ns;have b2:bO K d2 ["_law_number","_law_k"] []:=vc q2.fn fun _ _ _ _ _ _ _ _=>rfl
  have m2:=PySem.W.mg_of X G q2.ns;have b3:bO K d3 ["_law_number","_law_count"] []:=vc q3.fn fun _ _ _ _ _ _ _ _=>rfl
  have m3:=PySem.W.mg_of X G q3.ns;have b4:bO K d4 ["_law_number","_law_count","_law_high"] []:=Ev q4.fn fun _ _ _ _ _ _ _ _ _=>rfl
  have m4:=PySem.W.mg_of X G q4.ns;have b5:bO K d5 ["_law_script","_law_most"] []:=vc q5.fn fun _ _ _ _ _ _ _ _=>rfl
  have m5:=PySem.W.mg_of X G q5.ns;have b6:bO K d6 ["ground"] []:=A9 q6.fn fun _ _ _ _ _ _ _=>rfl
  have m6:=PySem.W.mg_of X G q6.ns;have b7:bO K d7 ["head","most"] []:=vc q7.fn fun _ _ _ _ _ _ _ _=>rfl
  have m7:=PySem.W.mg_of X G q7.ns;have b8:bO K d8 ["ground"] []:=A9 q8.fn fun _ _ _ _ _ _ _=>rfl
  have m8:=PySem.W.mg_of X G q8.ns;have b9:bO K d9 ["head","most","beyond"] []:=Ev q9.fn fun _ _ _ _ _ _ _ _ _=>rfl
  have m9:=PySem.W.mg_of X G q9.ns;have b10:bO K d10 ["place","measures","most","beyond"] []:=Fn q10.fn fun _ _ _ _ _ _ _ _ _ _=>rfl
  have m10:=PySem.W.mg_of X G q10.ns;have b11:bO K d11 ["ground"] []:=A9 q11.fn fun _ _ _ _ _ _ _=>rfl
  have m11:=PySem.W.mg_of X G q11.ns;have b12:bO K d12 ["ground"] []:=A9 q12.fn fun _ _ _ _ _ _ _=>rfl
  have m12:=PySem.W.mg_of X G q12.ns;have b13:bO K d13 ["ground"] []:=A9 q13.fn fun _ _ _ _ _ _ _=>rfl
  have m13:=PySem.W.mg_of X G q13.ns;have b14:bO K d14 ["moves","places"] []:=vc q14.fn fun _ _ _ _ _ _ _ _=>rfl
  have m14:=PySem.W.mg_of X G q14.ns;have b15:bO K d15 ["moves","others"] []:=vc q15.fn fun _ _ _ _ _ _ _ _=>rfl
  have m15:=PySem.W.mg_of X G q15.ns;have b16:bO K d16 ["ranks"] []:=A9 q16.fn fun _ _ _ _ _ _ _=>rfl
  have m16:=PySem.W.mg_of X G q16.ns;have b17:bO K d17 ["ground","who","ranks"] []:=Ev q17.fn fun _ _ _ _ _ _ _ _ _=>rfl
  have m17:=PySem.W.mg_of X G q17.ns;have b18:bO K d18 ["some","others"] []:=vc q18.fn fun _ _ _ _ _ _ _ _=>rfl
  have m18:=PySem.W.mg_of X G q18.ns;have b19:bO K d19 ["place","ways","who","ranks"] []:=Fn q19.fn fun _ _ _ _ _ _ _ _ _ _=>rfl
  have m19:=PySem.W.mg_of X G q19.ns;have b20:bO K d20 ["ground","inside","who","goals"] []:=Fn q20.fn fun _ _ _ _ _ _ _ _ _ _=>rfl
  have m20:=PySem.W.mg_of X G q20.ns;have b21:bO K d21 ["ground"] []:=A9 q21.fn fun _ _ _ _ _ _ _=>rfl
  have m21:=PySem.W.mg_of X G q21.ns;have b22:bO K d22 ["ground","who","part"] []:=Ev q22.fn fun _ _ _ _ _ _ _ _ _=>rfl
  have m22:=PySem.W.mg_of X G q22.ns;have b23:bO K d23 ["some","others"] []:=vc q23.fn fun _ _ _ _ _ _ _ _=>rfl
  have m23:=PySem.W.mg_of X G q23.ns;have b24:bO K d24 ["ground","inside"] []:=vc q24.fn fun _ _ _ _ _ _ _ _=>rfl
  have m24:=PySem.W.mg_of X G q24.ns;have b25:bO K d25 ["ground","shares"] []:=vc q25.fn fun _ _ _ _ _ _ _ _=>rfl
  have m25:=PySem.W.mg_of X G q25.ns;have b26:bO K d26 ["ground","inside"] []:=vc q26.fn fun _ _ _ _ _ _ _ _=>rfl
  have m26:=PySem.W.mg_of X G q26.ns;have b27:bO K d27 ["ground"] []:=A9 q27.fn fun _ _ _ _ _ _ _=>rfl
  have m27:=PySem.W.mg_of X G q27.ns;have F28:=ss (st:=iY) l28 c28 k28;have FF_Share:=ss (st:=je) ql_Share qc_Share qk_Share;have bb_Share:=FF_Share.binds (ps:=["self","who","places","moves"]) fun _ _ _ _ _ _ us hl=>match us,hl with | [_,_,_,_],_=>rfl
  have mm_Share:=PySem.W.mg_of X G qa_Share;have ccl_Share:wJ K c_Share:=⟨qpg_Share,qhd_Share,qpo_Share,qsa_Share⟩
  have h0:=PySem.W.mg_of X G qg0;have h1:=PySem.W.mg_of X G qg1;have h2:=PySem.W.mg_of X G qg2;have y0:=PySem.W.mg_none_of X G qz0;have y1:=PySem.W.mg_none_of X G qz1;have y2:=PySem.W.mg_none_of X G qz2;have y3:=PySem.W.mg_none_of X G qz3;have y4:=PySem.W.mg_none_of X G qz4;have y5:=PySem.W.mg_none_of X G qz5;have y6:=PySem.W.mg_none_of X G qz6;have y7:=PySem.W.mg_none_of X G qz7;have y8:=PySem.W.mg_none_of X G qz8;have y9:=PySem.W.mg_none_of X G qz9;have y10:=PySem.W.mg_none_of X G qz10;have y11:=PySem.W.mg_none_of X G qz11;have y12:=PySem.W.mg_none_of X G qz12;refine ⟨nl,PySem.W.fnOf "law" "law" (dJ iY) (cN iY) (ai iY) .none kV28 dc28 pm28 an28 cd28 ct28,fun s v=>.of_eq rfl,fun base _ _=>?_⟩;have QI_Share:bf l.prog w K mg base (cV l.prog w mg) 1 fi_Share _ ["self","who","places","moves"] (Ez c_Share ["who","places","moves"]):=Ah FF_Share ccl_Share qn_Share_who qn_Share_places qn_Share_moves;have Q0:bf l.prog w K mg base (cV l.prog w mg) 1 f0 _ ["_law_script","_law_k"] (dz cf 2):=nQ (k:=0) (W:=q0.fn) (b_len:=y5);have Q1:bf l.prog w K mg base (cV l.prog w mg) 2 f1 _ ["_law_script","_law_k"] (dz cj 2):=rP (k:=1) (W:=q1.fn) (C22:=⟨Q0.mono (by decide),m0,q0.fn.kp,b0⟩);have Q2:bf l.prog w K mg base (cV l.prog w mg) 1 f2 _ ["_law_number","_law_k"] (dz bu 2):=qp (k:=0) (W:=q2.fn);have Q3:bf l.prog w K mg base (cV l.prog w mg) 2 f3 _ ["_law_number","_law_count"] (dz cL 2):=qM (k:=1) (W:=q3.fn) (C24:=⟨Q2.mono (by decide),m2,q2.fn.kp,b2⟩) (b_int:=y3) (b_range:=y9) (b_sorted:=y10) (b_tuple:=y11);have Q4:bf l.prog w K mg base (cV l.prog w mg) 3 f4 _ ["_law_number","_law_count","_law_high"] (dz cx 3):=qw (k:=2) (W:=q4.fn) (C24:=⟨Q2.mono (by decide),m2,q2.fn.kp,b2⟩) (C25:=⟨Q3.mono (by decide),m3,q3.fn.kp,b3⟩);have Q5:bf l.prog w K mg base (cV l.prog w mg) 4 f5 _ ["_law_script","_law_most"] (dz cv 2):=qf (k:=3) (W:=q5.fn) (C23:=⟨Q1.mono (by decide),m1,q1.fn.kp,b1⟩) (C26:=⟨Q4.mono (by decide),m4,q4.fn.kp,b4⟩) (b_len:=y5) (b_max:=y7) (b_min:=y8) (b_range:=y9) (b_tuple:=y11);have Q6:bf l.prog w K mg base (cV l.prog w mg) 1 f6 _ ["ground"] (dz bp 1):=pJ (k:=0) (W:=q6.fn) (b_len:=y5);have Q7:bf l.prog w K mg base (cV l.prog w mg) 1 f7 _ ["head","most"] (dz bE 2):=w6 (k:=0) (W:=q7.fn) (b_len:=y5) (b_tuple:=y11);have Q8:bf l.prog w K mg base (cV l.prog w mg) 1 f8 _ ["ground"] (dz bN 1):=n6 (k:=0) (W:=q8.fn) (g_MARK:=h1) (b_max:=y7) (b_range:=y9) (b_tuple:=y11);have Q9:bf l.prog w K mg base (cV l.prog w mg) 2 f9 _ ["head","most","beyond"] (dz cO 3):=se (k:=1) (W:=q9.fn) (C2:=⟨Q7.mono (by decide),m7,q7.fn.kp,b7⟩) (b_len:=y5) (b_range:=y9);have Q10:bf l.prog w K mg base (cV l.prog w mg) 3 f10 _ ["place","measures","most","beyond"] (dz bI 4):=qT (k:=2) (W:=q10.fn) (C2:=⟨Q7.mono (by decide),m7,q7.fn.kp,b7⟩) (C3:=⟨Q9.mono (by decide),m9,q9.fn.kp,b9⟩) (g_GOALS:=h0) (g_MARK:=h1) (g_WHO:=h2) (b_len:=y5) (b_max:=y7) (b_min:=y8);have Q11:bf l.prog w K mg base (cV l.prog w mg) 4 f11 _ ["ground"] (dz fQ 1):=AM (k:=3) (W:=q11.fn) (C1:=⟨Q6.mono (by decide),m6,q6.fn.kp,b6⟩) (C2:=⟨Q7.mono (by decide),m7,q7.fn.kp,b7⟩) (C0:=⟨Q8.mono (by decide),m8,q8.fn.kp,b8⟩) (C4:=⟨Q10.mono (by decide),m10,q10.fn.kp,b10⟩) (b_enumerate:=y2) (b_tuple:=y11);have Q12:bf l.prog w K mg base (cV l.prog w mg) 5 f12 _ ["ground"] (dz bM 1):=nR (k:=4) (W:=q12.fn) (C1:=⟨Q6.mono (by decide),m6,q6.fn.kp,b6⟩) (C5:=⟨Q11.mono (by decide),m11,q11.fn.kp,b11⟩) (b_tuple:=y11);have Q13:bf l.prog w K mg base (cV l.prog w mg) 1 f13 _ ["ground"] (dz cu 1):=qb (k:=0) (W:=q13.fn) (b_len:=y5) (b_range:=y9) (b_tuple:=y11);have Q14:bf l.prog w K mg base (cV l.prog w mg) 1 f14 _ ["moves","places"] (dz cD 2):=sG (k:=0) (W:=q14.fn) (b_enumerate:=y2) (b_tuple:=y11);have Q15:bf l.prog w K mg base (cV l.prog w mg) 1 f15 _ ["moves","others"] (dz aA 2):=lF (k:=0) (W:=q15.fn) (b_tuple:=y11) (b_zip:=y12);have Q16:bf l.prog w K mg base (cV l.prog w mg) 1 f16 _ ["ranks"] (dz ca 1):=xl (k:=0) (W:=q16.fn) (b_enumerate:=y2) (b_tuple:=y11);have Q17:bf l.prog w K mg base (cV l.prog w mg) 2 f17 _ ["ground","who","ranks"] (dz aZ 3):=lB (k:=1) (W:=q17.fn) (C17:=⟨Q16.mono (by decide),m16,q16.fn.kp,b16⟩) (g_GOALS:=h0) (g_WHO:=h2) (b_tuple:=y11);have Q18:bf l.prog w K mg base (cV l.prog w mg) 1 f18 _ ["some","others"] (dz cb 2):=xC (k:=0) (W:=q18.fn) (b_tuple:=y11);have Q19:bf l.prog w K mg base (cV l.prog w mg) 1 f19 _ ["place","ways","who","ranks"] (dz bS 4):=rY (k:=0) (W:=q19.fn) (g_WHO:=h2) (b_len:=y5);have Q20:bf l.prog w K mg base (cV l.prog w mg) 2 f20 _ ["ground","inside","who","goals"] (dz cr 4):=sT (k:=1) (W:=q20.fn) (C8:=⟨Q18.mono (by decide),m18,q18.fn.kp,b18⟩) (C15:=⟨Q19.mono (by decide),m19,q19.fn.kp,b19⟩) (g_GOALS:=h0) (b_len:=y5) (b_list:=y6) (b_range:=y9) (b_tuple:=y11);have Q21:bf l.prog w K mg base (cV l.prog w mg) 1 f21 _ ["ground"] (dz bQ 1):=sk (k:=0) (W:=q21.fn) (b_tuple:=y11);have Q22:bf l.prog w K mg base (cV l.prog w mg) 2 f22 _ ["ground","who","part"] (dz bq 3):=lG (k:=1) (W:=q22.fn) (C8:=⟨Q18.mono (by decide),m18,q18.fn.kp,b18⟩) (C10:=⟨Q21.mono (by decide),m21,q21.fn.kp,b21⟩) (g_GOALS:=h0) (g_WHO:=h2) (b_list:=y6) (b_tuple:=y11);have Q23:bf l.prog w K mg base (cV l.prog w mg) 1 f23 _ ["some","others"] (dz bK 2):=v8 (k:=0) (W:=q23.fn) (b_tuple:=y11);have Q25:bf l.prog w K mg base (cV l.prog w mg) 2 f25 _ ["ground","shares"] (dz (aV c_Share) 2):=jn (k:=1) (W:=q25.fn) (C11:=⟨Q15.mono (by decide),m15,q15.fn.kp,b15⟩) (C10:=⟨Q21.mono (by decide),m21,q21.fn.kp,b21⟩) (b_tuple:=y11) (cl_Share:=ccl_Share) (n_Share_moves:=qn_Share_moves) (n_Share_places:=qn_Share_places) (n_Share_who:=qn_Share_who);have HH26:∀ n,bf l.prog w K mg base (cV l.prog w mg) (2*n+3) f26 _ ["ground","inside"] (dz (aD c_Share n) 2)->bf l.prog w K mg base (cV l.prog w mg) (2*n+4) f24 _ ["ground","inside"] (dz (aT c_Share n) 2):=fun n ih=>kF (k:=2*n+3) (W:=q24.fn) (C20:=⟨ih,m26,q26.fn.kp,b26⟩) (C12:=⟨Q14.mono (by omega),m14,q14.fn.kp,b14⟩) (C11:=⟨Q15.mono (by omega),m15,q15.fn.kp,b15⟩) (C18:=⟨Q17.mono (by omega),m17,q17.fn.kp,b17⟩) (C17:=⟨Q16.mono (by omega),m16,q16.fn.kp,b16⟩) (C16:=⟨Q20.mono (by omega),m20,q20.fn.kp,b20⟩) (C13:=⟨Q22.mono (by omega),m22,q22.fn.kp,b22⟩) (C9:=⟨Q23.mono (by omega),m23,q23.fn.kp,b23⟩) (g_MARK:=h1) (b_enumerate:=y2) (b_len:=y5) (b_max:=y7) (cl_Share:=ccl_Share) (n_Share_moves:=qn_Share_moves) (n_Share_places:=qn_Share_places) (n_Share_who:=qn_Share_who) (m_Share:=mm_Share) (MK_Share:=⟨qmk_Share,qi_Share,qf_Share,qkc_Share⟩) (I_Share:=QI_Share) (B_Share:=bb_Share) (hk:=by omega)
  have Q26:∀ n,bf l.prog w K mg base (cV l.prog w mg) (2*n+3) f26 _ ["ground","inside"] (dz (aD c_Share n) 2):=fun n=>by
    induction n with
    | zero=>exact wz
    | succ n ih=>exact kS (k:=2*n+4) (W:=q26.fn) (C19:=⟨HH26 n ih,m24,q24.fn.kp,b24⟩) (C14:=⟨Q25.mono (by omega),m25,q25.fn.kp,b25⟩) (C9:=⟨Q23.mono (by omega),m23,q23.fn.kp,b23⟩) (b_len:=y5) (cl_Share:=ccl_Share) (n_Share_places:=qn_Share_places)
  have Q26:=Q26 14;have Q27:bf l.prog w K mg base (cV l.prog w mg) 32 f27 _ ["ground"] (dz (jV c_Share) 1):=Dz (k:=31) (W:=q27.fn) (C7:=⟨Q13.mono (by decide),m13,q13.fn.kp,b13⟩) (C20:=⟨Q26.mono (by decide),m26,q26.fn.kp,b26⟩);have Q28:bf l.prog w K mg base (cV l.prog w mg) 33 fa _ ["_law_script"] (dz (uJ c_Share) 1):=DA (k:=32) (W:=F28) (C27:=⟨Q5.mono (by decide),m5,q5.fn.kp,b5⟩) (C6:=⟨Q12.mono (by decide),m12,q12.fn.kp,b12⟩) (C21:=⟨Q27.mono (by decide),m27,q27.fn.kp,b27⟩) (b_all:=y0) (b_bool:=y1) (b_int:=y3) (b_isinstance:=y4) (b_tuple:=y11);exact Q28.imp D9
end G
open PySem PySem.W PyProof.Rows
set_option maxRecDepth 100000 in
set_option maxHeartbeats 0 in
theorem PySem.Challenge.cw_duelground_k31_whole_two_ways_holds : PySem.Challenge.rw_duelground_k31_whole_two_ways.Holds := by
  w_on;o_law;k_head;(case hw=>w_witness2)
  k_fill
  refine D2.Fg (l:=PySem.Challenge.rw_duelground_k31_whole_two_ways) (k:=33) (x := "_law_script") (F:=G.F0) rfl rfl ⟨rfl,by decide,by decide⟩ (fun w h Y=>PySem.W.kIn_of Y) G.uV ?F
  case F =>
    intro w mg fa h KX GG hmg;refine' G.CS KX GG hmg ?q0 ?q1 ?q2 ?q3 ?q4 ?q5 ?q6 ?q7 ?q8 ?q9 ?q10 ?q11 ?q12 ?q13 ?q14 ?q15 ?q16 ?q17 ?q18 ?q19 ?q20 ?q21 ?q22 ?q23 ?q24 ?q25 ?q26 ?q27 ?a28 ?l28 ?c28 ?k28 ?qg0 ?qg1 ?qg2 ?qz0 ?qz1 ?qz2 ?qz3 ?qz4 ?qz5 ?qz6 ?qz7 ?qz8 ?qz9 ?qz10 ?qz11 ?qz12 ?qa_Share ?qi_Share ?qf_Share ?ql_Share ?qc_Share ?qk_Share ?qpg_Share ?qhd_Share ?qpo_Share ?qsa_Share ?qmk_Share ?qkc_Share ?qn_Share_who ?qn_Share_places ?qn_Share_moves ?nl
    (case q0=>refine' D2.bd ?a ?l ?c ?k;(case a=>k_is);(case l=>k_is);(case c=>k_is);(case k=>k_is))
    (case q1=>refine' D2.bd ?a ?l ?c ?k;(case a=>k_is);(case l=>k_is);(case c=>k_is);(case k=>k_is))
    (case q2=>refine' D2.bd ?a ?l ?c ?k;(case a=>k_is);(case l=>k_is);(case c=>k_is);(case k=>k_is))
    (case q3=>refine' D2.bd ?a ?l ?c ?k;(case a=>k_is);(case l=>k_is);(case c=>k_is);(case k=>k_is))
    (case q4=>refine' D2.bd ?a ?l ?c ?k;(case a=>k_is);(case l=>k_is);(case c=>k_is);(case k=>k_is))
    (case q5=>refine' D2.bd ?a ?l ?c ?k;(case a=>k_is);(case l=>k_is);(case c=>k_is);(case k=>k_is))
    (case q6=>refine' D2.bd ?a ?l ?c ?k;(case a=>k_is);(case l=>k_is);(case c=>k_is);(case k=>k_is))
    (case q7=>refine' D2.bd ?a ?l ?c ?k;(case a=>k_is);(case l=>k_is);(case c=>k_is);(case k=>k_is))
    (case q8=>refine' D2.bd ?a ?l ?c ?k;(case a=>k_is);(case l=>k_is);(case c=>k_is);(case k=>k_is))
    (case q9=>refine' D2.bd ?a ?l ?c ?k;(case a=>k_is);(case l=>k_is);(case c=>k_is);(case k=>k_is))
    (case q10=>refine' D2.bd ?a ?l ?c ?k;(case a=>k_is);(case l=>k_is);(case c=>k_is);(case k=>k_is))
    (case q11=>refine' D2.bd ?a ?l ?c ?k;(case a=>k_is);(case l=>k_is);(case c=>k_is);(case k=>k_is))
    (case q12=>refine' D2.bd ?a ?l ?c ?k;(case a=>k_is);(case l=>k_is);(case c=>k_is);(case k=>k_is))
    (case q13=>refine' D2.bd ?a ?l ?c ?k;(case a=>k_is);(case l=>k_is);(case c=>k_is);(case k=>k_is))
    (case q14=>refine' D2.bd ?a ?l ?c ?k;(case a=>k_is);(case l=>k_is);(case c=>k_is);(case k=>k_is))
    (case q15=>refine' D2.bd ?a ?l ?c ?k;(case a=>k_is);(case l=>k_is);(case c=>k_is);(case k=>k_is))
    (case q16=>refine' D2.bd ?a ?l ?c ?k;(case a=>k_is);(case l=>k_is);(case c=>k_is);(case k=>k_is))
    (case q17=>refine' D2.bd ?a ?l ?c ?k;(case a=>k_is);(case l=>k_is);(case c=>k_is);(case k=>k_is))
    (case q18=>refine' D2.bd ?a ?l ?c ?k;(case a=>k_is);(case l=>k_is);(case c=>k_is);(case k=>k_is))
    (case q19=>refine' D2.bd ?a ?l ?c ?k;(case a=>k_is);(case l=>k_is);(case c=>k_is);(case k=>k_is))
    (case q20=>refine' D2.bd ?a ?l ?c ?k;(case a=>k_is);(case l=>k_is);(case c=>k_is);(case k=>k_is))
    (case q21=>refine' D2.bd ?a ?l ?c ?k;(case a=>k_is);(case l=>k_is);(case c=>k_is);(case k=>k_is))
    (case q22=>refine' D2.bd ?a ?l ?c ?k;(case a=>k_is);(case l=>k_is);(case c=>k_is);(case k=>k_is))
    (case q23=>refine' D2.bd ?a ?l ?c ?k;(case a=>k_is);(case l=>k_is);(case c=>k_is);(case k=>k_is))
    (case q24=>refine' D2.bd ?a ?l ?c ?k;(case a=>k_is);(case l=>k_is);(case c=>k_is);(case k=>k_is))
    (case q25=>refine' D2.bd ?a ?l ?c ?k;(case a=>k_is);(case l=>k_is);(case c=>k_is);(case k=>k_is))
    (case q26=>refine' D2.bd ?a ?l ?c ?k;(case a=>k_is);(case l=>k_is);(case c=>k_is);(case k=>k_is))
    (case q27=>refine' D2.bd ?a ?l ?c ?k;(case a=>k_is);(case l=>k_is);(case c=>k_is);(case k=>k_is))
    (case a28=>k_is)
    (case l28=>k_is)
    (case c28=>k_is)
    (case k28=>k_is)
    (case qg0=>k_is)
    (case qg1=>k_is)
    (case qg2=>k_is)
    (case qz0=>k_is)
    (case qz1=>k_is)
    (case qz2=>k_is)
    (case qz3=>k_is)
    (case qz4=>k_is)
    (case qz5=>k_is)
    (case qz6=>k_is)
    (case qz7=>k_is)
    (case qz8=>k_is)
    (case qz9=>k_is)
    (case qz10=>k_is)
    (case qz11=>k_is)
    (case qz12=>k_is)
    (case qa_Share=>k_is)
    (case qi_Share=>k_is)
    (case qf_Share=>k_is)
    (case ql_Share=>k_is)
    (case qc_Share=>k_is)
    (case qk_Share=>k_is)
    (case qpg_Share=>k_is)
    (case qhd_Share=>k_is)
    (case qpo_Share=>k_is)
    (case qsa_Share=>k_is)
    (case qmk_Share=>k_is)
    (case qkc_Share=>k_is)
    (case qn_Share_who=>k_is)
    (case qn_Share_places=>k_is)
    (case qn_Share_moves=>k_is)
    (case nl=>first | rfl | k_is | decide)

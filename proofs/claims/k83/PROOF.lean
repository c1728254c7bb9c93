import PyProof.Rows.All
import Wide.All
import OpenK.AllK
import Wide.FinOn
import Lean
import PyProof.EqAt
import PyProof.EqKinds
import PyProof.TupleCall
import PySem.Challenge.RW_duelground_k83_whole_watched
noncomputable section
set_option Elab.async false
set_option linter.all false
set_option maxRecDepth 100000
set_option bootstrap.genMatcherCode false
set_option genSizeOf false
set_option genInjectivity false
set_option compiler.extract_closed false
set_option genSizeOfSpec false
local macro_rules| `(tactic|omega) => `(tactic|first|lia|omega +splitDisjunctions)
open PySem renaming PyData → Qa
open PySem renaming wpAny_bind → Qb
open List renaming length_map → Qd
open PySem.Heap renaming get?_push_of_some → Qe
open List renaming mem_cons_of_mem → Qf
open PySem renaming wpAny_pure → Qg
open PySem renaming FuncData → Qh
open List renaming replicate → Qi
namespace L2
open PySem PySem.Spec PyProof.Rows
abbrev cI:=Sum Int Str
def qX:cI->Value->Bool
 |.inl k,v=>Value.isInt k v
 |.inr x,v=>Value.isStrOf x v
def KY(w:World):cI->Int
 |.inl k=>hashInt k
 |.inr x=>hashStr w x
theorem dJ:∀{k:cI} {v:Value},qX k v=true->(∃i t,k=Sum.inl i/\v=Value.int i t)\/(∃x t,k=Sum.inr x/\v=Value.str x t)
 |.inl i,v,h=>by
  obtain⟨t,e⟩:=Value.isInt_shape (k:=i) (v:=v) h;exact .inl ⟨i,t,rfl,e⟩
 |.inr x,v,h=>by
  obtain⟨t,e⟩:=Value.isStrOf_shape (x:=x) (v:=v) h;exact .inr ⟨x,t,rfl,e⟩
theorem AN(i:Int)(t:Tok):qX (.inl i) (.int i t)=true:=by simp[qX,Value.isInt]
theorem AO(x:Str)(t:Tok):qX (.inr x) (.str x t)=true:=by simp[qX,Value.isStrOf]
theorem GZ(a b:Int):decide ((Sum.inl a:cI)=Sum.inl b)=(a==b):=by
 by_cases e:a=b
 ·subst e;simp
 ·have h:¬(Sum.inl a:cI)=Sum.inl b:=λq=>e (Sum.inl.inj q)
  rw[decide_eq_false h];exact(beq_eq_false_iff_ne.mpr e).symm
theorem G3(a b:Str):decide ((Sum.inr a:cI)=Sum.inr b)=decide (a=b):=by
 by_cases e:a=b
 ·subst e;simp
 ·have h:¬(Sum.inr a:cI)=Sum.inr b:=λq=>e (Sum.inr.inj q)
  rw[decide_eq_false h,decide_eq_false e]
theorem G1(a:Int)(b:Str):decide ((Sum.inl a:cI)=Sum.inr b)=false:=decide_eq_false (λq=>nomatch q)
theorem G2(a:Str)(b:Int):decide ((Sum.inr a:cI)=Sum.inl b)=false:=decide_eq_false (λq=>nomatch q)
def dW(prog:Program)(w:World):PySem.KeyKind prog w cI where
 is:=qX
 hash:=KY w
 inj:=λv a b ha hb=>by
  rcases dJ ha with⟨i,t,rfl,rfl⟩| ⟨x,t,rfl,rfl⟩
  ·rcases dJ hb with⟨j,u,rfl,e⟩| ⟨y,u,rfl,e⟩
   ·injection e with e1 _;rw[e1]
   ·exact nomatch e
  ·rcases dJ hb with⟨j,u,rfl,e⟩| ⟨y,u,rfl,e⟩
   ·exact nomatch e
   ·injection e with e1 _;rw[e1]
 byValue:=λk v h=>by
  rcases dJ h with⟨i,t,rfl,rfl⟩| ⟨x,t,rfl,rfl⟩<;>rfl
 pyHash:=λhv h=>by
  rcases dJ hv with⟨i,t,rfl,rfl⟩| ⟨x,t,rfl,rfl⟩
  ·exact wpAny_pyHash_int h
  ·exact wpAny_pyHash_str h
 eqBool:=λhu hv h=>by
  rcases dJ hu with⟨i,t,rfl,rfl⟩| ⟨x,t,rfl,rfl⟩
  ·rcases dJ hv with⟨j,u,rfl,rfl⟩| ⟨y,u,rfl,rfl⟩
   ·rw[GZ]at h;exact wpAny_eqBool_int h
   ·rw[G1]at h;exact SeqAt.EqAt.int_str i t y u _ _ _ _ h
  ·rcases dJ hv with⟨j,u,rfl,rfl⟩| ⟨y,u,rfl,rfl⟩
   ·rw[G2]at h;exact SeqAt.EqAt.str_int x t j u _ _ _ _ h
   ·rw[G3]at h;exact wpAny_eqBool_str h
 «strs»:=λk x t v h=>by
  rcases dJ h with⟨i,u,rfl,e⟩| ⟨y,u,rfl,e⟩
  ·exact nomatch e
  ·injection e with e1 _
   subst e1;cases v<;>rfl
theorem wm(prog:Program)(w:World)(i:Int)(t:Tok):(dW prog w).is (.inl i) (.int i t)=true:=AN i t
theorem wo(prog:Program)(w:World)(x:Str)(t:Tok):(dW prog w).is (.inr x) (.str x t)=true:=AO x t
inductive V where
 |non|bl (b:Bool)|int (i:Int)|str (x:Str)|byt (b:Array UInt8)|flt (b:UInt64)|ref (a:Addr)|ty (n:String)
 deriving DecidableEq
def cA:V->Value->Prop
 |.non,u=>u=Value.none
 |.bl b,u=>u=Value.bool b
 |.int i,u=>∃t,u=Value.int i t
 |.str x,u=>∃t,u=Value.str x t
 |.byt b,u=>∃t,u=Value.bytes b t
 |.flt b,u=>∃t,u=Value.float b t
 |.ref a,u=>u=Value.ref a
 |.ty n,u=>u=Value.type n
abbrev bO:List V->List Value->Prop:=Paired cA
theorem bO.length{xs:List V}{us:List Value}(r:bO xs us):xs.length=us.length:=Paired.length r
theorem bO.get:∀{xs:List V} {us:List Value} {i:Nat} {x:V},bO xs us->xs[i]?=some x->∃u,us[i]?=some u/\cA x u
 | _,_,_,_,.nil,e=>by simp at e
 | _,_,0,_,.cons r _,e=>by simp at e;subst e;exact⟨_,rfl,r⟩
 | _,_,i+1,x,.cons _ t,e=>by
  obtain⟨u,h1,h2⟩:=bO.get (i:=i) (x:=x) t (by simpa using e);exact⟨u,by simpa using h1,h2⟩
theorem bO.set{x:V}{u:Value}(r:cA x u):∀{xs:List V} {us:List Value} (i:Nat),bO xs us->bO (xs.set i x) (us.set i u)
 | _,_,_,.nil=>.nil
 | _,_,0,.cons _ t=>.cons r t
 | _,_,i+1,.cons q t=>.cons q (bO.set r i t)
theorem bO.append{xs ys:List V}{us ws:List Value}(h:bO xs us)(s:bO ys ws):bO (xs++ys) (us++ws):=by
 induction h with
 |nil=>exact s
 |cons r t ih=>exact .cons r ih
theorem bO.take:∀{xs:List V} {us:List Value} (n:Nat),bO xs us->bO (xs.take n) (us.take n)
 | _,_,0,_=>.nil
 | _,_,_+1,.nil=>.nil
 | _,_,n+1,.cons r t=>.cons r (bO.take n t)
theorem bO.drop:∀{xs:List V} {us:List Value} (n:Nat),bO xs us->bO (xs.drop n) (us.drop n)
 | _,_,0,r=>r
 | _,_,_+1,.nil=>.nil
 | _,_,n+1,.cons _ t=>bO.drop n t
def n5:Option V->Option Value->Prop
 |some v,some u=>cA v u
 |none,none=>True
 | _,_=>False
def KV{κ:Type}:List (κ×V)->List (κ×Value)->Prop:=Paired λ(p:κ×V) (q:κ×Value)=>p.1=q.1/\cA p.2 q.2
def kV:cI->V
 |.inl i=>.int i
 |.inr x=>.str x
inductive HO where
 /-- a list -/
 |lst (xs:List V)
 /-- a tuple (never changes) -/
 |tup (xs:List V)
 /-- a dict whose keys are ints and texts;one whose keys are tuples of ints and texts (the empty one is both) -/
 |dK (kvs:List (cI×V))|dT (kvs:List (List cI×V))
 /-- a set of ints: its members,its size -/
 |set (S:Int->Bool) (n:Nat)
 /-- an instance of the class at C,its dict at dx,its attributes -/
 |ins (C dx:Addr) (fs:List (Str×V))
 /-- the dict of the instance at x -/
 |own (x:Addr)
 /-- the dict of an exception -/
 |xd (fs:List (Str×V))
 /-- a bound method,f of x -/
 |met (f x:Addr)
 /-- a range object lo,lo+1,.. below hi -/
 |rng (lo hi:Int)
 /-- a thing that is known to the object (the script;a dict while a loop walks it): read,never written while it is so -/
 |frz (o:Obj) (u:HO)
 /-- a code object's table -/
 |tbl (ps:Array Value)
 /-- any other thing,by what is true of its one object (a def of one's own: SetO a S n:=HO.ext λh=>..) -/
 |ext (φ:Heap->Prop)
abbrev Hp:=Addr->Option HO
def dj(H:Hp)(a:Addr)(o:HO):Hp:=λb=>if b=a then some o else H b
theorem bh{H:Hp}{a:Addr}{o:HO}:dj H a o a=some o:=by unfold dj;rw[if_pos rfl]
theorem aD{H:Hp}{a b:Addr}{o:HO}(h:b≠a):dj H a o b=H b:=by unfold dj;rw[if_neg h]
theorem Jc{H:Hp}{a b:Addr}{o u:HO}(h:H a=some o)(h':H b=some u)(d:o≠u):a≠b:=by
 intro e;subst e;rw[h]at h';exact d (Option.some.inj h')
theorem bo{H:Hp}{a b:Addr}{o:HO}(h:H a=some o)(h':H b=none):a≠b:=by
 intro e;subst e;rw[h]at h';cases h'
def iF(h:Heap)(a:Addr)(items:Array Value):Prop:=∃o,h.get? a=some o/\o.cls=.type "tuple" /\ (∃n,o.data=.seq items n)/\o.dict=none
theorem iF.is{h:Heap}{a:Addr}{items:Array Value}(x:iF h a items):IsTup h a items:=by
 obtain⟨o,e,c,n,_⟩:=x;exact⟨o,e,c,n⟩
theorem iF.lt{h:Heap}{a:Addr}{items:Array Value}(x:iF h a items):a<h.objs.size:=by
 obtain⟨o,e,_⟩:=x;exact Heap.lt_size e
theorem iF.new(h:Heap)(items:Array Value):iF (h.push { cls:=.type "tuple",data:=.seq items }) h.objs.size items:=⟨_,Heap.get?_push_size _ rfl,rfl,⟨_,rfl⟩,rfl⟩
section
variable(P:Program)(w:World)
def cD(H:Hp)(h:Heap)(a:Addr):HO->Prop
 |.lst xs=>xs.length<=sizeLine/\∃(its:List Value) (n:Nat),bO xs its/\h.get? a=some { cls:=.type "list",data:=.seq its.toArray n }
 |.tup xs=>xs.length<=sizeLine/\∃its:List Value,bO xs its/\iF h a its.toArray
 |.dK kvs=>kvs.length<=sizeLine/\(a==sysModules)=false/\∃vs,KV kvs vs/\h.DictOf (dW P w) a vs
 |.dT kvs=>kvs.length<=sizeLine/\(a==sysModules)=false/\∃xs:List (List cI×Addr×Value),
   Paired (λ(p:List cI×V) (q:List cI×Addr×Value)=>p.1=q.1/\H q.2.1=some (.tup (p.1.map kV))/\cA p.2 q.2.2) kvs xs /\
   ∃o es ep,h.get? a=some o/\o.ExactDict/\o.data=.dict es ep/\es.toList=xs.map (entryOfKey (tupleKind (dW P w)))/\(xs.map (·.1)).Nodup
 |.set S n=>h.SetOf (intKind P w) a S n
 |.ins C dx fs=>H dx=some (.own a)/\fs.length<=1000/\dx≠a/\h.get? a=some (PySem.W.instObj C dx) /\
   ∃mA,h.Ns1 dx mA/\(∀f,n5 (fs.lookup f) (mA f))/\PySem.Within mA (fs.map (·.1))
 |.own _=>∃o,h.get? a=some o
 |.xd fs=>∃mA,h.Ns1 a mA/\∀f,n5 (fs.lookup f) (mA f)
 |.rng lo hi=>∃t u v,h.get? a=some { cls:=.type "range",data:=.fields #[.int lo t,.int hi u,.int 1 v] }
 |.frz o u=>h.get? a=some o/\cD H h a u
 |.tbl ps=>h.get? a=some { cls:=.none,data:=.fields ps }
 |.met f x=>h.get? a=some (PySem.W.methodObj (.ref f) (.ref x))
 |.ext φ=>φ h/\(∃o,h.get? a=some o)/\∀h1 h2:Heap,φ h1->(∀o,h1.get? a=some o->h2.get? a=some o)->φ h2
def iZ(H:Hp)(h:Heap):Prop:=∀a o,H a=some o->cD P w H h a o
end
section
variable{P:Program}{w:World}{H H':Hp}{h h':Heap}{a:Addr}{o:HO}
theorem cD.lt(x:cD P w H h a o):a<h.objs.size:=by
 cases o with
 |lst xs=>obtain⟨_,_,_,_,e⟩:=x;exact Heap.lt_size e
 |tup xs=>obtain⟨_,_,_,p⟩:=x;exact p.lt
 |dK kvs=>obtain⟨_,_,_,_,o,_,_,e,_⟩:=x;exact Heap.lt_size e
 |dT kvs=>obtain⟨_,_,_,_,o,_,_,e,_⟩:=x;exact Heap.lt_size e
 |set S n=>obtain⟨o,_,_,_,e,_⟩:=x;exact Heap.lt_size e
 |ins C dx fs=>obtain⟨_,_,_,e,_⟩:=x;exact Heap.lt_size e
 |own y=>obtain⟨_,e⟩:=x;exact Heap.lt_size e
 |xd fs=>obtain⟨_,⟨_,_,_,e,_⟩,_⟩:=x;exact Heap.lt_size e
 |rng lo hi=>obtain⟨_,_,_,e⟩:=x;exact Heap.lt_size e
 |frz ob u=>obtain⟨e,_⟩:=x;exact Heap.lt_size e
 |tbl ps=>exact Heap.lt_size (show h.get? a=some _ from x)
 |met f y=>exact Heap.lt_size (show h.get? a=some _ from x)
 |ext φ=>obtain⟨_,⟨_,e⟩,_⟩:=x;exact Heap.lt_size e
theorem Paired.mapP{α β:Type}{F G:α->β->Prop}{l₁:List α}{l₂:List β}(h:Paired F l₁ l₂)(f:∀a b,F a b->G a b):Paired G l₁ l₂:=by
 induction h with
 |nil=>exact .nil
 |cons r t ih=>exact .cons (f _ _ r) ih
theorem cD.stay(x:cD P w H h a o)(k:∀b u,(b=a\/H b=some (.own a))->h.get? b=some u->h'.get? b=some u)
  (ho:∀b,H b=some (.own a)->H' b=some (.own a)) (ht:∀b xs,H b=some (.tup xs)->H' b=some (.tup xs)):cD P w H' h' a o:=by
 induction o with
 |lst xs=>obtain⟨z,its,n,r,e⟩:=x;exact⟨z,its,n,r,k _ _ (.inl rfl) e⟩
 |tup xs=>obtain⟨z,its,r,ob,e,c⟩:=x;exact⟨z,its,r,ob,k _ _ (.inl rfl) e,c⟩
 |dK kvs=>obtain⟨z,y,vs,r,ob,es,ep,e,c⟩:=x;exact⟨z,y,vs,r,ob,es,ep,k _ _ (.inl rfl) e,c⟩
 |dT kvs=>
  obtain⟨z,y,xs,r,ob,es,ep,e,c⟩:=x;exact⟨z,y,xs,Paired.mapP r λp q z=>⟨z.1,ht _ _ z.2.1,z.2.2⟩,ob,es,ep,k _ _ (.inl rfl) e,c⟩
 |set S n=>obtain⟨ob,es,ep,t,e,c⟩:=x;exact⟨ob,es,ep,t,k _ _ (.inl rfl) e,c⟩
 |ins C dx fs=>
  obtain⟨d,z,ne,e,mA,⟨od,es,ep,e2,c⟩,r⟩:=x;exact⟨ho _ d,z,ne,k _ _ (.inl rfl) e,mA,⟨od,es,ep,k _ _ (.inr d) e2,c⟩,r⟩
 |own y=>obtain⟨ob,e⟩:=x;exact⟨ob,k _ _ (.inl rfl) e⟩
 |xd fs=>obtain⟨mA,⟨od,es,ep,e,c⟩,r⟩:=x;exact⟨mA,⟨od,es,ep,k _ _ (.inl rfl) e,c⟩,r⟩
 |rng lo hi=>obtain⟨t,u,v,e⟩:=x;exact⟨t,u,v,k _ _ (.inl rfl) e⟩
 |frz ob u ih=>obtain⟨e,q⟩:=x;exact⟨k _ _ (.inl rfl) e,ih q⟩
 |tbl ps=>
  have e:h.get? a=some { cls:=.none,data:=.fields ps }:=x;show h'.get? a=some { cls:=.none,data:=.fields ps };exact k a _ (.inl rfl) e
 |met f y=>
  have e:h.get? a=some (PySem.W.methodObj (.ref f) (.ref y)):=x;show h'.get? a=some (PySem.W.methodObj (.ref f) (.ref y));exact k a _ (.inl rfl) e
 |ext φ=>obtain⟨p,⟨o,e⟩,st⟩:=x;exact⟨st _ _ p λo q=>k _ _ (.inl rfl) q,⟨o,k _ _ (.inl rfl) e⟩,st⟩
theorem iZ.lt(x:iZ P w H h)(e:H a=some o):a<h.objs.size:=(x a o e).lt
theorem iZ.fresh(x:iZ P w H h)(e:h.objs.size<=a):H a=none:=by
 cases q:H a with
 |none=>rfl
 |some u=>exact absurd (Nat.lt_of_lt_of_le (x.lt q) e) (Nat.lt_irrefl _)
theorem iZ.kept(x:iZ P w H h)(k:∀b u,h.get? b=some u->h'.get? b=some u):iZ P w H h':=λa o e=>
 (x a o e).stay (λb u _ q=>k b u q) (λ_ q=>q) λ_ _ q=>q
theorem iZ.laid(x:iZ P w H h)(k:∀b u,h.get? b=some u->h'.get? b=some u)(hp:h.objs.size<=a)(new:cD P w (dj H a o) h' a o):iZ P w (dj H a o) h':=λb u e=>by
 have hn:=x.fresh hp;by_cases hb:b=a
 ·subst hb;rw[bh]at e;cases e;exact new
 ·rw[aD hb]at e;exact(x b u e).stay (λc v _ q=>k c v q) (λc q=>by rw[aD (bo q hn)];exact q) λc xs q=>by rw[aD (bo q hn)];exact q
end
def Rd(H:Hp)(a:Addr)(u:HO):Prop:=H a=some u\/∃o,H a=some (.frz o u)
theorem Rd.ok{P:Program}{w:World}{H:Hp}{h:Heap}{a:Addr}{u:HO}(r:Rd H a u)(x:iZ P w H h):cD P w H h a u:=by
 rcases r with r| ⟨o,r⟩
 ·exact x a u r
 ·obtain⟨_,q⟩:=x a _ r;exact q
def Ij:Option HO->Prop
 |some (.lst _)=>True
 |some (.dK _)=>True
 |some (.dT _)=>True
 |some (.set _ _)=>True
 |some (.ins _ _ _)=>True
 |some (.ext _)=>True
 | _=>False
section
variable{P:Program}{w:World}{H:Hp}{h h':Heap}{x e:Addr}{o':HO}
theorem iZ.write(ok:iZ P w H h)(mu:Ij (H x))(he:e=x\/H e=some (.own x))(k:∀b u,b≠e->h.get? b=some u->h'.get? b=some u)(heo:∃u,h'.get? e=some u)
  (new:cD P w (dj H x o') h' x o'):iZ P w (dj H x o') h':=λb u q=>by
 have nown:∀c y,H c=some (.own y)->c≠x:=λc y r z=>by subst z;rw[r]at mu;exact mu
 have ntup:∀c xs,H c=some (.tup xs)->c≠x:=λc xs r z=>by subst z;rw[r]at mu;exact mu
 by_cases hb:b=x
 ·subst hb;rw[bh]at q;cases q;exact new
 ·rw[aD hb]at q;by_cases hbe:b=e
  ·have q':H b=some (.own x):=by
    rcases he with z|z
    ·exact absurd (hbe.trans z) hb
    ·rw[hbe];exact z
   rw[q]at q';cases q';obtain⟨v,hv⟩:=heo;exact⟨v,by rw[hbe];exact hv⟩
  ·refine(ok b u q).stay (λc v hc r=>k c v ?_ r) (λc r=>by rw[aD (nown c b r)];exact r) λc xs r=>by rw[aD (ntup c xs r)];exact r
   rcases hc with rfl|hc
   ·exact hbe
   ·rintro rfl;rcases he with z|z
    ·exact nown c b hc z
    ·rw[hc]at z;cases z;exact hb rfl
end
structure Un(fs ex:List Addr)(H H':Hp)(h h':Heap):Prop where
 keep:∀b o,h.get? b=some o->H b=none->b∉fs->b∉ex->h'.get? b=some o
 slot:∀b o,h.get? b=some o->H b=none->b∈fs->b∉ex->∃sl,h'.get? b=some { o with slots:=sl }
 free:∀b o,h.get? b=some o->H b=none->b∉ex->H' b=none
 there:∀b o,h.get? b=some o->b∉ex->∃o',h'.get? b=some o'
 tups:∀b xs,H b=some (.tup xs)->H' b=some (.tup xs)
 frzs:∀b o u,H b=some (.frz o u)->H' b=some (.frz o u)
 tbls:∀b ps,H b=some (.tbl ps)->∃more,H' b=some (.tbl (ps++more))
section
variable{fs fs' ex ex':List Addr}{H H1 H2:Hp}{h h1 h2 h':Heap}{a x e:Addr}{o:HO}
theorem Un.any(u:Un fs ex H H1 h h1){b:Addr}{ob:Obj}(q:h.get? b=some ob)(n:H b=none)(hx:b∉ex):∃sl,h1.get? b=some { ob with slots:=sl }:=by
 by_cases hb:b∈fs
 ·exact u.slot b ob q n hb hx
 ·exact⟨ob.slots,u.keep b ob q n hb hx⟩
theorem Un.kept(k:∀b u,h.get? b=some u->h'.get? b=some u):Un fs ex H H h h':=
 ⟨λb ob q _ _ _=>k b ob q,λb ob q _ _ _=>⟨ob.slots,k b ob q⟩,λ_ _ _ n _=>n,λb ob q _=>⟨ob,k b ob q⟩,λ_ _ q=>q,λ_ _ _ q=>q,λ_ ps q=>⟨#[],by rw[q];simp⟩⟩
theorem Un.refl:Un fs ex H H h h:=Un.kept λ_ _ q=>q
theorem Un.laid(k:∀b u,h.get? b=some u->h'.get? b=some u)(hp:h.objs.size<=a)(hn:H a=none):Un fs ex H (dj H a o) h h' where
 keep:=λb u q _ _ _=>k b u q
 slot:=λb u q _ _ _=>⟨u.slots,k b u q⟩
 free:=λb u q n _=>by rw[aD (Nat.ne_of_lt (Nat.lt_of_lt_of_le (Heap.lt_size q) hp))];exact n
 there:=λb u q _=>⟨u,k b u q⟩
 tups:=λb xs q=>by rw[aD (bo q hn)];exact q
 frzs:=λb u xs q=>by rw[aD (bo q hn)];exact q
 tbls:=λb ps q=>⟨#[],by rw[aD (bo q hn),q];simp⟩
theorem Un.write(mu:Ij (H x))(he:e=x\/H e=some (.own x))(k:∀b u,b≠e->h.get? b=some u->h'.get? b=some u)(heo:∃u,h'.get? e=some u):Un fs ex H (dj H x o) h h':=by
 have hx:∀b,H b=none->b≠x:=λb n z=>by subst z;rw[n]at mu;exact mu
 have hb:∀b,H b=none->b≠e:=λb n z=>by
  subst z;rcases he with r|r
  ·exact hx b n r
  ·rw[n]at r;cases r
 have hm:∀b u,H b=some u->¬Ij (some u)->b≠x:=λb u q nm z=>by subst z;rw[q]at mu;exact nm mu
 refine⟨λb u q n _ _=>k b u (hb b n) q,λb u q n _ _=>⟨u.slots,k b u (hb b n) q⟩,λb u q n _=>by rw[aD (hx b n)];exact n,λb u q _=>?_,
  λb xs q=>by rw[aD (hm b _ q λz=>z)];exact q,λb u xs q=>by rw[aD (hm b _ q λz=>z)];exact q,λb ps q=>⟨#[],by rw[aD (hm b _ q λz=>z),q];simp⟩⟩
 by_cases hbe:b=e
 ·subst hbe;exact heo
 ·exact⟨u,k b u hbe q⟩
end
def Kr(h:Heap)(H:Hp):List Addr:=(List.range h.objs.size).filter λa=>(H a).isSome
def uK(h:Heap)(H:Hp):Heap:=PySem.W.hideAll h (Kr h H)
theorem AJ(h:Heap)(H:Hp):(uK h H).objs.size=h.objs.size:=PySem.W.hideAll_size _ _
theorem B7{h:Heap}{H:Hp}{b:Addr}{o:Obj}(e:h.get? b=some o)(n:H b=none):(uK h H).get? b=some o:=
 PySem.W.hideAll_get _ e λhm=>by
  have q:(H b).isSome=true:=(List.mem_filter.mp hm).2;rw[n]at q;simp at q
theorem E0{h:Heap}{H:Hp}{b:Addr}{o:Obj}(e:(uK h H).get? b=some o):h.get? b=some o/\H b=none:=by
 have e':h.get? b=some o:=PySem.W.of_hideAll (Kr h H) e;refine⟨e',?_⟩;cases q:H b with
 |none=>rfl
 |some x=>
  have hm:b∈Kr h H:=List.mem_filter.mpr ⟨List.mem_range.mpr (Heap.lt_size e'),by simp[q]⟩;have z:(uK h H).get? b=none:=PySem.W.hideAll_none (Kr h H) hm;rw[z]at e;cases e
def Ec(g h:Heap)(L:Addr):List (Addr×Obj):=(List.range h.objs.size).filterMap λa=>if a=L\/(g.get? a).isSome=true then none else(h.get? a).map λo=>(a,o)
def ge(g h:Heap)(L d:Addr):List (Addr×Obj):=(Ec g h L).filter λp=>decide (p.1≠d)
structure Mod(K:PySem.W.Frag)(mg:Str->Option Value)(base:Heap):Prop where
 kin:K.In base
 glob:base.Ns mainGlobals mg
 blt:∃mb,base.Ns builtinsNs mb/\∀x:Str,x ≠ "__name__" -> mb x=bootBuiltins x
 nolimit:base.NoLimit
structure Cx where
 prog:Program
 w:World
 K:PySem.W.Frag
 mg:Str->Option Value
 base:Heap
 A:Around
 N:List Str
 s₀:Shared
 H₀:Hp
 env:Env
 outer:List Env
 stack:List Env
 ex:List Addr
 fn:Str->Bool
 calm:Bool
 pn:List (Addr×Obj)
 xe:Value->Shared->Prop
def mO(l:List Env):List Addr:=l.filterMap (·.frame)
abbrev Cx.fs(X:Cx):List Addr:=mO X.outer
def Gu(sc:Scope)(x:Str):Prop:=sc.names.lookup x=some .local\/sc.names.lookup x=some .cell\/sc.names.lookup x=some .free
def FN(sc:Scope)(x:Str):Prop:=sc.names.lookup x=some .local\/sc.names.lookup x=some .cell
def Kx(env:Env)(h:Heap)(m:Str->Option Value)(x:Str)(u:Value):Prop:=
 (env.kindOf x=some .local/\m x=some u)\/((env.kindOf x=some .cell\/env.kindOf x=some .free)/\∃c,env.cells.lookup x=some c/\h.IsCell c (some u))
structure Cx.Ok(X:Cx):Prop where
 mod:Mod X.K X.mg X.base
 kind:X.env.scope.kind=.function
 glob:X.env.globals=mainGlobals
 blt:X.env.builtins=builtinsNs
 above:X.s₀.heap.objs.size<=X.env.locals
 inj:∀x y c,X.env.cells.lookup x=some c->X.env.cells.lookup y=some c->x=y
 has:∀x,(X.env.kindOf x=some .cell\/X.env.kindOf x=some .free)->∃c,X.env.cells.lookup x=some c
 cab:∀x c,X.fn x=true->X.env.cells.lookup x=some c->X.s₀.heap.objs.size<=c
 hd:X.calm=true->X.A.handled=none
 frames:X.A.frames=some X.stack
 stk:X.stack=X.outer\/(X.stack=X.env::X.outer/\X.env.frame=some X.env.locals)
 exf:∀b∈X.ex,b≠X.env.locals/\∀x c,X.env.cells.lookup x=some c->c≠b
 bs:∀b o,X.base.get? b=some o->X.s₀.heap.get? b=some o/\X.H₀ b=none
 bsz:X.base.objs.size<=X.s₀.heap.objs.size
 noex:∀b o,X.base.get? b=some o->b∉X.ex
 exfs:∀b∈X.ex,b∉X.fs
 funs:X.s₀.heap.FunFrames X.base X.outer
 frf:∀b∈X.fs,X.H₀ b=none
structure aT(X:Cx)(pins:List (Addr×Obj))(σ:List (Option V))(H:Hp)(s:Shared):Prop where
 ok:X.Ok
 os:s.os=X.s₀.os
 bare:AllBare s.gens
 base:Un X.fs X.ex X.H₀ H X.s₀.heap s.heap
 loc:∃m,s.heap.Ns X.env.locals m/\∀(i:Nat) (x:Str) (v:V),X.N[i]?=some x->σ[i]?=some (some v)->Gu X.env.scope x->∃u,cA v u/\Kx X.env s.heap m x u
 cell:∀x c,X.env.cells.lookup x=some c->∃v,s.heap.IsCell c v
 free:H X.env.locals=none
 freeC:∀x c,X.env.cells.lookup x=some c->H c=none
 pin:∀p∈X.pn++pins,s.heap.get? p.1=some p.2/\H p.1=none/\p.1≠X.env.locals/\p.1∉X.fs/\∀v,p.2.data≠.cell v
 hok:iZ X.prog X.w H s.heap
 len:σ.length=X.N.length
section
variable{X:Cx}{pins:List (Addr×Obj)}{σ:List (Option V)}{H H':Hp}{s:Shared}{h':Heap}
theorem Cx.Ok.nofr(ok:X.Ok){b:Addr}{o:Obj}(e:X.base.get? b=some o):b∉X.fs:=λhb=>by
 have:=(ok.funs.mem hb).1;rw[e]at this;cases this
theorem aT.bs(I:aT X pins σ H s):∀b o,X.base.get? b=some o->s.heap.get? b=some o/\H b=none:=λb o e=>
 ⟨I.base.keep b o (I.ok.bs b o e).1 (I.ok.bs b o e).2 (I.ok.nofr e) (I.ok.noex b o e),I.base.free b o (I.ok.bs b o e).1 (I.ok.bs b o e).2 (I.ok.noex b o e)⟩
theorem aT.bk(I:aT X pins σ H s):∀b o,X.base.get? b=some o->s.heap.get? b=some o:=λb o e=>(I.bs b o e).1
theorem aT.mod(I:aT X pins σ H s):Mod X.K X.mg X.base:=I.ok.mod
theorem aT.kIn(I:aT X pins σ H s):X.K.In s.heap:=I.ok.mod.kin.keeps I.bk
theorem aT.lt(I:aT X pins σ H s):X.env.locals<s.heap.objs.size:=let ⟨_,hn,_⟩:=I.loc;hn.lt
theorem aT.sz(I:aT X pins σ H s):X.s₀.heap.objs.size<=s.heap.objs.size:=Nat.le_trans I.ok.above (Nat.le_of_lt I.lt)
theorem aT.nofs(I:aT X pins σ H s){a:Addr}(h:s.heap.objs.size<=a):a∉X.fs:=λhb=>by
 obtain⟨_,o,ho,_⟩:=I.ok.funs.mem hb;exact absurd (Nat.lt_of_lt_of_le (Heap.lt_size ho) (Nat.le_trans I.sz h)) (Nat.lt_irrefl _)
theorem aT.cne(I:aT X pins σ H s):∀x c,X.env.cells.lookup x=some c->c≠X.env.locals:=λx c e z=>by
 obtain⟨v,o,ho,hd⟩:=I.cell x c e;obtain⟨m,⟨o',es,ep,ho',hd',_⟩,_⟩:=I.loc;rw[z,ho']at ho;cases ho;rw[hd']at hd;cases hd
theorem aT.funs(I:aT X pins σ H s):s.heap.FunFrames X.base X.outer:=by
 have all:∀(l:List Env),(∀b∈mO l,b∈X.fs)->X.s₀.heap.FunFrames X.base l->s.heap.FunFrames X.base l:=by
  intro l;induction l with
  |nil=>intro _ _;trivial
  |cons env r ih=>
   intro hs hl;obtain⟨hk,⟨L,o,hf,hn,ho,hd⟩,hr⟩:=hl;have hL:L∈X.fs:=hs L (by unfold mO;rw[List.filterMap_cons,hf];exact List.mem_cons_self);obtain⟨sl,e⟩:=I.base.slot L o ho (I.ok.frf L hL) hL λz=>I.ok.exfs L z hL
   exact⟨hk,⟨L,_,hf,hn,e,hd⟩,ih (λb hb=>hs b (by unfold mO;rw[List.filterMap_cons,hf];exact Qf _ hb)) hr⟩
 exact all X.outer (λ_ hb=>hb) I.ok.funs
theorem aT.stack(I:aT X pins σ H s):s.heap.FunFrames X.base X.stack:=by
 rcases I.ok.stk with e| ⟨e,hf⟩
 ·rw[e];exact I.funs
 ·rw[e];obtain⟨m,hn,_⟩:=I.loc;refine .cons (by rw[I.ok.kind];decide) hf hn ?_ I.funs;exact Heap.get?_none_of_le (Nat.le_trans I.ok.bsz I.ok.above)
theorem aT.stkSub(I:aT X pins σ H s):∀b∈mO X.stack,b∈X.env.locals::X.fs:=λb hb=>by
 rcases I.ok.stk with e| ⟨e,hf⟩
 ·rw[e]at hb;exact Qf _ hb
 ·rw[e]at hb;unfold mO at hb;rw[List.filterMap_cons,hf]at hb;exact hb
theorem aT.stkFree(I:aT X pins σ H s):∀b∈mO X.stack,H b=none:=λb hb=>by
 rcases List.mem_cons.mp (I.stkSub b hb)with e|hb
 ·rw[e];exact I.free
 ·obtain⟨_,o,ho,_⟩:=I.ok.funs.mem hb;exact I.base.free b o ho (I.ok.frf b hb) λz=>I.ok.exfs b z hb
theorem aT.step{g':Array GenState}{t':Nat}{d':Drawn}{ch:List Addr}(I:aT X pins σ H s)
  (hch:∀b∈ch,(b∈X.ex\/X.s₀.heap.objs.size<=b)/\b≠X.env.locals/\(∀x c,X.env.cells.lookup x=some c->c≠b)/\∀p∈X.pn++pins,p.1≠b)
  (keep:∀b o,b≠X.env.locals->b∉X.fs->b∉ch->s.heap.get? b=some o->H b=none->h'.get? b=some o)
  (slot:∀b o,b≠X.env.locals->b∈X.fs->b∉ch->s.heap.get? b=some o->H b=none->∃sl,h'.get? b=some { o with slots:=sl }) (free:∀b o,b∉ch->s.heap.get? b=some o->H b=none->H' b=none)
  (there:∀b o,b∉ch->s.heap.get? b=some o->∃o',h'.get? b=some o')
  (tups:∀b xs,H b=some (.tup xs)->H' b=some (.tup xs)) (frzs:∀b o u,H b=some (.frz o u)->H' b=some (.frz o u)) (tbls:∀b ps,H b=some (.tbl ps)->∃more,H' b=some (.tbl (ps++more)))
  (ns:∀m,s.heap.Ns X.env.locals m->h'.Ns X.env.locals m) (hok:iZ X.prog X.w H' h') (hg:AllBare g') :
  aT X pins σ H' { s with heap:=h',gens:=g',drawn:=d',toks:=t' }:=by
 have neL:∀b o,X.s₀.heap.get? b=some o->b≠X.env.locals:=λb o e=>Nat.ne_of_lt (Nat.lt_of_lt_of_le (Heap.lt_size e) I.ok.above)
 have neC:∀b o,X.s₀.heap.get? b=some o->b∉X.ex->b∉ch:=λb o e hx hb=>by
  rcases(hch b hb).1 with z|z
  ·exact hx z
  ·exact absurd (Nat.lt_of_lt_of_le (Heap.lt_size e) z) (Nat.lt_irrefl _)
 have cellK:∀x c,X.env.cells.lookup x=some c->∀v,s.heap.IsCell c v->h'.IsCell c v:=λx c e v ⟨o,ho,hd⟩=>by
  have nch:c∉ch:=λz=>(hch c z).2.2.1 x c e rfl
  by_cases hc:c∈X.fs
  ·obtain⟨sl,q⟩:=slot c o (I.cne x c e) hc nch ho (I.freeC x c e);exact⟨_,q,hd⟩
  ·exact⟨o,keep c o (I.cne x c e) hc nch ho (I.freeC x c e),hd⟩
 refine⟨I.ok,I.os,hg,⟨λb o e n hb hx=>?_,λb o e n hb hx=>?_,λb o e n hx=>?_,λb o e hx=>?_,λb xs e=>tups b xs (I.base.tups b xs e),λb o xs e=>frzs b o xs (I.base.frzs b o xs e),λb ps e=>?_⟩,?_,λx c e=>?_,?_,λx c e=>?_,λp hp=>?_,hok,I.len⟩
 ·exact keep b o (neL b o e) hb (neC b o e hx) (I.base.keep b o e n hb hx) (I.base.free b o e n hx)
 ·obtain⟨sl,e1⟩:=I.base.slot b o e n hb hx;obtain⟨sl',e2⟩:=slot b _ (neL b o e) hb (neC b o e hx) e1 (I.base.free b o e n hx);exact⟨sl',e2⟩
 ·obtain⟨o',e1⟩:=I.base.there b o e hx;exact free b o' (neC b o e hx) e1 (I.base.free b o e n hx)
 ·obtain⟨o',e1⟩:=I.base.there b o e hx;exact there b o' (neC b o e hx) e1
 ·obtain⟨m1,e1⟩:=I.base.tbls b ps e;obtain⟨m2,e2⟩:=tbls b _ e1;exact⟨m1++m2,by rw[e2,Array.append_assoc]⟩
 ·obtain⟨m,hn,hl⟩:=I.loc;refine⟨m,ns m hn,λi x v e1 e2 e3=>?_⟩;obtain⟨u,r,l⟩:=hl i x v e1 e2 e3;refine⟨u,r,?_⟩;rcases l with l| ⟨k,c,e,z⟩
  ·exact .inl l
  ·exact .inr ⟨k,c,e,cellK x c e _ z⟩
 ·obtain⟨v,z⟩:=I.cell x c e;exact⟨v,cellK x c e v z⟩
 ·obtain⟨m,⟨o,_,_,ho,_⟩,_⟩:=I.loc;exact free _ o (λz=>(hch _ z).2.1 rfl) ho I.free
 ·obtain⟨v,o,ho,hd⟩:=I.cell x c e;exact free c o (λz=>(hch c z).2.2.1 x c e rfl) ho (I.freeC x c e)
 ·obtain⟨e,n,ne,nf,d⟩:=I.pin p hp;have nch:p.1∉ch:=λz=>(hch p.1 z).2.2.2 p hp rfl
  exact⟨keep p.1 p.2 ne nf nch e n,free p.1 p.2 nch e n,ne,nf,d⟩
theorem aT.un{t':Nat}(I:aT X pins σ H s)(u:Un X.fs [] H H' s.heap h')(hok:iZ X.prog X.w H' h'):aT X pins σ H' { s with heap:=h',toks:=t' }:=by
 obtain⟨m,⟨o,es,ep,ho,r⟩,_⟩:=id I.loc;obtain⟨sl,hL⟩:=u.any ho I.free (by simp);exact I.step (g':=s.gens) (d':=s.drawn) (ch:=[]) (λ_ z=>nomatch z) (λb o _ hb _ e n=>u.keep b o e n hb (by simp)) (λb o _ hb _ e n=>u.slot b o e n hb (by simp)) (λb o _ e n=>u.free b o e n (by simp)) (λb o _ e=>u.there b o e (by simp)) u.tups u.frzs u.tbls (λm' hm=>by
  obtain⟨o',es',ep',ho',r'⟩:=hm;rw[ho]at ho';cases ho';exact⟨_,es',ep',hL,r'⟩) hok I.bare
theorem aT.call{g':Array GenState}{t':Nat}{d':Drawn}{ch:List Addr}(I:aT X pins σ H s)(u:Un (mO X.stack) ch H H' s.heap h')(hok:iZ X.prog X.w H' h')(hg:AllBare g')
  (hch:∀b∈ch,(b∈X.ex\/X.s₀.heap.objs.size<=b)/\b≠X.env.locals/\(∀x c,X.env.cells.lookup x=some c->c≠b)/\∀p∈X.pn++pins,p.1≠b) :
  aT X pins σ H' { s with heap:=h',gens:=g',drawn:=d',toks:=t' }:=by
 obtain⟨m,⟨o,es,ep,ho,r⟩,_⟩:=id I.loc;obtain⟨sl,hL⟩:=u.any ho I.free λz=>(hch _ z).2.1 rfl
 exact I.step (ch:=ch) hch (λb o hL hb hc e n=>u.keep b o e n (λz=>(List.mem_cons.mp (I.stkSub b z)).elim hL hb) hc) (λb o _ _ hc e n=>u.any e n hc) (λb o hc e n=>u.free b o e n hc) (λb o hc e=>u.there b o e hc) u.tups u.frzs u.tbls (λm' hm=>by
  obtain⟨o',es',ep',ho',r'⟩:=hm;rw[ho]at ho';cases ho';exact⟨_,es',ep',hL,r'⟩) hok hg
theorem aT.turned{t':Nat}{it:Addr}(I:aT X pins σ H s)(k:∀b o,b≠it->s.heap.get? b=some o->h'.get? b=some o)(hn:H it=none)(hL:it≠X.env.locals)
  (h1:it∈X.ex\/X.s₀.heap.objs.size<=it) (h2:∀x c,X.env.cells.lookup x=some c->c≠it) (h3:∀p∈X.pn++pins,p.1≠it):aT X pins σ H { s with heap:=h',toks:=t' }:=by
 have nit:∀b u,H b=some u->b≠it:=λb u e z=>by rw[z,hn]at e;cases e
 refine I.step (g':=s.gens) (d':=s.drawn) (ch:=[it]) (λb hb=>?_) (λb o _ _ hc e _=>k b o (λz=>hc (by simp[z])) e) (λb o _ _ hc e _=>⟨o.slots,k b o (λz=>hc (by simp[z])) e⟩) (λ_ _ _ _ n=>n)
  (λb o hc e=>⟨o,k b o (λz=>hc (by simp[z])) e⟩) (λ_ _ e=>e) (λ_ _ _ e=>e) (λb ps e=>⟨#[],by rw[e];simp⟩) (λm hm=>?_) (λb u e=>?_) I.bare
 ·have e:b=it:=by simpa using hb
  subst e;exact⟨h1,hL,h2,h3⟩
 ·obtain⟨o,es,ep,ho,r⟩:=hm;exact⟨o,es,ep,k _ o (Ne.symm hL) ho,r⟩
 ·refine(I.hok b u e).stay (λc v hc q=>k c v ?_ q) (λ_ q=>q) λ_ _ q=>q
  rcases hc with z|z
  ·rw[z];exact nit b u e
  ·exact nit c _ z
theorem aT.tok(I:aT X pins σ H s)(t:Nat):aT X pins σ H { s with toks:=t }:=I.un (h':=s.heap) (t':=t) Un.refl I.hok
theorem aT.kept{t':Nat}(I:aT X pins σ H s)(k:∀b u,s.heap.get? b=some u->h'.get? b=some u):aT X pins σ H { s with heap:=h',toks:=t' }:=I.un (Un.kept k) (I.hok.kept k)
theorem aT.laid{a:Addr}{o:HO}{t':Nat}(I:aT X pins σ H s)(k:∀b u,s.heap.get? b=some u->h'.get? b=some u)(hp:s.heap.objs.size<=a)(new:cD X.prog X.w (dj H a o) h' a o) :
  aT X pins σ (dj H a o) { s with heap:=h',toks:=t' }:=I.un (Un.laid k hp (I.hok.fresh hp)) (I.hok.laid k hp new)
theorem aT.write{x e:Addr}{o:HO}{t':Nat}(I:aT X pins σ H s)(mu:Ij (H x))(he:e=x\/H e=some (.own x))(k:∀b u,b≠e->s.heap.get? b=some u->h'.get? b=some u)(heo:∃u,h'.get? e=some u)
  (new:cD X.prog X.w (dj H x o) h' x o):aT X pins σ (dj H x o) { s with heap:=h',toks:=t' }:=I.un (Un.write mu he k heo) (I.hok.write mu he k heo new)
theorem aT.pins_of{pins':List (Addr×Obj)}(I:aT X pins σ H s)(h:∀p∈pins',s.heap.get? p.1=some p.2/\H p.1=none/\p.1≠X.env.locals/\p.1∉X.fs/\∀v,p.2.data≠.cell v):aT X pins' σ H s:=
 ⟨I.ok,I.os,I.bare,I.base,I.loc,I.cell,I.free,I.freeC,λp hp=>(List.mem_append.mp hp).elim (λz=>I.pin p (List.mem_append_left _ z)) (h p),I.hok,I.len⟩
theorem rq{N:List Str}(hN:N.Nodup){i j:Nat}{x:Str}(a:N[i]?=some x)(b:N[j]?=some x):i=j:=by
 obtain⟨h1,e1⟩:=List.getElem?_eq_some_iff.mp a;obtain⟨h2,e2⟩:=List.getElem?_eq_some_iff.mp b;exact(List.getElem_inj hN).mp (e1.trans e2.symm)
theorem tJ{M:Model}{A:Around}{E:Value->Shared->Prop}{i:Nat}{x:Str}{v:V}{u:Value}{Q:Unit->Shared->Prop}(I:aT X pins σ H s)(hN:X.N.Nodup)(hi:X.N[i]?=some x)(hx:FN X.env.scope x)(r:cA v u)
  (h:∀s',aT X pins (σ.set i (some v)) H s'->(∃a,Heap.SameBut a s.heap s'.heap/\(a=X.env.locals\/X.env.cells.lookup x=some a))->Q () s') (hf:X.fn x=true\/X.env.scope.names.lookup x=some .local:=by first|exact .inl rfl|exact .inr rfl|assumption):wpAny M A (storeName X.env x u) Q E s:=by
 obtain⟨m,hn,hl⟩:=id I.loc;have hcls:(X.env.scope.kind==.class||(X.env.scope.kind==.module&&X.env.locals != X.env.globals))=false:=by rw[I.ok.kind];rfl
 have hiσ:i<σ.length:=by rw[I.len];exact(List.getElem?_eq_some_iff.mp hi).1
 have cne:=I.cne;have tracked:∀{a:Addr} {h':Heap},(∃o,s.heap.get? a=some o/\H a=none)->Heap.SameBut a s.heap h'->iZ X.prog X.w H h':=λ{a h'} ha hs b ob e=>by
  obtain⟨_,_,hfree⟩:=ha;refine(I.hok b ob e).stay (λc w' hc q=>(hs.2 c ?_).trans q) (λ_ q=>q) λ_ _ q=>q
  rintro rfl;rcases hc with rfl|hc
  ·rw[hfree]at e;cases e
  ·rw[hfree]at hc;cases hc
 rcases hx with hk|hk
 ·refine wpAny_storeName_local hk hn (λh' hn' hs=>?_) hcls;obtain⟨oL,_,_,hoL,_⟩:=id hn;refine h _ ⟨I.ok,I.os,I.bare,⟨λb o e n hb hx=>?_,λb o e n hb hx=>?_,I.base.free,λb o e hx=>?_,I.base.tups,I.base.frzs,I.base.tbls⟩,⟨_,hn',λj y v' e1 e2 e3=>?_⟩,λy c e=>?_,I.free,I.freeC,λp hp=>?_,tracked ⟨oL,hoL,I.free⟩ hs,by simpa using I.len⟩ ⟨_,hs,.inl rfl⟩
  ·exact(hs.2 b (Nat.ne_of_lt (Nat.lt_of_lt_of_le (Heap.lt_size e) I.ok.above))).trans (I.base.keep b o e n hb hx)
  ·obtain⟨sl,e1⟩:=I.base.slot b o e n hb hx;exact⟨sl,(hs.2 b (Nat.ne_of_lt (Nat.lt_of_lt_of_le (Heap.lt_size e) I.ok.above))).trans e1⟩
  ·obtain⟨o',e1⟩:=I.base.there b o e hx;exact⟨o',(hs.2 b (Nat.ne_of_lt (Nat.lt_of_lt_of_le (Heap.lt_size e) I.ok.above))).trans e1⟩
  ·by_cases hj:j=i
   ·subst hj;rw[hi]at e1;cases e1;rw[List.getElem?_set_self hiσ]at e2;cases e2;exact⟨u,r,.inl ⟨hk,by simp⟩⟩
   ·rw[List.getElem?_set_ne (Ne.symm hj)]at e2;obtain⟨u',r',q⟩:=hl j y v' e1 e2 e3;refine⟨u',r',?_⟩;rcases q with⟨k,e⟩| ⟨k,c,e,z⟩
    ·refine .inl ⟨k,?_⟩;have:y≠x:=λe=>hj (rq hN e1 (e▸hi))
     simp[this,e]
    ·exact .inr ⟨k,c,e,z.sameBut hs (cne y c e)⟩
  ·obtain⟨w',z⟩:=I.cell y c e;exact⟨w',z.sameBut hs (cne y c e)⟩
  ·obtain⟨e,n,ne,nf,d⟩:=I.pin p hp;exact⟨(hs.2 p.1 ne).trans e,n,ne,nf,d⟩
 ·have hfn:X.fn x=true:=by
   rcases hf with z|z
   ·exact z
   ·rw[z]at hk;cases hk
  obtain⟨c,hc⟩:=I.ok.has x (.inl hk);obtain⟨w',z⟩:=I.cell x c hc;refine wpAny_storeName_cell I.ok.kind hk hc z (λh' hc' hs=>?_);obtain⟨oc,hoc,hocd⟩:=id z;refine h { s with heap:=h' } ⟨I.ok,I.os,I.bare,⟨λb o e n hb hx=>?_,λb o e n hb hx=>?_,I.base.free,λb o e hx=>?_,I.base.tups,I.base.frzs,I.base.tbls⟩,⟨m,hn.sameBut hs (Ne.symm (cne x c hc)),λj y v' e1 e2 e3=>?_⟩,λy c' e=>?_,I.free,I.freeC,λp hp=>?_,tracked ⟨oc,hoc,I.freeC x c hc⟩ hs,by simpa using I.len⟩ ⟨c,hs,.inr hc⟩
  ·exact(hs.2 b (Nat.ne_of_lt (Nat.lt_of_lt_of_le (Heap.lt_size e) (I.ok.cab x c hfn hc)))).trans (I.base.keep b o e n hb hx)
  ·obtain⟨sl,e1⟩:=I.base.slot b o e n hb hx;exact⟨sl,(hs.2 b (Nat.ne_of_lt (Nat.lt_of_lt_of_le (Heap.lt_size e) (I.ok.cab x c hfn hc)))).trans e1⟩
  ·obtain⟨o',e1⟩:=I.base.there b o e hx;exact⟨o',(hs.2 b (Nat.ne_of_lt (Nat.lt_of_lt_of_le (Heap.lt_size e) (I.ok.cab x c hfn hc)))).trans e1⟩
  ·by_cases hj:j=i
   ·subst hj;rw[hi]at e1;cases e1;rw[List.getElem?_set_self hiσ]at e2;cases e2;exact⟨u,r,.inr ⟨.inl hk,c,hc,hc'⟩⟩
   ·rw[List.getElem?_set_ne (Ne.symm hj)]at e2;obtain⟨u',r',q⟩:=hl j y v' e1 e2 e3;refine⟨u',r',?_⟩;rcases q with q| ⟨k,c',e,z'⟩
    ·exact .inl q
    ·refine .inr ⟨k,c',e,z'.sameBut hs ?_⟩;rintro rfl;exact hj (rq hN e1 (I.ok.inj _ _ _ e hc▸hi))
  ·by_cases hcc:c'=c
   ·subst hcc;exact⟨_,hc'⟩
   ·obtain⟨w2,z2⟩:=I.cell y c' e;exact⟨w2,z2.sameBut hs hcc⟩
  ·obtain⟨e,n,ne,nf,d⟩:=I.pin p hp;refine⟨(hs.2 p.1 ?_).trans e,n,ne,nf,d⟩;intro q;rw[q,hoc]at e;have q':oc=p.2:=Option.some.inj e;exact d w' (by rw[<-q'];exact hocd)
theorem lu{M:Model}{A:Around}{E:Value->Shared->Prop}{i:Nat}{x:Str}{v:V}{u:Value}{Q:Unit->Shared->Prop}(I:aT X pins σ H s)(hN:X.N.Nodup)(hi:X.N[i]?=some x)(hx:FN X.env.scope x)(r:cA v u)
  (h:∀s',aT X pins (σ.set i (some v)) H s'->Q () s') (hf:X.fn x=true\/X.env.scope.names.lookup x=some .local:=by first|exact .inl rfl|exact .inr rfl|assumption):wpAny M A (storeName X.env x u) Q E s:=
 tJ I hN hi hx r (λs' I' _=>h s' I') hf
theorem aT.call'{s':Shared}{ch:List Addr}(I:aT X pins σ H s)(ho:s'.os=s.os)(u:Un (mO X.stack) ch H H' s.heap s'.heap)(hok:iZ X.prog X.w H' s'.heap)(hg:AllBare s'.gens)
  (hch:∀b∈ch,(b∈X.ex\/X.s₀.heap.objs.size<=b)/\b≠X.env.locals/\(∀x c,X.env.cells.lookup x=some c->c≠b)/\∀p∈X.pn++pins,p.1≠b):aT X pins σ H' s':=by
 obtain⟨h',g',d',t',o'⟩:=s';have e:o'=s.os:=ho;subst e;exact I.call (g':=g') (t':=t') (d':=d') u hok hg hch
end
abbrev XK:=Value->Option Addr->Hp->Prop
abbrev St:=List (Option V)
abbrev VK:=V->Hp->Prop
abbrev TE:=St->Hp->VK->Prop
abbrev TT:=St->Hp->(Bool->Hp->Prop)->Prop
abbrev TA:=St->Hp->(List V->Hp->Prop)->Prop
structure r8 where
 nx:St->Hp->Prop
 rt:VK
 bk:St->Hp->Prop:=λ_ _=>False
 ct:St->Hp->Prop:=λ_ _=>False
abbrev TS:=r8->St->Hp->Prop
inductive EP(X:Cx)(pins:List (Addr×Obj))(σ:St)(Q:VK)(u:Value)(s':Shared):Prop
 |mk (v:V) (H':Hp) (I:aT X pins σ H' s') (r:cA v u) (q:Q v H')
inductive TP(X:Cx)(pins:List (Addr×Obj))(σ:St)(Q:Bool->Hp->Prop)(b:Bool)(s':Shared):Prop
 |mk (H':Hp) (I:aT X pins σ H' s') (q:Q b H')
inductive AP(X:Cx)(pins:List (Addr×Obj))(σ:St)(Q:List V->Hp->Prop)(us:List Value)(s':Shared):Prop
 |mk (vs:List V) (H':Hp) (I:aT X pins σ H' s') (r:bO vs us) (q:Q vs H')
inductive NX(X:Cx)(pins:List (Addr×Obj))(s':Shared)(P:St->Hp->Prop):Prop
 |mk (σ':St) (H':Hp) (I:aT X pins σ' H' s') (q:P σ' H')
inductive RX(X:Cx)(pins:List (Addr×Obj))(s':Shared)(u:Value)(P:V->Hp->Prop):Prop
 |mk (v:V) (σ':St) (H':Hp) (I:aT X pins σ' H' s') (r:cA v u) (q:P v H')
def SP(X:Cx)(pins:List (Addr×Obj))(D:r8)(f:Flow)(s':Shared):Prop:=
 match f with
 |.next=>NX X pins s' D.nx
 |.brk=>NX X pins s' D.bk
 |.cont=>NX X pins s' D.ct
 |.ret u=>RX X pins s' u D.rt
def PE(X:Cx)(e:Expr)(t:TE):Prop:=
 ∀(pins:List (Addr×Obj)) (s:Shared) (σ:St) (H:Hp) (Q:VK),aT X pins σ H s->t σ H Q->wpAny (model X.prog X.w) X.A (eval e X.env) (EP X pins σ Q) X.xe s
def PT(X:Cx)(e:Expr)(t:TT):Prop:=
 ∀(pins:List (Addr×Obj)) (s:Shared) (σ:St) (H:Hp) (Q:Bool->Hp->Prop),aT X pins σ H s->t σ H Q->wpAny (model X.prog X.w) X.A (isTrue e X.env (eval e X.env)) (TP X pins σ Q) X.xe s
def PW(X:Cx)(e:Expr)(t:TT):Prop:=
 ∀(whole:Sem Value) (pins:List (Addr×Obj)) (s:Shared) (σ:St) (H:Hp) (Q:Bool->Hp->Prop),aT X pins σ H s->t σ H Q->wpAny (model X.prog X.w) X.A (isTrue e X.env whole) (TP X pins σ Q) X.xe s
theorem PW.pt{X:Cx}{e:Expr}{t:TT}(h:PW X e t):PT X e t:=h _
def PA(X:Cx)(es:List Expr)(t:TA):Prop:=
 ∀(pos:Pos) (pins:List (Addr×Obj)) (s:Shared) (σ:St) (H:Hp) (Q:List V->Hp->Prop),aT X pins σ H s->t σ H Q->wpAny (model X.prog X.w) X.A (spliced (backTo pos (starEach es X.env))) (AP X pins σ Q) X.xe s
def PS(X:Cx)(st:Stmt)(t:TS):Prop:=
 ∀(pins:List (Addr×Obj)) (s:Shared) (σ:St) (H:Hp) (D:r8),aT X pins σ H s->t D σ H->wpAny (model X.prog X.w) X.A (exec st X.env) (SP X pins D) X.xe s
def rT(X:Cx)(st:List Stmt)(t:TS):Prop:=
 ∀(pins:List (Addr×Obj)) (s:Shared) (σ:St) (H:Hp) (D:r8),aT X pins σ H s->t D σ H->wpAny (model X.prog X.w) X.A (execs st X.env) (SP X pins D) X.xe s
theorem eR{α:Type}{t:Sem α}{Q Q':α->Shared->Prop}{M:Model}{A:Around}{E:Value->Shared->Prop}{s:Shared}(h:wpAny M A t Q E s)(hQ:∀a s,Q a s->Q' a s):wpAny M A t Q' E s:=wpAny_mono h hQ λ_ _ x=>x
section
variable{X:Cx}
theorem LZ{a b:Expr}{ta tb:TE}(ha:PE X a ta)(hb:PE X b tb){pins:List (Addr×Obj)}{s:Shared}{σ:St}{H:Hp}{R:V->V->Hp->Prop}(I:aT X pins σ H s)(h:ta σ H λx H1=>tb σ H1 λy H2=>R x y H2)
  {α:Type} {Q:α->Shared->Prop} {f:Value->Value->Sem α}
  (hf:∀v u s2 x y H2,aT X pins σ H2 s2->cA x v->cA y u->R x y H2->wpAny (model X.prog X.w) X.A (f v u) Q X.xe s2) :
  wpAny (model X.prog X.w) X.A (eval a X.env) (λv s₁=>wpAny (model X.prog X.w) X.A (eval b X.env) (λu s₂=>wpAny (model X.prog X.w) X.A (f v u) Q X.xe s₂) X.xe s₁) X.xe s:=by
 refine eR (ha pins s σ H _ I h) λv s1 zq0=>?_
 obtain⟨x,H1,I1,r1,q1⟩:=zq0;refine eR (hb pins s1 σ H1 _ I1 q1) λu s2 zq0=>?_
 obtain⟨y,H2,I2,r2,q2⟩:=zq0;exact hf v u s2 x y H2 I2 r1 r2 q2
def HX(i:Nat):TE:=λσ H Q=>∃v,σ[i]?=some (some v)/\Q v H
def tC(v:V):TE:=λ_ H Q=>Q v H
theorem jg{i:Nat}{x:Str}{pos:Pos}(hN:X.N[i]?=some x)(hv:Gu X.env.scope x)(hd:(x==("__debug__" : Str))=false:=by decide)(hcd:(x==("__classdict__" : Str))=false:=by decide):PE X (.Name x pos) (HX i):=by
 intro pins s σ H Q I h;obtain⟨v,e,h⟩:=h;obtain⟨m,hn,hl⟩:=I.loc;obtain⟨u,r,l⟩:=hl i x v hN e hv;have fin:EP X pins σ Q u s:=⟨v,H,I,r,h⟩
 rcases l with⟨hk,hm⟩| ⟨hk,c,hc,hcell⟩
 ·exact wpAny_Name (wpAny_loadName_local I.ok.kind hk hn hm fin) hd
 ·rcases hk with hk|hk
  ·exact wpAny_Name (wpAny_loadName_cell I.ok.kind hk hc hcell fin) hd
  ·exact wpAny_Name (wpAny_loadName_free I.ok.kind hk hc hcell fin hcd) hd
theorem Hl{i j pos}:PE X (.Constant (.int i) j pos) (tC (.int i)):=λ_ _ _ H _ I h=>wpAny_Constant_int ⟨.int i,H,I.tok _,⟨_,rfl⟩,h⟩
theorem Jj{b j pos}:PE X (.Constant (.bool b) j pos) (tC (.bl b)):=λ_ _ _ H _ I h=>Constant_bool ⟨.bl b,H,I,rfl,h⟩
theorem Ho{j pos}:PE X (.Constant .none j pos) (tC .non):=λ_ _ _ H _ I h=>Constant_none ⟨.non,H,I,rfl,h⟩
theorem Ht{x j pos}:PE X (.Constant (.str x) j pos) (tC (.str x)):=λ_ _ _ H _ I h=>Calls.Constant_str ⟨.str x,H,I.tok _,⟨_,rfl⟩,h⟩
def Gl(X:Cx)(x:Str):Prop:=X.env.kindOf x=some .globalImplicit
theorem nE{E:Value->Shared->Prop}{pins:List (Addr×Obj)}{s:Shared}{σ:St}{H:Hp}{x:Str}{u:Value}{pos:Pos}{Q:Value->Shared->Prop}(I:aT X pins σ H s)(hg:Gl X x)(hm:X.mg x=some u)(h:Q u s)
  (hd:(x==("__debug__" : Str))=false:=by decide):wpAny (model X.prog X.w) X.A (eval (.Name x pos) X.env) Q E s:=
 Calls.Name_function_global I.ok.kind hg (Calls.loadGlobal_global (by rw[I.ok.glob];exact I.mod.glob.keeps I.bk) hm h) hd
theorem j8{E:Value->Shared->Prop}{pins:List (Addr×Obj)}{s:Shared}{σ:St}{H:Hp}{x:Str}{u:Value}{pos:Pos}{Q:Value->Shared->Prop}(I:aT X pins σ H s)(hg:Gl X x)(hm:X.mg x=none)(hv:bootBuiltins x=some u)(h:Q u s)
  (hn:x ≠ "__name__" := by decide) (hd:(x==("__debug__" : Str))=false:=by decide):wpAny (model X.prog X.w) X.A (eval (.Name x pos) X.env) Q E s:=by
 obtain⟨mb,h1,h2⟩:=I.mod.blt;exact Calls.Name_function_global I.ok.kind hg (Calls.loadGlobal_builtin (by rw[I.ok.glob];exact I.mod.glob.keeps I.bk) hm (by rw[I.ok.blt];exact h1.keeps I.bk) ((h2 x hn).trans hv) h) hd
theorem zI{x:Str}{v:V}{u:Value}{pos:Pos}(hg:Gl X x)(hm:X.mg x=some u)(r:cA v u)(hd:(x==("__debug__" : Str))=false:=by decide):PE X (.Name x pos) (tC v):=
 λ_ _ _ H _ I h=>nE I hg hm ⟨v,H,I,r,h⟩ hd
theorem E6{x:Str}{v:V}{u:Value}{pos:Pos}(hg:Gl X x)(hm:X.mg x=none)(hv:bootBuiltins x=some u)(r:cA v u)(hn:x ≠ "__name__" := by decide)(hd:(x==("__debug__" : Str))=false:=by decide):PE X (.Name x pos) (tC v):=
 λ_ _ _ H _ I h=>j8 I hg hm hv ⟨v,H,I,r,h⟩ hn hd
variable{a b:Expr}{ta tb:TE}{pos:Pos}
def PC(X:Cx)(op:CmpOp)(a b:Expr)(t:TE):Prop:=
 ∀(pins:List (Addr×Obj)) (s:Shared) (σ:St) (H:Hp) (Q:VK),aT X pins σ H s->t σ H Q ->
  wpAny (model X.prog X.w) X.A (eval a X.env) (λv s₁=>wpAny (model X.prog X.w) X.A (eval b X.env) (λu s₂=>wpAny (model X.prog X.w) X.A (compareOp op v u) (EP X pins σ Q) X.xe s₂) X.xe s₁) X.xe s
theorem Cu(b:Expr){op:CmpOp}(h:op≠.In)(h2:op≠.NotIn):behindInMarks op b=false:=by
 have e1:(op==CmpOp.In)=false:=by cases op<;>first|rfl|exact absurd rfl h
 have e2:(op==CmpOp.NotIn)=false:=by cases op<;>first|rfl|exact absurd rfl h2
 cases b<;>simp[behindInMarks,e1,e2]
def tB(t:TE):TT:=λσ H Q=>t σ H λx H1=>∃c,x=.bl c/\Q c H1
theorem K4{op:CmpOp}{t:TE}(h:PC X op a b t)(h1:behindInMarks op b=false:=by first|exact Cu _ (by decide) (by decide)|rfl):PT X (.Compare a [op] [b] pos) (tB t):=by
 intro pins s σ H Q I hw;refine wpAny_isTrue_Compare1 (eR (h pins s σ H _ I hw) λv s1 h1=>eR h1 λu s2 h2=>eR h2 λc s3 zq0=>?_) h1;obtain⟨x,H1,I1,r1,q1⟩:=zq0;obtain⟨d,rfl,q⟩:=q1;cases r1;exact wpAny_truthy_bool ⟨H1,I1,q⟩
theorem HB{e:Expr}{t:TE}(h:PE X e t)(he:∀whole,isTrue e X.env whole=(do let v <-whole;standAt e.pos;holding [v] (truthy v)):=by intro _;rfl):PT X e (tB t):=by
 intro pins s σ H Q I hw;refine isTrue_plain (eR (h pins s σ H _ I hw) λv s1 zq0=>?_) (he _);obtain⟨x,H1,I1,r1,q1⟩:=zq0;obtain⟨d,rfl,q⟩:=q1;cases r1;exact wpAny_truthy_bool ⟨H1,I1,q⟩
variable{tA tB':TT}{ge:List Expr}
def Le(t u:TT):TT:=λσ H Q=>t σ H λc H1=>if c=true then u σ H1 Q else Q false H1
def LX(t u:TT):TT:=λσ H Q=>t σ H λc H1=>if c=true then Q true H1 else u σ H1 Q
def Lm(t:TT):TT:=λσ H Q=>t σ H λc H1=>Q (!c) H1
theorem pw_and1(ha:PT X a tA):PW X (.BoolOp .And [a] pos) tA:=by
 intro wh pins s σ H Q I h;refine isTrue_and (eR (ha pins s σ H Q I h) λc s1 e=>?_);cases c with
 |true=>exact isTrue_and_nil e
 |false=>exact e
theorem pw_or1(ha:PT X a tA):PW X (.BoolOp .Or [a] pos) tA:=by
 intro wh pins s σ H Q I h;refine isTrue_or (eR (ha pins s σ H Q I h) λc s1 e=>?_);cases c with
 |false=>exact isTrue_or_nil e
 |true=>exact e
theorem pw_and(ha:PT X a tA)(hb:PW X (.BoolOp .And (b::ge) pos) tB'):PW X (.BoolOp .And (a::b::ge) pos) (Le tA tB'):=by
 intro wh pins s σ H Q I h;refine isTrue_and (eR (ha pins s σ H _ I h) λc s1 zq0=>?_);obtain⟨H1,I1,q1⟩:=zq0;cases c with
 |true=>exact hb wh pins s1 σ H1 Q I1 q1
 |false=>exact⟨H1,I1,q1⟩
theorem pw_or(ha:PT X a tA)(hb:PW X (.BoolOp .Or (b::ge) pos) tB'):PW X (.BoolOp .Or (a::b::ge) pos) (LX tA tB'):=by
 intro wh pins s σ H Q I h;refine isTrue_or (eR (ha pins s σ H _ I h) λc s1 zq0=>?_);obtain⟨H1,I1,q1⟩:=zq0;cases c with
 |true=>exact⟨H1,I1,q1⟩
 |false=>exact hb wh pins s1 σ H1 Q I1 q1
theorem HA(ha:PT X a tA):PT X (.UnaryOp .Not a pos) (Lm tA):=by
 intro pins s σ H Q I h;refine isTrue_not (eR (ha pins s σ H (λc H1=>Q (!c) H1) I h) λc s1 z=>?_);obtain⟨H1,I1,q1⟩:=z;exact⟨H1,I1,q1⟩
def JI(ta tb:TE):TE:=λσ H Q=>ta σ H λx H1=>∃c,x=.bl c/\if c=true then tb σ H1 Q else Q (.bl false) H1
def JQ(ta:TE):TE:=λσ H Q=>ta σ H λx H1=>∃c,x=.bl c/\Q (.bl (!c)) H1
theorem Hr{op}{t:TE}(h:PE X a t):PE X (.BoolOp op [a] pos) t:=λpins s σ H Q I hw=>BoolOp_one (h pins s σ H Q I hw)
theorem Hj(ha:PE X a ta)(hb:PE X (.BoolOp .And (b::ge) pos) tb):PE X (.BoolOp .And (a::b::ge) pos) (JI ta tb):=by
 intro pins s σ H Q I h;refine BoolOp_and (eR (ha pins s σ H _ I h) λv s1 zq0=>?_);obtain⟨x,H1,I1,r1,q1⟩:=zq0;obtain⟨c,rfl,q1⟩:=q1;cases r1;refine wpAny_truthy_bool ?_;cases c with
 |true=>exact hb pins s1 σ H1 Q I1 q1
 |false=>exact⟨.bl false,H1,I1,rfl,q1⟩
theorem Hq(ha:PE X a ta):PE X (.UnaryOp .Not a pos) (JQ ta):=by
 intro pins s σ H Q I h;refine UnaryOp_ (eR (ha pins s σ H _ I h) λv s1 zq0=>?_);obtain⟨x,H1,I1,r1,q1⟩:=zq0;obtain⟨c,rfl,q1⟩:=q1;cases r1;exact not_of (wpAny_truthy_bool ⟨.bl (!c),H1,I1,rfl,q1⟩)
def LW(t:TT)(ta tb:TE):TE:=λσ H Q=>t σ H λc H1=>if c=true then ta σ H1 Q else tb σ H1 Q
theorem CM{c:Expr}(hc:PT X c tA)(ha:PE X a ta)(hb:PE X b tb):PE X (.IfExp c a b pos) (LW tA ta tb):=by
 intro pins s σ H Q I h;refine wpAny_IfExp (eR (hc pins s σ H _ I h) λd s1 zq0=>?_);obtain⟨H1,I1,q1⟩:=zq0;cases d with
 |true=>exact ha pins s1 σ H1 Q I1 q1
 |false=>exact hb pins s1 σ H1 Q I1 q1
end
def pX(K:PySem.W.Frag)(H:Hp)(a:Addr)(xs:List V):Prop:=
 Rd H a (.lst xs) \/
  ∃(o:Obj) (its:Array Value) (n:Nat),K.lookup a=some o/\o.cls=.type "list" /\ o.dict=none/\o.data=.seq its n/\its.size<=sizeLine/\bO xs its.toList
def jQ(K:PySem.W.Frag)(H:Hp)(a:Addr)(xs:List V):Prop:=
 Rd H a (.tup xs) \/
  ∃(o:Obj) (its:Array Value) (n:Nat),K.lookup a=some o/\o.cls=.type "tuple" /\ o.data=.seq its n/\its.size<=sizeLine/\bO xs its.toList
def KB:Value->Option V
 |.none=>some .non
 |.bool b=>some (.bl b)
 |.int i _=>some (.int i)
 |.str x _=>some (.str x)
 |.bytes b _=>some (.byt b)
 |.float b _=>some (.flt b)
 |.ref a=>some (.ref a)
 |.type n=>some (.ty n)
 | _=>none
theorem cA.abs{x:V}{u:Value}(r:cA x u):KB u=some x:=by
 cases x with
 |non=>cases r;rfl
 |bl _=>cases r;rfl
 |int _=>obtain⟨t,rfl⟩:=r;rfl
 |str _=>obtain⟨t,rfl⟩:=r;rfl
 |byt _=>obtain⟨t,rfl⟩:=r;rfl
 |flt _=>obtain⟨t,rfl⟩:=r;rfl
 |ref _=>cases r;rfl
 |ty _=>cases r;rfl
theorem cA.inj{x y:V}{u:Value}(r:cA x u)(q:cA y u):x=y:=Option.some.inj (r.abs.symm.trans q.abs)
theorem bO.inj{xs ys:List V}{us:List Value}(h:bO xs us)(h':bO ys us):xs=ys:=by
 induction h generalizing ys with
 |nil=>
  cases h';rfl
 |cons r t ih=>
  cases h' with
  |cons r' t'=>rw[r.inj r',ih t']
section
variable{X:Cx}{pins:List (Addr×Obj)}{σ:St}{H:Hp}{s:Shared}{a:Addr}{xs ys:List V}
theorem pX.of{K:PySem.W.Frag}(h:H a=some (.lst xs)):pX K H a xs:=.inl (.inl h)
theorem jQ.of{K:PySem.W.Frag}(h:H a=some (.tup xs)):jQ K H a xs:=.inl (.inl h)
theorem aT.list(I:aT X pins σ H s)(h:pX X.K H a xs):∃its:List Value,bO xs its/\PlainL s.heap a its.toArray/\xs.length<=sizeLine:=by
 rcases h with h| ⟨o,its,n,hk,hc,hd,hs,hz,r⟩
 ·obtain⟨z,its,n,r,e⟩:=h.ok I.hok;exact⟨its,r,⟨_,n,e,rfl,rfl,rfl⟩,z⟩
 ·refine⟨its.toList,r,⟨o,n,I.kIn a o hk,hc,hd,by simpa using hs⟩,?_⟩;have e:=r.length;simp only[Array.length_toList]at e;omega
theorem aT.tuple(I:aT X pins σ H s)(h:jQ X.K H a xs):∃its:List Value,bO xs its/\IsTup s.heap a its.toArray/\xs.length<=sizeLine:=by
 rcases h with h| ⟨o,its,n,hk,hc,hs,hz,r⟩
 ·obtain⟨z,its,r,p⟩:=h.ok I.hok;exact⟨its,r,p.is,z⟩
 ·refine⟨its.toList,r,⟨o,I.kIn a o hk,hc,n,by simpa using hs⟩,?_⟩;have e:=r.length;simp only[Array.length_toList]at e;omega
theorem aT.list_inj(I:aT X pins σ H s)(h:pX X.K H a xs)(h':pX X.K H a ys):xs=ys:=by
 obtain⟨its,r,⟨o,n,e,_,_,d⟩,_⟩:=I.list h;obtain⟨its',r',⟨o',n',e',_,_,d'⟩,_⟩:=I.list h';rw[e]at e';cases e';rw[d]at d';injection d' with d1 _
 have:its=its':=by simpa using congrArg Array.toList d1
 subst this;exact r.inj r'
theorem aT.tuple_inj(I:aT X pins σ H s)(h:jQ X.K H a xs)(h':jQ X.K H a ys):xs=ys:=by
 obtain⟨its,r,⟨o,e,_,n,d⟩,_⟩:=I.tuple h;obtain⟨its',r',⟨o',e',_,n',d'⟩,_⟩:=I.tuple h';rw[e]at e';cases e';rw[d]at d';injection d' with d1 _
 have:its=its':=by simpa using congrArg Array.toList d1
 subst this;exact r.inj r'
end
abbrev Cx.wish(X:Cx)(E:Value->Shared->Prop):Cx:={ X with xe:=E }
abbrev Cx.nox(X:Cx):Cx:=X.wish λ_ _=>False
theorem Cx.Ok.wish{X:Cx}(ok:X.Ok)(E:Value->Shared->Prop):(X.wish E).Ok:=
 ⟨ok.mod,ok.kind,ok.glob,ok.blt,ok.above,ok.inj,ok.has,ok.cab,ok.hd,ok.frames,ok.stk,ok.exf,ok.bs,ok.bsz,ok.noex,ok.exfs,ok.funs,ok.frf⟩
theorem Cx.Ok.unwish{X:Cx}{E:Value->Shared->Prop}(ok:(X.wish E).Ok):X.Ok:=
 ⟨ok.mod,ok.kind,ok.glob,ok.blt,ok.above,ok.inj,ok.has,ok.cab,ok.hd,ok.frames,ok.stk,ok.exf,ok.bs,ok.bsz,ok.noex,ok.exfs,ok.funs,ok.frf⟩
section
variable{X:Cx}{pins:List (Addr×Obj)}{σ:St}{H:Hp}{s:Shared}{E:Value->Shared->Prop}
theorem aT.wish(I:aT X pins σ H s)(E:Value->Shared->Prop):aT (X.wish E) pins σ H s:=⟨I.ok.wish E,I.os,I.bare,I.base,I.loc,I.cell,I.free,I.freeC,I.pin,I.hok,I.len⟩
theorem aT.unwish(I:aT (X.wish E) pins σ H s):aT X pins σ H s:=⟨I.ok.unwish,I.os,I.bare,I.base,I.loc,I.cell,I.free,I.freeC,I.pin,I.hok,I.len⟩
theorem SP.unwish{D:r8}{f:Flow}{s':Shared}(h:SP (X.wish E) pins D f s'):SP X pins D f s':=by
 cases f with
 |next=>obtain⟨σ',H',I,q⟩:=h;exact⟨σ',H',I.unwish,q⟩
 |brk=>obtain⟨σ',H',I,q⟩:=h;exact⟨σ',H',I.unwish,q⟩
 |cont=>obtain⟨σ',H',I,q⟩:=h;exact⟨σ',H',I.unwish,q⟩
 |ret u=>obtain⟨v,σ',H',I,r,q⟩:=h;exact⟨v,σ',H',I.unwish,r,q⟩
theorem PE.nox{e:Expr}{t:TE}(h:PE X.nox e t):PE X e t:=λpins s σ H Q I hw=>
 wpAny_mono (h pins s σ H Q (I.wish _) hw) (λ_ _ ⟨v,H',I',r,q⟩=>⟨v,H',I'.unwish,r,q⟩) λ_ _ z=>False.elim z
theorem PT.nox{e:Expr}{t:TT}(h:PT X.nox e t):PT X e t:=λpins s σ H Q I hw=>
 wpAny_mono (h pins s σ H Q (I.wish _) hw) (λ_ _ ⟨H',I',q⟩=>⟨H',I'.unwish,q⟩) λ_ _ z=>False.elim z
theorem rT.nox{st:List Stmt}{t:TS}(h:rT X.nox st t):rT X st t:=λpins s σ H D I hw=>
 wpAny_mono (h pins s σ H D (I.wish _) hw) (λ_ _ q=>q.unwish) λ_ _ z=>False.elim z
end
section
variable{X:Cx}{st:Stmt}{ge:List Stmt}{t u:TS}{e:Expr}{te:TE}{pos:Pos}
def JP:TS:=λD σ H=>D.nx σ H
def Lp(t u:TS):TS:=λD σ H=>t { D with nx:=u D } σ H
theorem Fg:rT X [] JP:=λ_ _ σ H _ I h=>wpAny_execs_nil ⟨σ,H,I,h⟩
theorem nM(h1:PS X st t)(h2:rT X ge u):rT X (st::ge) (Lp t u):=by
 intro pins s σ H D I h;refine wpAny_execs_cons (eR (h1 pins s σ H { D with nx:=u D } I h) λf s1 q=>?_);cases f with
 |next=>
  obtain⟨σ',H',I',q⟩:=q;exact h2 pins s1 σ' H' D I' q
 |ret v=>exact q
 |brk=>exact q
 |cont=>exact q
theorem uV(h1:PS X st t):rT X [st] t:=by
 intro pins s σ H D I h;refine wpAny_execs_cons (eR (h1 pins s σ H D I h) λf s1 q=>?_);cases f with
 |next=>exact wpAny_execs_nil q
 |ret v=>exact q
 |brk=>exact q
 |cont=>exact q
theorem aT.quiet{pins:List (Addr×Obj)}{σ:St}{H:Hp}{s:Shared}(I:aT X pins σ H s):interactive X.env=false:=by simp[interactive,I.ok.kind]
def JM(te:TE):TS:=λD σ H=>te σ H λ_ H1=>D.nx σ H1
theorem zO(he:PE X e te)(hs:swapsWith e none pos.line X.env=pure false:=by rfl):PS X (.Expr e pos) (JM te):=by
 intro pins s σ H D I h;exact wpAny_Expr_any (eR (he pins s σ H _ I h) λv s1 ⟨x,H1,I1,r1,q1⟩=>⟨σ,H1,I1,q1⟩) I.quiet hs
def Ln(te:TE):TS:=λD σ H=>te σ H D.rt
theorem CU(he:PE X e te):PS X (.Return (some e) pos) (Ln te):=by
 intro pins s σ H D I h;exact wpAny_Return_some (eR (he pins s σ H _ I h) λv s1 ⟨x,H1,I1,r1,q1⟩=>⟨x,σ,H1,I1,r1,q1⟩)
def Lj(c:TT)(t u:TS):TS:=λD σ H=>c σ H λb H1=>if b=true then t D σ H1 else u D σ H1
theorem Jn{c:Expr}{a b:List Stmt}{tc:TT}(hc:PT X c tc)(ha:rT X a t)(hb:rT X b u):PS X (.If c a b pos) (Lj tc t u):=by
 intro pins s σ H D I h;refine wpAny_If (eR (hc pins s σ H _ I h) λd s1 zq0=>?_);obtain⟨H1,I1,q1⟩:=zq0;cases d with
 |true=>exact ha pins s1 σ H1 D I1 q1
 |false=>exact hb pins s1 σ H1 D I1 q1
end
abbrev TG:=V->St->Hp->(St->Hp->Prop)->Prop
abbrev Gp:=List V->St->Hp->(St->Hp->Prop)->Prop
def PG(X:Cx)(target:Expr)(t:TG):Prop:=
 ∀(pins:List (Addr×Obj)) (s:Shared) (σ:St) (H:Hp) (v:V) (u:Value) (Q:St->Hp->Prop),aT X pins σ H s->cA v u->t v σ H Q ->
  wpAny (model X.prog X.w) X.A (assign target X.env u) (λ_ s'=>NX X pins s' Q) X.xe s
def Ka(X:Cx)(ts:List Expr)(t:Gp):Prop:=
 ∀(pins:List (Addr×Obj)) (s:Shared) (σ:St) (H:Hp) (vs:List V) (us:List Value) (Q:St->Hp->Prop),aT X pins σ H s->bO vs us->t vs σ H Q ->
  wpAny (model X.prog X.w) X.A (assignInOrder ((assignEach ts X.env).map (·.2)) us) (λ_ s'=>NX X pins s' Q) X.xe s
abbrev Gq:=V->V->V->Hp->(Hp->Prop)->Prop
def Il(X:Cx)(t:Gq):Prop:=
 ∀(pins:List (Addr×Obj)) (s:Shared) (σ:St) (H:Hp) (o i v:V) (ov iv u:Value) (Q:Hp->Prop),aT X pins σ H s->cA o ov->cA i iv->cA v u->t o i v H Q ->
  wpAny (model X.prog X.w) X.A (setItem ov iv u) (λ_ s'=>∃H',aT X pins σ H' s'/\Q H') X.xe s
abbrev Kc:=V->V->Hp->VK->Prop
def Kz(X:Cx)(op:Operator)(t:Kc):Prop:=
 ∀(pins:List (Addr×Obj)) (s:Shared) (σ:St) (H:Hp) (x y:V) (v u:Value) (Q:VK),aT X pins σ H s->cA x v->cA y u->t x y H Q ->
  wpAny (model X.prog X.w) X.A (inplaceOp op v u) (EP X pins σ Q) X.xe s
section
variable{X:Cx}{pos:Pos}
def FT(i:Nat):TG:=λv σ H Q=>Q (σ.set i (some v)) H
theorem uU{i:Nat}{x:Str}(hN:X.N.Nodup)(hi:X.N[i]?=some x)(hx:FN X.env.scope x)(hf:X.fn x=true\/X.env.scope.names.lookup x=some .local:=by first|exact .inl rfl|exact .inr rfl|assumption):PG X (.Name x pos) (FT i):=by
 intro pins s σ H v u Q I r h;exact wpAny_assign_Name (lu I hN hi hx r (λs' I'=>⟨_,H,I',h⟩) hf)
def KQ:Gp:=λvs σ H Q=>vs=[]/\Q σ H
def IN(t:TG)(u:Gp):Gp:=λvs σ H Q=>∃v r,vs=v::r/\t v σ H λσ' H'=>u r σ' H' Q
theorem Fa:Ka X [] KQ:=by
 intro pins s σ H vs us Q I r h;obtain⟨e,h⟩:=h;subst e;cases r;exact assignInOrder_nil ⟨σ,H,I,h⟩
theorem wr{e:Expr}{es:List Expr}{t:TG}{u:Gp}(h1:PG X e t)(h2:Ka X es u)
  (hs:(assignEach (e::es) X.env).map (·.2)=assign e X.env::(assignEach es X.env).map (·.2):=by rfl):Ka X (e::es) (IN t u):=by
 intro pins s σ H vs us Q I r h;obtain⟨v,vr,e1,h⟩:=h;subst e1;cases r with
 |cons r rr=>
  rw[hs];refine assignInOrder_cons (eR (h1 pins s σ H _ _ _ I r h) λ_ s1 zq0=>?_);obtain⟨σ1,H1,I1,q1⟩:=zq0;exact h2 pins s1 σ1 H1 _ _ Q I1 rr q1
def KS(K:PySem.W.Frag)(n:Nat)(t:Gp):TG:=λv σ H Q=>∃a xs,v=.ref a/\jQ K H a xs/\xs.length=n/\t xs σ H Q
theorem Hw{es:List Expr}{k:Nat}{t:Gp}{n:Nat}(hc:X.calm=true)(h:Ka X es t)
  (hn:(assignEach es X.env).length=n:=by rfl) (hst:(assignEach es X.env).findIdx? (·.1)=none:=by rfl):PG X (.Tuple es k pos) (KS X.K n t):=by
 intro pins s σ H v u Q I r hw;obtain⟨a,xs,e1,hq,hl,hw⟩:=hw;subst e1;cases r;obtain⟨its,rv,ht,hz⟩:=I.tuple hq;refine assign_Tuple_tuple (I.ok.hd hc) ht (by simp[hn,<-hl,rv.length]) hst λh' hx=>?_
 have I1:aT X pins σ H { s with heap:=h' }:=I.kept (t':=s.toks) λb o e=>hx b o (Nat.ne_of_lt (Heap.lt_size e)) e
 exact h pins _ σ H xs _ Q I1 (by simpa using rv) hw
def KR(to ti:TE)(t:Gq):TG:=λv σ H Q=>to σ H λo H1=>ti σ H1 λi H2=>t o i v H2 λH3=>Q σ H3
theorem Hv{o i:Expr}{to ti:TE}{t:Gq}(ho:PE X o to)(hi:PE X i ti)(hs:Il X t)
  (ha:∀v,assign (.Subscript o i pos) X.env v=(do
   let ov <-holding [v] (eval o X.env)
   let iv <-holding [v,ov] (eval i X.env)
   standAt pos
   holding [v,ov,iv] (setItem ov iv v)
   release [v,ov,iv] []):=by intro _;rfl):PG X (.Subscript o i pos) (KR to ti t):=by
 intro pins s σ H v u Q I r h;rw[ha];refine Qb (wpAny_holding (eR (ho pins s σ H _ I h) λov s1 zq0=>?_));obtain⟨x,H1,I1,r1,q1⟩:=zq0;refine Qb (wpAny_holding (eR (hi pins s1 σ H1 _ I1 q1) λiv s2 zq0=>?_));obtain⟨y,H2,I2,r2,q2⟩:=zq0;refine Qb (wpAny_standAt (Qb (wpAny_holding (eR (hs pins s2 σ H2 x y v ov iv u _ I2 r1 r2 r q2) λ_ s3 zq0=>?_))));obtain⟨H3,I3,q3⟩:=zq0;exact wpAny_release ⟨σ,H3,I3,q3⟩
def JJ(te:TE)(g:TG):TS:=λD σ H=>te σ H λx H1=>g x σ H1 D.nx
theorem CT{tg e:Expr}{te:TE}{g:TG}(he:PE X e te)(hg:PG X tg g)(hs:swapsWithSole [tg] e pos.line X.env=pure false:=by rfl)(hw:swappedStores [tg] e X.env=pure none:=by rfl)
  (h1:(assignEach [tg] X.env).map (·.2)=[assign tg X.env]:=by rfl):PS X (.Assign [tg] e pos) (JJ te g):=by
 intro pins s σ H D I h;refine wpAny_Assign_stores (eR (he pins s σ H _ I h) λv s1 zq0=>?_) hs hw;obtain⟨x,H1,I1,r1,q1⟩:=zq0;rw[h1];exact eR (hg pins s1 σ H1 x v _ I1 r1 q1) λ_ s2 q=>q
theorem yc{i:Nat}{x:Str}{e:Expr}{te:TE}{pos':Pos}(hN:X.N.Nodup)(hi:X.N[i]?=some x)(hx:FN X.env.scope x)(he:PE X e te)(hs:swapsWith e (some (.Name x pos')) pos.line X.env=pure false:=by rfl)(hf:X.fn x=true\/X.env.scope.names.lookup x=some .local:=by first|exact .inl rfl|exact .inr rfl|assumption) :
  PS X (.Assign [.Name x pos'] e pos) (JJ te (FT i)):=by
 intro pins s σ H D I h;refine wpAny_Assign_Name (eR (he pins s σ H _ I h) λv s1 zq0=>?_) hs;obtain⟨y,H1,I1,r1,q1⟩:=zq0;exact lu I1 hN hi hx r1 (λs2 I2=>⟨_,H1,I2,q1⟩) hf
def Lf(i:Nat)(te:TE)(ti:Kc):TS:=λD σ H=>∃x,σ[i]?=some (some x)/\te σ H λy H1=>ti x y H1 λz H2=>D.nx (σ.set i (some z)) H2
theorem Hy{i:Nat}{x:Str}{e:Expr}{te:TE}{op:Operator}{ti:Kc}{pos':Pos}(hN:X.N.Nodup)(hi:X.N[i]?=some x)(hx:FN X.env.scope x)(he:PE X e te)(ho:Kz X op ti)(hf:X.fn x=true\/X.env.scope.names.lookup x=some .local:=by first|exact .inl rfl|exact .inr rfl|assumption) :
  PS X (.AugAssign (.Name x pos') op e pos) (Lf i te ti):=by
 intro pins s σ H D I h;obtain⟨v,e1,h⟩:=h;obtain⟨m,hn,hl⟩:=I.loc;have vis:Gu X.env.scope x:=by rcases hx with k|k;exact .inl k;exact .inr (.inl k)
 obtain⟨u,r,l⟩:=hl i x v hi e1 vis;refine wpAny_AugAssign_Name ?_;have go:wpAny (model X.prog X.w) X.A (eval e X.env) (λw s₂=>wpAny (model X.prog X.w) X.A (inplaceOp op u w) (λr s₃=>wpAny (model X.prog X.w) X.A (storeName X.env x r) (λ_=>SP X pins D .next) X.xe s₃) X.xe s₂) X.xe s:=by
  refine eR (he pins s σ H _ I h) λw s1 zq0=>?_
  obtain⟨y,H1,I1,r1,q1⟩:=zq0;refine eR (ho pins s1 σ H1 v y u w _ I1 r r1 q1) λz s2 zq0=>?_
  obtain⟨zv,H2,I2,r2,q2⟩:=zq0;exact lu I2 hN hi hx r2 (λs3 I3=>⟨_,H2,I3,q2⟩) hf
 rcases l with⟨hk,hm⟩| ⟨hk,c,hc,hcell⟩
 ·exact wpAny_loadName_local I.ok.kind hk hn hm go
 ·rcases hk with hk|hk
  ·exact wpAny_loadName_cell I.ok.kind hk hc hcell go
  ·rcases hx with k|k
   ·have:X.env.scope.names.lookup x=some .free:=hk;rw[k]at this;cases this
   ·have:X.env.scope.names.lookup x=some .free:=hk;rw[k]at this;cases this
def LC(f:Int->Int->Int):Kc:=λx y H Q=>∃i j,x=.int i/\y=.int j/\Q (.int (f i j)) H
theorem GS:Kz X .Add (LC λi j=>i+j):=by
 intro pins s σ H x y v u Q I r1 r2 h;obtain⟨i,j,e1,e2,q⟩:=h;subst e1;subst e2;obtain⟨t,rfl⟩:=r1;obtain⟨t',rfl⟩:=r2;exact iadd_int ⟨.int _,H,I.tok _,⟨_,rfl⟩,q⟩
end
section
variable{X:Cx}{pos:Pos}
def HY(c:TT)(tb:TS):TS:=λD σ H=>∃W:Nat->St->Hp->Prop,(∃m,W m σ H)/\∀m σ H,W m σ H ->
 c σ H λb H1=>if b=true then ∃N:St->Hp->Prop,(∀σ' H',N σ' H'->∃m',m'<m/\W m' σ' H')/\tb { D with nx:=N,ct:=N,bk:=D.nx } σ H1 else D.nx σ H1
theorem CV{c:Expr}{body:List Stmt}{tc:TT}{tb:TS}(hp:PassesOwn (model X.prog X.w) X.A X.env X.xe)(hc:PT X c tc)(hb:rT X body tb):PS X (.While c body [] pos) (HY tc tb):=by
 intro pins s σ H D I h;obtain⟨W,⟨m0,w0⟩,turn⟩:=h;refine wpAny_While (codeAny_whileLoop (λn s'=>NX X pins s' (W n)) ?_ m0 ⟨σ,H,I,w0⟩);rintro n s1 ⟨σ1,H1,I1,w1⟩;refine wpAny_passesOwn hp (eR (hc pins s1 σ1 H1 _ I1 (turn n σ1 H1 w1)) λb s2 zq0=>?_);obtain⟨H2,I2,q2⟩:=zq0;cases b with
 |true=>
  obtain⟨N,hN,q2⟩:=q2;rw[if_pos rfl];refine wpAny_passesOwn hp (eR (hb pins s2 σ1 H2 _ I2 q2) λf s3 q3=>?_);cases f with
  |next=>
   obtain⟨σ3,H3,I3,n3⟩:=q3;obtain⟨m',hm,w3⟩:=hN σ3 H3 n3;exact⟨m',hm,σ3,H3,I3,w3⟩
  |cont=>
   obtain⟨σ3,H3,I3,n3⟩:=q3;obtain⟨m',hm,w3⟩:=hN σ3 H3 n3;exact⟨m',hm,σ3,H3,I3,w3⟩
  |brk=>exact q3
  |ret v=>exact q3
 |false=>
  rw[if_neg Bool.false_ne_true];exact wpAny_execs_nil ⟨σ1,H2,I2,q2⟩
end
structure It where
 go:Nat->Hp->Prop
 yld:Nat->Hp->V->Hp->Prop
 stop:Nat->Hp->Prop
def pJ(X:Cx)(pins:List (Addr×Obj))(H:Hp)(b:Addr):Prop:=
 H b=none/\b≠X.env.locals/\b∉X.fs/\(b∈X.ex\/X.s₀.heap.objs.size<=b)/\(∀x c,X.env.cells.lookup x=some c->c≠b)/\∀p∈X.pn++pins,p.1≠b
theorem aT.fpOk{X:Cx}{pins:List (Addr×Obj)}{σ:St}{H H':Hp}{s:Shared}{b:Addr}(I:aT X pins σ H s)(hb:s.heap.objs.size<=b)(hn:H' b=none):pJ X pins H' b:=by
 refine⟨hn,Nat.ne_of_gt (Nat.lt_of_lt_of_le I.lt hb),I.nofs hb,.inr (Nat.le_trans I.sz hb),λx c e z=>?_,λp hp z=>?_⟩
 ·obtain⟨v,q⟩:=I.cell x c e;exact absurd (Nat.lt_of_lt_of_le q.lt (by rw[z];exact hb)) (Nat.lt_irrefl _)
 ·exact absurd (Nat.lt_of_lt_of_le (Heap.lt_size (I.pin p hp).1) (by rw[z];exact hb)) (Nat.lt_irrefl _)
inductive LK(X:Cx)(pins:List (Addr×Obj))(σ:St)(u:Value)(J:It)(i:Nat)(H:Hp)(fp:List Addr)(tn:Nat->Heap->Prop)(s2:Shared):Prop
 |mk (x:V) (H':Hp) (I:aT X pins σ H' s2) (r:cA x u) (y:J.yld i H x H') (t:tn (i+1) s2.heap) (f:∀b∈fp,H' b=none)
structure uo(P:Program)(w:World)(K:PySem.W.Frag)(tg:Expr)(J:It)(fp:List Addr)(it:Addr)(tn:Nat->Heap->Prop):Prop where
 mem:it∈fp
 obj:∀i h,tn i h->∀b∈fp,∃o,h.get? b=some o/\∀v,o.data≠.cell v
 keep:∀i h h',tn i h->(∀b∈fp,∀o,h.get? b=some o->h'.get? b=some o)->tn i h'
 item:∀(X:Cx),X.prog=P->X.w=w->X.K=K->X.calm=true->∀(i:Nat) (pins:List (Addr×Obj)) (s:Shared) (σ:St) (H:Hp) (E:Value->Shared->Prop),aT X pins σ H s->(∀b∈fp,pJ X pins H b)->tn i s.heap->J.go i H ->
  wpAny (model P w) X.A (pyNext (.ref it)) (λr s1=>∃u,r=some u /\
   wpAny (model P w) X.A (letOwnedTupleGo tg (.ref it) u) (λ_ s2=>LK X pins σ u J i H fp tn s2) E s1) E s
 done:∀(X:Cx),X.prog=P->X.w=w->X.K=K->X.calm=true->∀(i:Nat) (pins:List (Addr×Obj)) (s:Shared) (σ:St) (H:Hp) (E:Value->Shared->Prop),aT X pins σ H s->(∀b∈fp,pJ X pins H b)->tn i s.heap->J.stop i H ->
  wpAny (model P w) X.A (pyNext (.ref it)) (λr s1=>r=none/\aT X pins σ H s1) E s
 self:∀(A:Around) (i:Nat) (s:Shared) (Q:Value->Shared->Prop) (E:Value->Shared->Prop),tn i s.heap->Q (.ref it) s->wpAny (model P w) A (pyIter (.ref it)) Q E s
abbrev TI:=St->Hp->(It->Hp->Prop)->Prop
inductive Lz(X:Cx)(pins:List (Addr×Obj))(σ:St)(tg:Expr)(R:It->Hp->Prop)(itv:Value)(s2:Shared):Prop
 |mk (it:Addr) (fp:List Addr) (tn:Nat->Heap->Prop) (J:It) (H':Hp) (e:itv=.ref it) (I:aT X pins σ H' s2) (T:uo X.prog X.w X.K tg J fp it tn) (t:tn 0 s2.heap) (f:∀b∈fp,pJ X pins H' b) (r:R J H')
def PI(X:Cx)(tg iter:Expr)(wi:TI):Prop:=
 ∀(pins:List (Addr×Obj)) (s:Shared) (σ:St) (H:Hp) (R:It->Hp->Prop),aT X pins σ H s->wi σ H R ->
  wpAny (model X.prog X.w) X.A (eval iter X.env) (λv s1=>wpAny (model X.prog X.w) X.A (pyIter v) (Lz X pins σ tg R) X.xe s1) X.xe s
theorem v8{M:Model}{A:Around}{E:Value->Shared->Prop}{s:Shared}{tg:Expr}{it:Addr}{u:Value}{o:Obj}{n:String}{vs:Array Value}{Q:Unit->Shared->Prop}(ho:s.heap.get? it=some o)(hc:o.cls=.type n)(hd:o.data=.fields vs)
  (hn:["enumerate","zip","dict_itemiterator","dict_reverseitemiterator","odict_iterator","itertools.zip_longest","itertools.pairwise"].contains n=false) (hQ:Q () s):wpAny M A (letOwnedTupleGo tg (.ref it) u) Q E s:=by
 unfold letOwnedTupleGo;cases tg<;>first
  |exact Qg hQ
  | (cases u<;>first
    |exact Qg hQ
    | (refine Qb (wpAny_load ho ?_);rw[hc,hd];show wpAny M A (if(["enumerate","zip","dict_itemiterator","dict_reverseitemiterator","odict_iterator","itertools.zip_longest","itertools.pairwise"].contains n&&vs[0]?==some (rawInt _))=true then _ else _) Q E s;rw[if_neg (by intro h;rw[hn,Bool.false_and]at h;cases h)];exact Qg hQ))
def Kv(K:PySem.W.Frag)(a:Addr):It:=
 ⟨λi H=>∃xs x,pX K H a xs/\xs[i]?=some x,λi H x H'=>H'=H/\∀xs,pX K H a xs->xs[i]?=some x,λi H=>∃xs,pX K H a xs/\xs.length<=i⟩
def Kw(K:PySem.W.Frag)(a:Addr):It:=
 ⟨λi H=>∃xs x,jQ K H a xs/\xs[i]?=some x,λi H x H'=>H'=H/\∀xs,jQ K H a xs->xs[i]?=some x,λi H=>∃xs,jQ K H a xs/\xs.length<=i⟩
def J8(lo:Int)(n:Nat):It:=⟨λi _=>i<n,λi H x H'=>H'=H/\x=.int (lo+i),λi _=>n<=i⟩
theorem Bg{P:Program}{w:World}{K:PySem.W.Frag}{tg:Expr}(a it:Addr):uo P w K tg (Kv K a) [it] it (λi h=>h.IsListIter it a i) where
 mem:=by simp
 obj:=λi h st b hb=>by
  have e:b=it:=by simpa using hb
  subst e;obtain⟨o,e,c,d⟩:=st;exact⟨o,e,λv z=>by rw[d]at z;cases z⟩
 keep:=λi h h' st k=>st.at λo e=>k it (by simp) o e
 item:=by
  intro X hP hw hK hc i pins s σ H E I hf st hg;subst hP hw hK;obtain⟨xs,x,hq,hx⟩:=hg;obtain⟨its,rv,p,hz⟩:=I.list hq;obtain⟨u,hu,ru⟩:=rv.get hx;obtain⟨f0,f1,f2,f3,f4,f5⟩:=hf it (by simp);refine wpAny_pyNext_list_item st p.isList (x:=u) (by simpa using hu) λh' st' sb=>?_
  have I1:aT X pins σ H { s with heap:=h' }:=I.turned (t':=s.toks) (λb o hb e=>(sb.2 b hb).trans e) f0 f1 f3 f4 f5;obtain⟨o,e,c,d⟩:=id st';exact⟨u,rfl,v8 (s:={ s with heap:=h' }) e c d (by decide) ⟨x,H,I1,ru,⟨rfl,λys hy=>by rw[I.list_inj hy hq];exact hx⟩,st',λb hb=>(hf b hb).1⟩⟩
 done:=by
  intro X hP hw hK hc i pins s σ H E I hf st hg;subst hP hw hK;obtain⟨xs,hq,hx⟩:=hg;obtain⟨its,rv,p,hz⟩:=I.list hq;obtain⟨f0,f1,f2,f3,f4,f5⟩:=hf it (by simp);have hl:=rv.length;exact wpAny_pyNext_list_end (I.ok.hd hc) st p.isList (by simp;omega) λh' eb=>⟨rfl,I.turned (t':=s.toks) (λb o hb e=>eb b o hb e) f0 f1 f3 f4 f5⟩
 self:=λ_ _ _ _ _ st h=>wpAny_pyIter_listiter st h
theorem yy{P:Program}{w:World}{K:PySem.W.Frag}{tg:Expr}(a it:Addr):uo P w K tg (Kw K a) [it] it (λi h=>h.IsTupleIter it a i) where
 mem:=by simp
 obj:=λi h st b hb=>by
  have e:b=it:=by simpa using hb
  subst e;obtain⟨o,e,c,d⟩:=st;exact⟨o,e,λv z=>by rw[d]at z;cases z⟩
 keep:=λi h h' st k=>st.at λo e=>k it (by simp) o e
 item:=by
  intro X hP hw hK hc i pins s σ H E I hf st hg;subst hP hw hK;obtain⟨xs,x,hq,hx⟩:=hg;obtain⟨its,rv,p,hz⟩:=I.tuple hq;obtain⟨u,hu,ru⟩:=rv.get hx;obtain⟨f0,f1,f2,f3,f4,f5⟩:=hf it (by simp);refine wpAny_pyNext_tuple_item st (show s.heap.IsTuple a its.toArray from p) (x:=u) (by simpa using hu) λh' st' sb=>?_
  have I1:aT X pins σ H { s with heap:=h' }:=I.turned (t':=s.toks) (λb o hb e=>(sb.2 b hb).trans e) f0 f1 f3 f4 f5;obtain⟨o,e,c,d⟩:=id st';exact⟨u,rfl,v8 (s:={ s with heap:=h' }) e c d (by decide) ⟨x,H,I1,ru,⟨rfl,λys hy=>by rw[I.tuple_inj hy hq];exact hx⟩,st',λb hb=>(hf b hb).1⟩⟩
 done:=by
  intro X hP hw hK hc i pins s σ H E I hf st hg;subst hP hw hK;obtain⟨xs,hq,hx⟩:=hg;obtain⟨its,rv,p,hz⟩:=I.tuple hq;obtain⟨f0,f1,f2,f3,f4,f5⟩:=hf it (by simp);have hl:=rv.length;exact wpAny_pyNext_tuple_end (I.ok.hd hc) st (show s.heap.IsTuple a its.toArray from p) (by simp;omega) λh' eb=>⟨rfl,I.turned (t':=s.toks) (λb o hb e=>eb b o hb e) f0 f1 f3 f4 f5⟩
 self:=λ_ _ _ _ _ st h=>wpAny_pyIter_tupleiter st h
theorem yx{P:Program}{w:World}{K:PySem.W.Frag}{tg:Expr}(it:Addr)(lo:Int)(n:Nat):uo P w K tg (J8 lo n) [it] it (λi h=>IsRangeIter h it (lo+(i:Nat)*1) ((n:Int)-(i:Nat)) 1) where
 mem:=by simp
 obj:=λi h st b hb=>by
  have e:b=it:=by simpa using hb
  subst e;exact⟨_,st,λv z=>by
   have z':Data.fields _=Data.cell v:=z;cases z'⟩
 keep:=λi h h' st k=>k it (by simp) _ st
 item:=by
  intro X hP hw hK hc i pins s σ H E I hf st hg;subst hP hw hK;obtain⟨f0,f1,f2,f3,f4,f5⟩:=hf it (by simp);have W:=Walks.range (prog:=X.prog) (w:=X.w) (I.ok.hd hc) it lo 1 n;refine W.item i s _ _ hg st λv h' tk hv st' kk=>?_
  obtain⟨t,rfl⟩:=hv;have I1:aT X pins σ H { s with heap:=h',toks:=tk }:=I.turned (λb o hb e=>kk b o (by simpa using hb) e) f0 f1 f3 f4 f5;refine⟨_,rfl,v8 (s:={ s with heap:=h',toks:=tk }) (n := "range_iterator") st' rfl rfl (by decide) ⟨.int (lo+i),H,I1,⟨t,?_⟩,⟨rfl,rfl⟩,st',λb hb=>(hf b hb).1⟩⟩;rw[Int.mul_one]
 done:=by
  intro X hP hw hK hc i pins s σ H E I hf st hg;subst hP hw hK;obtain⟨f0,f1,f2,f3,f4,f5⟩:=hf it (by simp);exact wpAny_pyNext_range_end (I.ok.hd hc) st (by have:n<=i:=hg;omega) λh' eb=>⟨rfl,I.turned (t':=s.toks) (λb o hb e=>eb b o hb e) f0 f1 f3 f4 f5⟩
 self:=λ_ _ _ _ _ st h=>wpAny_pyIter_rangeiter st h
section
variable{X:Cx}{tg:Expr}
theorem Da{pins:List (Addr×Obj)}{σ:St}{H:Hp}{s:Shared}{R:It->Hp->Prop}{E:Value->Shared->Prop}{lo hi:Int}{t u v:Tok}{tk:Nat}(I:aT X pins σ H s)(h1:-(2 ^ 62)<=lo)(h2:lo<2 ^ 62)(h3:-(2 ^ 62)<=hi)(h4:hi<2 ^ 62)
  (q:R (J8 lo (hi-lo).toNat) H):wpAny (model X.prog X.w) X.A (pyIter (.ref s.heap.objs.size)) (Lz X pins σ tg R) E { s with heap:=s.heap.push { cls:=.type "range",data:=.fields #[.int lo t,.int hi u,.int 1 v] },toks:=tk }:=by
 refine wpAny_pyIter_range (IsRange.new ..) (small_one h1 h2 h3 h4) ?_;have I1:aT X pins σ H { s with heap:=s.heap.push { cls:=.type "range",data:=.fields #[.int lo t,.int hi u,.int 1 v] },toks:=tk }:=I.kept λb o e=>Qe _ e
 refine⟨(s.heap.push { cls:=.type "range",data:=.fields #[.int lo t,.int hi u,.int 1 v] }).objs.size,[(s.heap.push { cls:=.type "range",data:=.fields #[.int lo t,.int hi u,.int 1 v] }).objs.size],_,_,H,rfl,
  I1.kept (t':=tk) λb o e=>Qe _ e,yx _ lo (hi-lo).toNat,?_,λb hb=>?_,q⟩
 ·have e1:lo+((0:Nat):Int)*1=lo:=by simp
  have e2:(((hi-lo).toNat:Nat):Int)-((0:Nat):Int)=Builtin.Range.rangeSize lo hi 1:=by rw[rangeSize_one];split<;>omega
  show IsRangeIter _ _ (lo+((0:Nat):Int)*1) ((((hi-lo).toNat:Nat):Int)-((0:Nat):Int)) 1;rw[e1,e2];exact Heap.get?_push_size _ rfl
 ·have e:b=(s.heap.push { cls:=.type "range",data:=.fields #[.int lo t,.int hi u,.int 1 v] }).objs.size:=by simpa using hb
  subst e;exact I1.fpOk (Nat.le_refl _) (I1.hok.fresh (Nat.le_refl _))
def IU(ta:TA):TI:=λσ H R=>ta σ H λvs H1=>∃j:Int,vs=[.int j]/\-(2 ^ 62)<=j/\j<2 ^ 62/\R (J8 0 j.toNat) H1
theorem AW{a:Expr}{ta:TA}{p pos:Pos}(hg:Gl X "range")(hm:X.mg "range" = none)(ha:PA X [a] ta)(hs:starEach [a] X.env=[(false,eval a X.env)]:=by rfl):PI X tg (.Call (.Name "range" p) [a] [] pos) (IU ta):=by
 intro pins s σ H R I h;refine Call_ (j8 I hg hm boot_range (PyProof.Rows.callWith_type1 (eR (ha pos pins s σ H _ I h) λus s1 zq0=>?_) hs rfl));obtain⟨vs,H1,I1,r1,q1⟩:=zq0;obtain⟨j,e,q1,q2,q⟩:=q1;subst e;cases r1 with
 |cons r rr=>
  cases rr;obtain⟨t,rfl⟩:=r;exact call_range_1 (Da I1 (by omega) (by omega) q1 q2 (by simpa using q))
def Li(wi:TI)(g:TG)(tb:TS):TS:=λD σ H=>wi σ H λJ H1=>∃W:Nat->Nat->St->Hp->Prop,(∃m,W 0 m σ H1)/\∀i m σ H,W i m σ H ->
 (J.stop i H/\D.nx σ H)\/(J.go i H/\∃N:St->Hp->Prop,(∀σ' H',N σ' H'->∃m',m'<m/\W (i+1) m' σ' H')/\∀x H',J.yld i H x H'->g x σ H' λσ2 H2=>tb { D with nx:=N,ct:=N,bk:=D.nx } σ2 H2)
def rB(fp:List Addr)(h:Heap):List (Addr×Obj):=fp.filterMap λb=>(h.get? b).map λo=>(b,o)
theorem kb{fp:List Addr}{h:Heap}{b:Addr}{o:Obj}(hb:b∈fp)(e:h.get? b=some o):(b,o)∈rB fp h:=List.mem_filterMap.mpr ⟨b,hb,by rw[e];rfl⟩
theorem AU{fp:List Addr}{h:Heap}{p:Addr×Obj}(hp:p∈rB fp h):p.1∈fp/\h.get? p.1=some p.2:=by
 obtain⟨b,hb,e⟩:=List.mem_filterMap.mp hp;cases q:h.get? b with
 |none=>rw[q]at e;cases e
 |some o=>
  rw[q]at e;have e':(b,o)=p:=Option.some.inj e;subst e';exact⟨hb,q⟩
theorem aT.pinned{pins:List (Addr×Obj)}{σ:St}{H:Hp}{s:Shared}{fp:List Addr}(I:aT X pins σ H s)(hf:∀b∈fp,pJ X pins H b)(ho:∀b∈fp,∃o,s.heap.get? b=some o/\∀v,o.data≠.cell v):aT X (pins++rB fp s.heap) σ H s:=
 I.pins_of λp hp=>(List.mem_append.mp hp).elim (λz=>I.pin p (List.mem_append_right _ z)) λz=>by
  obtain⟨hb,e⟩:=AU z;obtain⟨f0,f1,f2,_⟩:=hf p.1 hb;obtain⟨o,e',d⟩:=ho p.1 hb;rw[e]at e';cases e';exact⟨e,f0,f1,f2,d⟩
theorem aT.unpinned{pins pl:List (Addr×Obj)}{σ:St}{H:Hp}{s:Shared}(I:aT X (pins++pl) σ H s):aT X pins σ H s:=I.pins_of λp hp=>I.pin p (List.mem_append_right _ (List.mem_append_left _ hp))
theorem Hz{iter:Expr}{body:List Stmt}{wi:TI}{g:TG}{tb:TS}{pos:Pos}(hp:PassesOwn (model X.prog X.w) X.A X.env X.xe)(hc:X.calm=true)(hi:PI X tg iter wi)(hg:PG X tg g)(hb:rT X body tb)
  (hs:∀x,foldedSetIterable iter X.env x=pure x:=by intro _;rfl):PS X (.For tg iter body [] pos) (Li wi g tb):=by
 intro pins s σ H D I h;refine wpAny_For (eR (hi pins s σ H _ I h) λv s1 h1=>eR h1 λitv s2 h2=>?_) hs;obtain⟨it,fp,tn,J,H2,e,I2,T,st2,f2,W,⟨m0,w0⟩,turn⟩:=h2;subst e
 -- what stays true of the iterator's objects through the loop
 have stat:∀{H':Hp},(∀b∈fp,H' b=none)->∀b∈fp,pJ X pins H' b:=λhn b hb=>⟨hn b hb,(f2 b hb).2⟩
 refine codeAny_forLoop_any (λn s'=>∃i σ' H',aT X pins σ' H' s'/\tn i s'.heap/\(∀b∈fp,H' b=none)/\W i n σ' H') ?_ m0 ⟨0,σ,H2,I2,st2,λb hb=>(f2 b hb).1,w0⟩;rintro n s3 ⟨i,σ3,H3,I3,st3,fr3,w3⟩;rcases turn i n σ3 H3 w3 with⟨stop,qn⟩| ⟨go,N,hN,step⟩
 ·refine wpAny_passesOwn hp (eR (T.done X rfl rfl rfl hc i pins s3 σ3 H3 X.xe I3 (stat fr3) st3 stop) λr s4 zq0=>?_);obtain⟨hr,I4⟩:=zq0;subst hr;exact wpAny_execs_nil ⟨σ3,H3,I4,qn⟩
 ·refine wpAny_passesOwn hp (eR (T.item X rfl rfl rfl hc i pins s3 σ3 H3 X.xe I3 (stat fr3) st3 go) λr s4 zq0=>?_);obtain⟨u,hr,h4⟩:=zq0;subst hr;refine wpAny_passesOwn hp (eR h4 λ_ s5 zq0=>?_);obtain⟨x,H5,I5,r5,y5,st5,fr5⟩:=zq0;have I5':=I5.pinned (stat fr5) (T.obj _ _ st5);refine wpAny_passesOwn hp (eR (hg _ s5 σ3 H5 x u _ I5' r5 (step x H5 y5)) λ_ s6 zq0=>?_);obtain⟨σ6,H6,I6,q6⟩:=zq0;refine wpAny_passesOwn hp (eR (hb _ s6 σ6 H6 _ I6 q6) λf s7 q7=>?_);have again:∀{σ7:St} {H7:Hp},aT X (pins++rB fp s5.heap) σ7 H7 s7->N σ7 H7->∃m,m<n/\∃i σ' H',aT X pins σ' H' s7/\tn i s7.heap/\(∀b∈fp,H' b=none)/\W i m σ' H':=λ{σ7 H7} I7 n7=>by
   obtain⟨m',hm,w7⟩:=hN σ7 H7 n7;refine⟨m',hm,i+1,σ7,H7,I7.unpinned,T.keep _ _ _ st5 λb hb o e=>(I7.pin (b,o) (List.mem_append_right _ (List.mem_append_right _ (kb hb e)))).1,λb hb=>?_,w7⟩;obtain⟨o,e,d⟩:=T.obj _ _ st5 b hb;exact(I7.pin (b,o) (List.mem_append_right _ (List.mem_append_right _ (kb hb e)))).2.1
  cases f with
  |next=>obtain⟨σ7,H7,I7,n7⟩:=q7;exact again I7 n7
  |cont=>obtain⟨σ7,H7,I7,n7⟩:=q7;exact again I7 n7
  |brk=>obtain⟨σ7,H7,I7,q7⟩:=q7;exact⟨σ7,H7,I7.unpinned,q7⟩
  |ret v=>obtain⟨x7,σ7,H7,I7,r7,q7⟩:=q7;exact⟨x7,σ7,H7,I7.unpinned,r7,q7⟩
end
abbrev R2:=V->V->Hp->VK->Prop
def kD(X:Cx)(f:Value->Value->Sem Value)(r:R2):Prop:=
 ∀(pins:List (Addr×Obj)) (s:Shared) (σ:St) (H:Hp) (x y:V) (v u:Value) (Q:VK),aT X pins σ H s->cA x v->cA y u->r x y H Q ->
  wpAny (model X.prog X.w) X.A (f v u) (EP X pins σ Q) X.xe s
def fI(X:Cx)(f:Value)(r:List V->Hp->VK->Prop):Prop:=
 ∀(pins:List (Addr×Obj)) (s:Shared) (σ:St) (H:Hp) (xs:List V) (us:List Value) (Q:VK),aT X pins σ H s->bO xs us->r xs H Q ->
  wpAny (model X.prog X.w) X.A (call f us) (EP X pins σ Q) X.xe s
def JR(r:R2)(ta tb:TE):TE:=λσ H Q=>ta σ H λx H1=>tb σ H1 λy H2=>r x y H2 Q
def rI(C:Int->Int->Prop)(g:Int->Int->V):R2:=λx y H Q=>∃i j,x=.int i/\y=.int j/\C i j/\Q (g i j) H
def DT(g:Int->Int->V):R2:=λx y H Q=>∃i j,x=.int i/\y=.int j/\Q (g i j) H
section
variable{X:Cx}{a b c:Expr}{ta tb tc:TE}{pos:Pos}
theorem Gz(ha:PE X a ta)(hb:PE X b tb){pins:List (Addr×Obj)}{s:Shared}{σ:St}{H:Hp}{R:V->V->Hp->Prop}(I:aT X pins σ H s)
  (h:ta σ H λx H1=>tb σ H1 λy H2=>R x y H2) {Q:Value->Shared->Prop} {f:Value->Value->Sem Value}
  (hf:∀v u s2 x y H2,aT X pins σ H2 s2->cA x v->cA y u->R x y H2->wpAny (model X.prog X.w) X.A (f v u) Q X.xe s2) :
  wpAny (model X.prog X.w) X.A (eval a X.env) (λv s₁=>wpAny (model X.prog X.w) X.A (eval b X.env) (λu s₂=>wpAny (model X.prog X.w) X.A (f v u) Q X.xe s₂) X.xe s₁) X.xe s:=by
 refine eR (ha pins s σ H _ I h) λv s1 zq0=>?_
 obtain⟨x,H1,I1,r1,q1⟩:=zq0;refine eR (hb pins s1 σ H1 _ I1 q1) λu s2 zq0=>?_
 obtain⟨y,H2,I2,r2,q2⟩:=zq0;exact hf v u s2 x y H2 I2 r1 r2 q2
theorem F1{op:Operator}{r:R2}(ho:kD X (binaryOp op) r)(ha:PE X a ta)(hb:PE X b tb):PE X (.BinOp a op b pos) (JR r ta tb):=by
 intro pins s σ H Q I h;exact wpAny_BinOp (Gz ha hb I h λv u s2 x y H2 I2 rx ry q=>ho pins s2 σ H2 x y v u Q I2 rx ry q)
theorem K2{f:Value->Value->Sem Value}{C:Int->Int->Prop}{g:Int->Int->Int}
  (rule:∀(i j:Int) (t u:Tok) (s:Shared) (Q:Value->Shared->Prop) (E:Value->Shared->Prop),C i j->Q (.int (g i j) s.toks) { s with toks:=s.toks+1 }->wpAny (model X.prog X.w) X.A (f (.int i t) (.int j u)) Q E s) :
  kD X f (rI C λi j=>.int (g i j)):=by
 intro pins s σ H x y v u Q I rx ry h;obtain⟨i,j,rfl,rfl,hc,q⟩:=h;obtain⟨t,rfl⟩:=rx;obtain⟨t',rfl⟩:=ry;exact rule i j t t' s _ _ hc ⟨.int (g i j),H,I.tok _,⟨_,rfl⟩,q⟩
theorem Jf{f:Value->Value->Sem Value}{g:Int->Int->Int}
  (rule:∀(i j:Int) (t u:Tok) (s:Shared) (Q:Value->Shared->Prop) (E:Value->Shared->Prop),Q (.int (g i j) s.toks) { s with toks:=s.toks+1 }->wpAny (model X.prog X.w) X.A (f (.int i t) (.int j u)) Q E s) :
  kD X f (DT λi j=>.int (g i j)):=by
 intro pins s σ H x y v u Q I rx ry h;obtain⟨i,j,rfl,rfl,q⟩:=h;obtain⟨t,rfl⟩:=rx;obtain⟨t',rfl⟩:=ry;exact rule i j t t' s _ _ ⟨.int (g i j),H,I.tok _,⟨_,rfl⟩,q⟩
theorem Ha{f:Value->Value->Sem Value}{g:Int->Int->Bool}
  (rule:∀(i j:Int) (t u:Tok) (s:Shared) (Q:Value->Shared->Prop) (E:Value->Shared->Prop),Q (.bool (g i j)) s->wpAny (model X.prog X.w) X.A (f (.int i t) (.int j u)) Q E s) :
  kD X f (DT λi j=>.bl (g i j)):=by
 intro pins s σ H x y v u Q I rx ry h;obtain⟨i,j,rfl,rfl,q⟩:=h;obtain⟨t,rfl⟩:=rx;obtain⟨t',rfl⟩:=ry;exact rule i j t t' s _ _ ⟨.bl (g i j),H,I,rfl,q⟩
def Id(i j:Int):Prop:=0<j/\j<1073741824
def DU(i j:Int):Prop:=(-(2 ^ 64)<i/\i<2 ^ 64)\/(-(2 ^ 64)<j/\j<2 ^ 64)
theorem DU.ok{i j:Int}(h:DU i j):IntMulOk i j:=by
 rcases h with⟨h1,h2⟩| ⟨h1,h2⟩
 ·exact .of_left (intBits_le_64 h1 h2)
 ·exact .of_right (intBits_le_64 h1 h2)
theorem Hb:kD X (binaryOp .Add) (DT λi j=>.int (i+j)):=Jf λ_ _ _ _ _ _ _ q=>add_int q
theorem Hg:kD X (binaryOp .Sub) (DT λi j=>.int (i-j)):=Jf λ_ _ _ _ _ _ _ q=>sub_int q
theorem He:kD X (binaryOp .Mult) (rI DU λi j=>.int (i*j)):=K2 λ_ _ _ _ _ _ _ hc q=>mul_int q hc.ok
theorem E3:kD X (binaryOp .FloorDiv) (rI Id λi j=>.int (i / j)):=K2 λi j _ _ _ _ _ hc q=>by
 have h1:(0:Int)<j:=hc.1;have h2:j<1073741824:=hc.2;exact floordiv_int (by omega) (by rw[Int.fdiv_eq_ediv_of_nonneg i (by omega)];exact q) (.inl (PyProof.noPylong_small (by omega)))
theorem Hd:kD X (binaryOp .Mod) (rI (λ_ j=>0<j) λi j=>.int (i%j)):=K2 λi j _ _ _ _ _ hc q=>by
 have h1:(0:Int)<j:=hc;exact mod_int' (by omega) (by rw[Int.fmod_eq_emod_of_nonneg i (by omega)];exact q)
end
section
variable{X:Cx}{a b c:Expr}{ta tb tc:TE}{pos:Pos}
theorem B4{pins:List (Addr×Obj)}{σ:St}{H:Hp}{s:Shared}{Q:VK}{k k':Bool}(I:aT X pins σ H s)(q:Q (.bl k) H)(e:k=k'):EP X pins σ Q (.bool k') s:=by
 subst e;exact⟨.bl k,H,I,rfl,q⟩
theorem Jg:kD X (compareOp .Lt) (DT λi j=>.bl (decide (i<j))):=Ha λ_ _ _ _ _ _ _ q=>lt_int q
theorem zF:kD X (compareOp .LtE) (DT λi j=>.bl (decide (i<=j))):=Ha λ_ _ _ _ _ _ _ q=>le_int q
theorem FX:kD X (compareOp .Gt) (DT λi j=>.bl (decide (j<i))):=Ha λ_ _ _ _ _ _ _ q=>gt_int q
theorem CC:kD X (compareOp .Is) (λx y H Q=>y=.non/\Q (.bl (decide (x=.non))) H):=by
 intro pins s σ H x y v u Q I rx ry h;obtain⟨rfl,q⟩:=h;cases ry;refine is_none_gen (B4 I q ?_);cases x<;>first
  | (cases rx;rfl)
  | (obtain⟨t,rfl⟩:=rx;rfl)
theorem E4:kD X (compareOp .IsNot) (λx y H Q=>y=.non/\Q (.bl (!decide (x=.non))) H):=by
 intro pins s σ H x y v u Q I rx ry h;obtain⟨rfl,q⟩:=h;cases ry;refine isnot_none_gen (B4 I q ?_);cases x<;>first
  | (cases rx;rfl)
  | (obtain⟨t,rfl⟩:=rx;rfl)
theorem kD.or{f:Value->Value->Sem Value}{r r':R2}(h:kD X f r)(h':kD X f r'):kD X f (λx y H Q=>r x y H Q\/r' x y H Q):=by
 intro pins s σ H x y v u Q I rx ry q;rcases q with q|q
 ·exact h pins s σ H x y v u Q I rx ry q
 ·exact h' pins s σ H x y v u Q I rx ry q
theorem jf(b:Expr){op:CmpOp}(h:op≠.In:=by decide)(h2:op≠.NotIn:=by decide):behindInMarks op b=false:=by
 have e1:(op==CmpOp.In)=false:=by cases op<;>first|rfl|exact absurd rfl h
 have e2:(op==CmpOp.NotIn)=false:=by cases op<;>first|rfl|exact absurd rfl h2
 cases b<;>simp[behindInMarks,e1,e2]
theorem E7{op:CmpOp}{r:R2}(ho:kD X (compareOp op) r)(ha:PE X a ta)(hb:PE X b tb)(hm:behindInMarks op b=false):PE X (.Compare a [op] [b] pos) (JR r ta tb):=by
 intro pins s σ H Q I h;exact wpAny_Compare1 (Gz ha hb I h λv u s2 x y H2 I2 rx ry q=>ho pins s2 σ H2 x y v u Q I2 rx ry q) hm
def JT(t:TE):TT:=λσ H Q=>t σ H λx H'=>∃k,x=.bl k/\Q k H'
theorem Fh{op:CmpOp}{r:R2}(ho:kD X (compareOp op) r)(ha:PE X a ta)(hb:PE X b tb)(hm:behindInMarks op b=false):PT X (.Compare a [op] [b] pos) (JT (JR r ta tb)):=by
 intro pins s σ H Q I h;refine wpAny_isTrue_Compare1 (eR (ha pins s σ H _ I h) λv s1 ⟨x,H1,I1,r1,q1⟩=>eR (hb pins s1 σ H1 _ I1 q1) λu s2 ⟨y,H2,I2,r2,q2⟩=>
  eR (ho pins s2 σ H2 x y v u _ I2 r1 r2 q2) λc s3 ⟨z,H3,I3,r3,k,e,q3⟩=>?_) hm
 subst e;cases r3;exact wpAny_truthy_bool ⟨H3,I3,q3⟩
def Dw(r r':R2)(ta tb tc:TE):TE:=λσ H Q=>ta σ H λx H1=>tb σ H1 λy H2=>r x y H2 λz H3=>∃k,z=.bl k /\
 (if k=true then tc σ H3 λw' H4=>r' y w' H4 Q else Q (.bl false) H3)
theorem CJ{op op':CmpOp}{r r':R2}(ho:kD X (compareOp op) r)(ho':kD X (compareOp op') r')(ha:PE X a ta)(hb:PE X b tb)(hc:PE X c tc)
  (hm:lastMarks [op,op'] [b,c]=false:=by with_unfolding_all rfl):PE X (.Compare a [op,op'] [b,c] pos) (Dw r r' ta tb tc):=by
 intro pins s σ H Q I h;refine Compare_chain (eR (ha pins s σ H _ I h) λv s1 ⟨x,H1,I1,r1,q1⟩=>chain_link (eR (hb pins s1 σ H1 _ I1 q1) λu s2 ⟨y,H2,I2,r2,q2⟩=>
  eR (ho pins s2 σ H2 x y v u _ I2 r1 r2 q2) λd s3 ⟨z,H3,I3,r3,k,e,q3⟩=>?_)) hm
 subst e;cases r3;refine wpAny_truthy_bool ?_;cases k with
 |false=>exact ite_ff ⟨.bl false,H3,I3,rfl,q3⟩
 |true=>exact ite_tt (chain_last (eR (hc pins s3 σ H3 _ I3 q3) λw' s4 ⟨z',H4,I4,r4,q4⟩=>ho' pins s4 σ H4 y z' u w' Q I4 r2 r4 q4))
theorem oA:(sizeLine:Nat)<2 ^ 63:=by rw[sizeLine_eq];decide
theorem iY{x:V}{us:List Value}(r:bO [x] us):∃u,us=[u]/\cA x u:=by
 cases r with
 |cons r1 r2=>cases r2;exact⟨_,rfl,r1⟩
theorem wJ{x y:V}{us:List Value}(r:bO [x,y] us):∃u w',us=[u,w']/\cA x u/\cA y w':=by
 cases r with
 |cons r1 r2=>
  cases r2 with
  |cons r3 r4=>cases r4;exact⟨_,_,rfl,r1,r3⟩
theorem Au(hc:X.calm=true):fI X (.builtin "max") (λxs H Q=>∃i j,xs=[.int i,.int j]/\Q (.int (if j>i then j else i)) H):=by
 intro pins s σ H xs us Q I r h;obtain⟨i,j,rfl,q⟩:=h;obtain⟨u,w',rfl,⟨t,rfl⟩,⟨t',rfl⟩⟩:=wJ r;refine max_two_ints (I.ok.hd hc) λh' tk k=>⟨_,H,I.kept k,?_,q⟩
 by_cases hj:j>i
 ·rw[if_pos hj,if_pos hj];exact⟨_,rfl⟩
 ·rw[if_neg hj,if_neg hj];exact⟨_,rfl⟩
theorem Av(hc:X.calm=true):fI X (.builtin "min") (λxs H Q=>∃i j,xs=[.int i,.int j]/\Q (.int (if j<i then j else i)) H):=by
 intro pins s σ H xs us Q I r h;obtain⟨i,j,rfl,q⟩:=h;obtain⟨u,w',rfl,⟨t,rfl⟩,⟨t',rfl⟩⟩:=wJ r;refine min_two_ints (I.ok.hd hc) λh' tk k=>⟨_,H,I.kept k,?_,q⟩
 by_cases hj:j<i
 ·rw[if_pos hj,if_pos hj];exact⟨_,rfl⟩
 ·rw[if_neg hj,if_neg hj];exact⟨_,rfl⟩
theorem As:fI X (.type "int") (λxs H Q=>(∃i,xs=[.int i]/\Q (.int i) H)\/∃k,xs=[.bl k]/\Q (.int (if k then 1 else 0)) H):=by
 intro pins s σ H xs us Q I r h;rcases h with⟨i,rfl,q⟩| ⟨k,rfl,q⟩
 ·obtain⟨u,rfl,t,rfl⟩:=iY r;exact call_int_int ⟨.int i,H,I,⟨_,rfl⟩,q⟩
 ·obtain⟨u,rfl,r1⟩:=iY r;cases r1;exact call_int_bool ⟨.int (if k then 1 else 0),H,I.tok _,⟨_,rfl⟩,q⟩
end
structure Ah(h:Heap)(x dx C:Addr)(mA:Str->Option Value):Prop where
 obj:h.get? x=some (PySem.W.instObj C dx)
 ns:h.Ns1 dx mA
 ne:dx≠x
theorem AS{h:Heap}{dx:Addr}{mA:Str->Option Value}(n:h.Ns1 dx mA):∃od,h.get? dx=some od/\∀name,PySem.W.lookIn name od=some (mA name):=by
 obtain⟨o,es,ep,ho,hd,hk,_,hm⟩:=n;refine⟨o,ho,λname=>?_⟩;have e:=hm name;unfold nsFind findBy at e;rw[<-Array.find?_toList]at e;unfold PySem.W.lookIn;rw[hd];dsimp only;split
 ·rename_i y q;rw[q]at e;exact congrArg some e
 ·rename_i q;rw[q]at e;have a:es.toList.any (·.refKey)=false:=by
   rw[List.any_eq_false];intro y hy;obtain⟨z,t,hkey⟩:=hk y (Array.mem_toList_iff.mp hy);simp[DictEntry.refKey,hkey]
  have a':¬es.toList.any (·.refKey)=true:=by rw[a];exact Bool.false_ne_true
  rw[if_neg a'];exact congrArg some e
theorem Ah.look{h:Heap}{x dx C:Addr}{mA:Str->Option Value}(I:Ah h x dx C mA):∃od,PySem.W.InstAt h x (PySem.W.instObj C dx) C (some od)/\∀name,PySem.W.lookIn name od=some (mA name):=
 let ⟨od,ho,hl⟩:=AS I.ns
 ⟨od,⟨I.obj,rfl,rfl,ho⟩,hl⟩
section
variable{prog:Program}{w:World}{A:Around}{E:Value->Shared->Prop}{s:Shared}{K:PySem.W.Frag}{x dx C f:Addr}{mA:Str->Option Value}{name:Str}{v:Value}
theorem EE{expr:Bool}{Q:Value->Shared->Prop}(X:K.In s.heap)(I:Ah s.heap x dx C mA)(hg:PySem.W.plainGet K C name=true)(hh:PySem.W.hasDictIn K C=true)
  (ha:PySem.W.findIn K (.ref C) name=some none) (hv:mA name=some v) (hv':PySem.W.handedIn v=true) (h:Q v { s with toks:=s.toks+1 }) :
  wpAny (model prog w) A (getAttr (.ref x) name expr) Q E s:=by
 obtain⟨od,J,hl⟩:=I.look;exact PySem.W.get_value X J (PySem.W.plainGet_of hg).1 (PySem.W.findObj_own hh ha rfl (by rw[hl,hv])) hv' h
theorem Fw{ns:List Str}{Q:Unit->Shared->Prop}(X:K.In s.heap)(I:Ah s.heap x dx C mA)
  (hs:PySem.W.findIn K (.ref C) "__setattr__" = some (some (.builtin "object.__setattr__"))) (hp:PySem.W.plainOver K C=true) (ht:PySem.W.takerIn K C name=some none) (hh:PySem.W.hasDictIn K C=true)
  (hw:PySem.Within mA ns) (hsz:ns.length<=sizeLine)
  (h:∀h',Ah h' x dx C (λy=>if y=name then some v else mA y)->Heap.SameBut dx s.heap h'->Q () { s with heap:=h',toks:=s.toks+2 }) :
  wpAny (model prog w) A (setAttr (.ref x) name v) Q E s:=by
 obtain⟨od,J,hl⟩:=I.look;refine PySem.W.set_plain X J hs (PySem.W.osa_open (s:={ s with toks:=s.toks+1 }) (r:=none) X J hp ht λb=>?_);obtain⟨cd,hc,hd'⟩:=PySem.W.any_some hh;have hx:s.heap.get? x=some ⟨.ref C,some dx,.plain,#[]⟩:=I.obj;refine Qb (Qg (Qb (Qb (wpAny_loadPart hx (Qb (PySem.W.Looks.here (s:={ s with toks:=s.toks+1 }) (PySem.W.looks_clsIn X hc) ?_))))));rw[hd'];refine Qg (a:=some dx) (Qb (Qg (Qb ?_)));refine wpAny_nsSet1 (s:={ s with toks:=s.toks+1 }) I.ns λh' hn2 hs2=>?_
 obtain⟨oD,esD,epD,hoD,hdD,hcD⟩:=hn2.count (PySem.Within.cons name v hw);refine Qb (wpAny_lookBehind hoD (by rw[hdD];exact pastItsLine_dict (Nat.le_trans hcD (by rw[List.length_cons];omega))) ?_);exact Qg (h _ ⟨(hs2.2 _ (Ne.symm I.ne)).trans I.obj,hn2,I.ne⟩ hs2)
theorem Cq{R:Result->Shared->Prop}{vs:List Value}{kw:List (Str×Value)}(X:K.In s.heap)(hm:PySem.W.makesIn K C=true)
  (hi:PySem.W.findIn K (.ref C) "__init__" = some (some (.ref f))) (hf:PySem.W.typeIn K (.ref f)=some (.type "function"))
  (h:codeAny (model prog w) (A.under (.builtin "type.__call__" ⟨.ref C::vs,kw⟩)) (.call (.ref f) ⟨.ref (s.heap.objs.size+1)::vs,kw⟩) (PySem.W.InitBack (s.heap.objs.size+1) R)
   { s with heap:=(s.heap.push PySem.W.emptyDict).push (PySem.W.instObj C s.heap.objs.size) }) :
  codeAny (model prog w) A (.call (.ref C) ⟨vs,kw⟩) R s:=by
 obtain⟨hh,g,d,t,os⟩:=s;exact PySem.W.make_core (PySem.W.makes_of X hm) (PySem.W.looks_findIn X hi) (λself=>PySem.W.bind_fn X self hf) (.inl rfl) h
end
def jx(f:Str)(v:V):List (Str×V)->List (Str×V)
 | []=>[(f,v)]
 | (g,x)::r=>if g=f then(g,v)::r else(g,x)::jx f v r
theorem pf(f g:Str)(v:V):∀fs:List (Str×V),(jx f v fs).lookup g=if g=f then some v else fs.lookup g
 | []=>by
  show List.lookup g [(f,v)]=_;by_cases h:g=f
  ·have hb:(g==f)=true:=beq_iff_eq.mpr h;simp only[List.lookup,hb,if_pos h]
  ·have hb:(g==f)=false:=beq_eq_false_iff_ne.mpr h;simp only[List.lookup,hb,if_neg h]
 | (k,x)::r=>by
  have ih:=pf f g v r;rw[show jx f v ((k,x)::r)=(if k=f then(k,v)::r else(k,x)::jx f v r)from rfl];by_cases hk:k=f
  ·rw[if_pos hk];by_cases h:g=k
   ·have hb:(g==k)=true:=beq_iff_eq.mpr h;simp only[List.lookup,hb,if_pos (h.trans hk)]
   ·have hb:(g==k)=false:=beq_eq_false_iff_ne.mpr h;simp only[List.lookup,hb,if_neg (λe:g=f=>h (e.trans hk.symm))]
  ·rw[if_neg hk];by_cases h:g=k
   ·have hb:(g==k)=true:=beq_iff_eq.mpr h;simp only[List.lookup,hb,if_neg (λe:g=f=>hk (h.symm.trans e))]
   ·have hb:(g==k)=false:=beq_eq_false_iff_ne.mpr h;simp only[List.lookup,hb];exact ih
theorem oz(f:Str)(v:V):∀fs:List (Str×V),f∈(jx f v fs).map (·.1)/\∀g,g∈fs.map (·.1)->g∈(jx f v fs).map (·.1)
 | []=>⟨by simp[jx],λg h=>by simp at h⟩
 | (k,x)::r=>by
  obtain⟨i1,i2⟩:=oz f v r;rw[show jx f v ((k,x)::r)=(if k=f then(k,v)::r else(k,x)::jx f v r)from rfl];by_cases hk:k=f
  ·rw[if_pos hk];subst hk;exact⟨by simp,λg h=>by simpa using h⟩
  ·rw[if_neg hk];refine⟨?_,λg h=>?_⟩
   ·rw[List.map_cons];exact Qf _ i1
   ·rw[List.map_cons]at h ⊢;rcases List.mem_cons.mp h with e|e
    ·exact List.mem_cons.mpr (.inl e)
    ·exact Qf _ (i2 g e)
theorem iR(f:Str)(v:V):∀fs:List (Str×V),(jx f v fs).length<=fs.length+1
 | []=>by simp[jx]
 | (k,x)::r=>by
  have ih:=iR f v r;rw[show jx f v ((k,x)::r)=(if k=f then(k,v)::r else(k,x)::jx f v r)from rfl];by_cases hk:k=f
  ·rw[if_pos hk,List.length_cons,List.length_cons];omega
  ·rw[if_neg hk,List.length_cons,List.length_cons];omega
theorem n5.some_of{v:V}{o:Option Value}(r:n5 (some v) o):∃u,o=some u/\cA v u:=by
 cases o with
 |none=>exact(show False from r).elim
 |some u=>exact⟨u,rfl,r⟩
theorem AI{v:V}{u:Value}(r:cA v u):PySem.W.handedIn u=true:=by
 cases v with
 |non=>cases(show u=Value.none from r);rfl
 |bl b=>cases(show u=Value.bool b from r);rfl
 |int i=>obtain⟨t,e⟩:=(show ∃t,u=Value.int i t from r);cases e;rfl
 |str x=>obtain⟨t,e⟩:=(show ∃t,u=Value.str x t from r);cases e;rfl
 |byt b=>obtain⟨t,e⟩:=(show ∃t,u=Value.bytes b t from r);cases e;rfl
 |flt b=>obtain⟨t,e⟩:=(show ∃t,u=Value.float b t from r);cases e;rfl
 |ref a=>cases(show u=Value.ref a from r);rfl
 |ty n=>cases(show u=Value.type n from r);rfl
section
variable{P:Program}{w:World}{H H':Hp}{h h':Heap}{a C dx:Addr}{fs fs':List (Str×V)}
theorem zm(hok:iZ P w H h)(e:H a=some (.ins C dx fs)):∃mA,Ah h a dx C mA/\(∀f,n5 (fs.lookup f) (mA f))/\PySem.Within mA (fs.map (·.1))/\fs.length<=1000/\H dx=some (.own a):=by
 obtain⟨d,z,ne,ob,mA,n,r,q⟩:=(show cD P w H h a (.ins C dx fs)from hok a _ e)
 exact⟨mA,⟨ob,n,ne⟩,r,q,z,d⟩
end
structure Bk(K:PySem.W.Frag)(C:Addr):Prop where
 pg:PySem.W.plainGet K C Str.empty=true
 hd:PySem.W.hasDictIn K C=true
 po:PySem.W.plainOver K C=true
 sa:PySem.W.findIn K (.ref C) "__setattr__" = some (some (.builtin "object.__setattr__"))
theorem Bk.get{K:PySem.W.Frag}{C:Addr}(c:Bk K C)(f:Str):PySem.W.plainGet K C f=true:=c.pg
def fV(K:PySem.W.Frag)(C:Addr)(f:Str):Prop:=PySem.W.findIn K (.ref C) f=some none
theorem fV.taker{K:PySem.W.Frag}{C:Addr}{f:Str}(n:fV K C f):PySem.W.takerIn K C f=some none:=by
 unfold PySem.W.takerIn;rw[show PySem.W.findIn K (.ref C) f=some none from n];rfl
section
variable{X:Cx}{pins:List (Addr×Obj)}{σ:St}{H:Hp}{s:Shared}{a C dx:Addr}{fs:List (Str×V)}{f:Str}{v:V}{A:Around}{E:Value->Shared->Prop}
theorem ym{y:V}{u:Value}{Q:Unit->Shared->Prop}(I:aT X pins σ H s)(e:H a=some (.ins C dx fs))(c:Bk X.K C)(n:fV X.K C f)(hl:fs.length<1000)(ry:cA y u)
  (h:∀s',aT X pins σ (dj H a (.ins C dx (jx f y fs))) s'->Q () s'):wpAny (model X.prog X.w) A (setAttr (.ref a) f u) Q E s:=by
 obtain⟨mA,O,r,wi,_,ho⟩:=zm I.hok e;have hz:(fs.map (·.1)).length<=sizeLine:=by rw[Qd,sizeLine_eq];omega
 refine Fw I.kIn O c.sa c.po n.taker c.hd wi hz λh' O' sb=>h _ ?_
 have hd:∃o,h'.get? dx=some o:=let ⟨o,_,_,e',_⟩:=O'.ns;⟨o,e'⟩
 refine I.write (x:=a) (e:=dx) (by rw[e];exact True.intro) (.inr ho) (λb q hb z=>(sb.2 b hb).trans z) hd ?_;refine⟨by rw[aD O.ne];exact ho,?_,O.ne,O'.obj,_,O'.ns,λg=>?_,λg hg=>?_⟩
 ·have:=iR f y fs;omega
 ·show n5 ((jx f y fs).lookup g) (if g=f then some u else mA g);rw[pf];by_cases q:g=f
  ·rw[if_pos q,if_pos q];exact ry
  ·rw[if_neg q,if_neg q];exact r g
 ·by_cases q:g=f
  ·rw[q];exact(oz f y fs).1
  ·refine(oz f y fs).2 g (wi g λz=>hg ?_);show(if g=f then some u else mA g)=none;rw[if_neg q];exact z
theorem aT.made(I:aT X pins σ H s):aT X pins σ (dj (dj H s.heap.objs.size (.own (s.heap.objs.size+1))) (s.heap.objs.size+1) (.ins C s.heap.objs.size []))
  { s with heap:=(s.heap.push PySem.W.emptyDict).push (PySem.W.instObj C s.heap.objs.size) }:=by
 have e1:(s.heap.push PySem.W.emptyDict).get? s.heap.objs.size=some PySem.W.emptyDict:=Heap.get?_push_size s.heap rfl;have e2:((s.heap.push PySem.W.emptyDict).push (PySem.W.instObj C s.heap.objs.size)).get? (s.heap.objs.size+1)=some (PySem.W.instObj C s.heap.objs.size):=by
  have:=Heap.get?_push_size (s.heap.push PySem.W.emptyDict) (o:=PySem.W.instObj C s.heap.objs.size) rfl
  rwa [Heap.size_push]at this
 have e3:(s.heap.push PySem.W.emptyDict).Ns s.heap.objs.size (λ_=>none):=⟨PySem.W.emptyDict,#[],_,e1,rfl,(λe he=>absurd he (by simp)),λ_=>rfl⟩
 have I1:=I.laid (a:=s.heap.objs.size) (o:=.own (s.heap.objs.size+1)) (h':=s.heap.push PySem.W.emptyDict) (t':=s.toks) (λb u q=>Qe _ q) (Nat.le_refl _) ⟨_,e1⟩;refine I1.laid (a:=s.heap.objs.size+1) (o:=.ins C s.heap.objs.size []) (t':=s.toks) (λb u q=>Qe _ q) (Nat.le_of_eq (Heap.size_push _ _)) ?_;have ne:s.heap.objs.size≠s.heap.objs.size+1:=Nat.ne_of_lt (Nat.lt_succ_self _);refine⟨by rw[aD ne,bh],Nat.zero_le _,ne,e2,λ_=>none,(Heap.Ns1.of_empty e3).at λo q=>Qe _ q,λ_=>True.intro,λy hy=>absurd rfl hy⟩
theorem Ee{prog:Program}{w:World}{env:Env}{e:Expr}{f:Str}{pos:Pos}{s:Shared}{Q:Value->Shared->Prop}(hb:attributeBase e f env (eval e env)=eval e env)
  (h:wpAny (model prog w) A (eval e env) (λo s₁=>wpAny (model prog w) A (getAttr o f true) Q E s₁) E s):wpAny (model prog w) A (eval (.Attribute e f pos) env) Q E s:=
 Attribute_any_ h (by rw[arm_eval_Attribute,hb])
end
def Ld(K:PySem.W.Frag)(ta tv:TE)(f:Str):TS:=λD σ H=>tv σ H λy H1=>ta σ H1 λx H2=>∃a C dx fs,x=.ref a/\H2 a=some (.ins C dx fs)/\Bk K C/\fV K C f/\fs.length<1000 /\
 D.nx σ (dj H2 a (.ins C dx (jx f y fs)))
section
variable{X:Cx}{o e value:Expr}{f:Str}{pos pos' tpos:Pos}{ta tv:TE}
theorem yb(ha:PE X o ta)(hv:PE X value tv)(hs:swapsWith value (some (.Attribute o f pos')) pos.line X.env=pure false):PS X (.Assign [.Attribute o f pos'] value pos) (Ld X.K ta tv f):=by
 intro pins s σ H D I h;refine plainObj_wpAny_Assign_Attribute (eR (hv pins s σ H _ I h) λu s1 ⟨y,H1,I1,ry,q⟩=>eR (ha pins s1 σ H1 _ I1 q) λov s2 zq0=>?_) hs;obtain⟨x,H2,I2,rx,a,C,dx,fs,ex,ea,c,n,l,q2⟩:=zq0;subst ex;obtain rfl:ov=Value.ref a:=rx;exact ym I2 ea c n l ry λs3 I3=>⟨σ,_,I3,q2⟩
end
section
variable{X:Cx}{pins:List (Addr×Obj)}{σ:St}{H:Hp}{s:Shared}{A:Around}{E:Value->Shared->Prop}{Q:Value->Shared->Prop}{c:Value}{b:Bool}
inductive mW(K:PySem.W.Frag)(H:Hp):V->Value->Prop where
 |non:mW K H .non (.type "NoneType")
 |bl (x:Bool):mW K H (.bl x) (.type "bool")
 |int (i:Int):mW K H (.int i) (.type "int")
 |str (x:Str):mW K H (.str x) (.type "str")
 |flt (x:UInt64):mW K H (.flt x) (.type "float")
 |lst {a:Addr} {xs:List V} (e:H a=some (.lst xs)):mW K H (.ref a) (.type "list")
 |frz {a:Addr} {o:Obj} {xs:List V} (e:H a=some (.frz o (.lst xs))):mW K H (.ref a) (.type "list")
 |tup {a:Addr} {xs:List V} (e:H a=some (.tup xs)):mW K H (.ref a) (.type "tuple")
 |dK {a:Addr} {kvs:List (cI×V)} (e:H a=some (.dK kvs)):mW K H (.ref a) (.type "dict")
 |dT {a:Addr} {kvs:List (List cI×V)} (e:H a=some (.dT kvs)):mW K H (.ref a) (.type "dict")
 |ins {a C dx:Addr} {fs:List (Str×V)} (e:H a=some (.ins C dx fs)) (cl:Bk K C) (ha:PySem.W.findIn K (.ref C) "__class__" = some (some (.builtin "object.__class__")))
   (hn:PySem.W.specialIn K (.builtin "object.__class__") "__get__" = some (some (.builtin "getset_descriptor.__get__"))) (htk:PySem.W.takesIn K (.builtin "object.__class__")=some true)
   (hm:PySem.W.mroIn K C (.type "object")=some true):mW K H (.ref a) (.ref C)
theorem AL{x:V}{u t:Value}(I:aT X pins σ H s)(rx:cA x u)(ty:mW X.K H x t)(e:PySem.W.kitOne X.K t c=some b)(h:∀tk,Q (.bool b) { s with toks:=tk }) :
  wpAny (model X.prog X.w) A (call (.builtin "isinstance") [u,c]) Q E s:=by
 cases ty with
 |non=>cases(show u=Value.none from rx);exact PySem.W.kia_one PySem.W.kitx_none I.kIn True.intro e (λz=>nomatch z) h
 |bl y=>cases(show u=Value.bool y from rx);exact PySem.W.kia_one PySem.W.kitx_bool I.kIn True.intro e (λz=>nomatch z) h
 |int i=>obtain⟨t,q⟩:=(show ∃t,u=Value.int i t from rx);cases q;exact PySem.W.kia_one PySem.W.kitx_int I.kIn True.intro e (λz=>nomatch z) h
 |str y=>obtain⟨t,q⟩:=(show ∃t,u=Value.str y t from rx);cases q;exact PySem.W.kia_one PySem.W.kitx_str I.kIn True.intro e (λz=>nomatch z) h
 |flt y=>obtain⟨t,q⟩:=(show ∃t,u=Value.float y t from rx);cases q;exact PySem.W.kia_one PySem.W.kitx_float I.kIn True.intro e (λz=>nomatch z) h
 | @lst a xs ea=>
  cases(show u=Value.ref a from rx);obtain⟨_,_,n,_,h1⟩:=(show cD X.prog X.w H s.heap a (.lst xs)from I.hok a _ ea)
  exact PySem.W.kia_one PySem.W.kitx_list I.kIn ⟨_,h1,rfl⟩ e (λz=>nomatch z) h
 | @frz a ob xs ea=>
  cases(show u=Value.ref a from rx);obtain⟨_,_,_,n,_,h1⟩:=(show cD X.prog X.w H s.heap a (.frz ob (.lst xs))from I.hok a _ ea)
  exact PySem.W.kia_one PySem.W.kitx_list I.kIn ⟨_,h1,rfl⟩ e (λz=>nomatch z) h
 | @tup a xs ea=>
  cases(show u=Value.ref a from rx);obtain⟨_,_,_,p⟩:=(show cD X.prog X.w H s.heap a (.tup xs)from I.hok a _ ea)
  obtain⟨o,h1,h2,_⟩:=p;exact PySem.W.kia_one PySem.W.kitx_tuple I.kIn ⟨o,h1,h2⟩ e (λz=>nomatch z) h
 | @dK a kvs ea=>
  cases(show u=Value.ref a from rx);obtain⟨_,_,vs,_,p⟩:=(show cD X.prog X.w H s.heap a (.dK kvs)from I.hok a _ ea)
  obtain⟨o,es,ep,h1,h2,_⟩:=p;exact PySem.W.kia_one PySem.W.kitx_dict I.kIn ⟨o,h1,h2.1⟩ e (λz=>nomatch z) h
 | @dT a kvs ea=>
  cases(show u=Value.ref a from rx);obtain⟨_,_,xs,_,o,es,ep,h1,h2,_⟩:=(show cD X.prog X.w H s.heap a (.dT kvs)from I.hok a _ ea)
  exact PySem.W.kia_one PySem.W.kitx_dict I.kIn ⟨o,h1,h2.1⟩ e (λz=>nomatch z) h
 | @ins a C dx fs ea cl ha hn htk hm=>
  cases(show u=Value.ref a from rx);obtain⟨mA,O,_⟩:=zm I.hok ea;obtain⟨od,J,_⟩:=O.look;exact PySem.W.kia_one (PySem.W.kitx_own (cl.get _) cl.hd ha hn htk hm) I.kIn J e (λz=>nomatch z) h
end
structure fW(k:Nat)(A:Around):Prop where
 hd:A.handled=none
 dp:A.depth+3*k+5<recursionLimit
 un:A.units+16*k+200<cLine
theorem fW.mono{j k:Nat}{A:Around}(r:fW k A)(h:j<=k):fW j A:=⟨r.hd,by have:=r.dp;omega,by have:=r.un;omega⟩
theorem fW.deeper{k:Nat}{A:Around}(r:fW (k+1) A)(env:Env):fW k (A.deeper env):=
 ⟨r.hd,by have:=r.dp;show A.depth+1+3*k+5<_;omega,by have:=r.un;show A.units+3+16*k+200<_;omega⟩
theorem xT{A:Around}{C:Addr}{us:List Value}{kw:List (Str×Value)}:(A.under (.builtin "type.__call__" ⟨.ref C::us,kw⟩)).depth=A.depth+1:=by
 first|rfl|simp[Around.under,Code.weight,Code.isCreation,Code.isGuard,Code.isCaller,Code.frames,Code.isFrame,guardIds]
theorem xU{A:Around}{C:Addr}{us:List Value}{kw:List (Str×Value)}:(A.under (.builtin "type.__call__" ⟨.ref C::us,kw⟩)).units=A.units+1:=by
 first|rfl|simp[Around.under,Code.cUnits,Code.frames,Code.isFrame]
theorem fW.make{k:Nat}{A:Around}(r:fW (k+1) A)(C:Addr)(us:List Value)(kw:List (Str×Value)):fW k (A.under (.builtin "type.__call__" ⟨.ref C::us,kw⟩)):=
 ⟨r.hd,by have:=r.dp;rw[xT];omega,by have:=r.un;rw[xU];omega⟩
theorem fW.depth{k:Nat}{A:Around}(r:fW k A):A.depth<recursionLimit:=by have:=r.dp;omega
theorem fW.units{k:Nat}{A:Around}(r:fW k A):A.units+64<cLine:=by have:=r.un;omega
def Ll:TA:=λ_ H Q=>Q [] H
def JL(ta:TE)(tr:TA):TA:=λσ H Q=>ta σ H λx H1=>tr σ H1 λxs H2=>Q (x::xs) H2
section
variable{X:Cx}{e:Expr}{es:List Expr}{te:TE}{t:TA}{pos:Pos}
theorem x5:PA X [] Ll:=λ_ _ _ _ H Q I h=>Calls.spliced_nil ⟨[],H,I,.nil,h⟩
theorem nJ(ha:PE X e te)(hr:PA X es t)(hs:starEach (e::es) X.env=(false,eval e X.env)::starEach es X.env:=by rfl):PA X (e::es) (JL te t):=by
 intro pos pins s σ H Q I h;rw[hs];show wpAny _ _ (spliced ((false,eval e X.env)::backTo pos (starEach es X.env))) _ _ s;refine Calls.spliced_cons (eR (ha pins s σ H _ I h) λu s1 zq0=>?_);obtain⟨x,H1,I1,r1,q1⟩:=zq0;exact eR (hr pos pins s1 σ H1 _ I1 q1) λus s2 ⟨xs,H2,I2,r2,q2⟩=>⟨x::xs,H2,I2,.cons r1 r2,q2⟩
def Lq(t:TA):TE:=λσ H Q=>t σ H λxs H1=>xs.length<=sizeLine/\∀p,H1 p=none->Q (.ref p) (dj H1 p (.tup xs))
def Lk(t:TA):TE:=λσ H Q=>t σ H λxs H1=>xs.length<=sizeLine/\∀p,H1 p=none->Q (.ref p) (dj H1 p (.lst xs))
theorem Hu{x1}(h:PA X es t):PE X (.Tuple es x1 pos) (Lq t):=by
 intro pins s σ H Q I hq;refine wpAny_Tuple_spliced (eR (h pos pins s σ H _ I hq) λus s1 ⟨xs,H1,I1,r,z,q⟩=>⟨by rw[<-r.length];exact z,?_⟩);have hf:H1 s1.heap.objs.size=none:=I1.hok.fresh (Nat.le_refl _);refine⟨.ref s1.heap.objs.size,dj H1 s1.heap.objs.size (.tup xs),I1.laid (t':=s1.toks) (λb u e=>Qe _ e) (Nat.le_refl _) ?_,rfl,q _ hf⟩;exact⟨z,us,r,⟨_,Heap.get?_push_size _ rfl,rfl,⟨_,rfl⟩,rfl⟩⟩
theorem Hn(h:PA X es t):PE X (.List es pos) (Lk t):=by
 intro pins s σ H Q I hq;refine wpAny_List_spliced (eR (h pos pins s σ H _ I hq) λus s1 ⟨xs,H1,I1,r,z,q⟩=>⟨by rw[<-r.length];exact z,?_⟩);have hf:H1 s1.heap.objs.size=none:=I1.hok.fresh (Nat.le_refl _);refine⟨.ref s1.heap.objs.size,dj H1 s1.heap.objs.size (.lst xs),I1.laid (t':=s1.toks) (λb u e=>Qe _ e) (Nat.le_refl _) ?_,rfl,q _ hf⟩;exact⟨z,us,0,r,Heap.get?_push_size _ rfl⟩
end
abbrev Sp:=List V->Hp->VK->XK->Prop
abbrev Bj:=List Env->Hp->Shared->XK->Value->Shared->Prop
structure wY(P:Program)(w:World)(K:PySem.W.Frag)(mg:Str->Option Value)(base:Heap)(A:Around)(outer:List Env)(s:Shared)(H:Hp):Prop where
 frames:A.frames=some outer
 mod:Mod K mg base
 bs:∀b o,base.get? b=some o->s.heap.get? b=some o/\H b=none
 bsz:base.objs.size<=s.heap.objs.size
 funs:s.heap.FunFrames base outer
 frf:∀b∈mO outer,H b=none
 hok:iZ P w H s.heap
 bare:AllBare s.gens
def CE(outer:List Env)(P:Program)(w:World)(H:Hp)(s:Shared)(Q:VK)(u:Value)(s':Shared):Prop:=
 ∃v H',s'.os=s.os/\AllBare s'.gens/\Un (mO outer) [] H H' s.heap s'.heap/\iZ P w H' s'.heap/\cA v u/\Q v H'
def CR(CX:Bj)(outer:List Env)(P:Program)(w:World)(H:Hp)(s:Shared)(Q:VK)(E:XK)(r:Result)(s':Shared):Prop:=
 match r with
 |.ok (.ret u)=>CE outer P w H s Q u s'
 |.ok _=>False
 |.error e=>CX outer H s E e s'
structure bc(P:Program)(w:World)(K:PySem.W.Frag)(mg:Str->Option Value)(base:Heap)(CX:Bj)(k:Nat)(f:Addr)(fd:Qh)(ps:List Str)(sp:Sp):Prop where
 len:∀vs H Q E,sp vs H Q E->vs.length=ps.length
 run:∀(A:Around) (outer:List Env) (s:Shared) (H:Hp) (args:Args) (us:List Value) (vs:List V) (Q:VK) (E:XK),fW k A->wY P w K mg base A outer s H->BindsTo s fd args (ps.zip us)->bO vs us->sp vs H Q E ->
  codeAny (model P w) A (.call (.ref f) args) (CR CX outer P w H s Q E) s
theorem bc.mono{P:Program}{w:World}{K:PySem.W.Frag}{mg:Str->Option Value}{base:Heap}{CX:Bj}{j k:Nat}{f:Addr}{fd:Qh}{ps:List Str}{sp:Sp}(F:bc P w K mg base CX j f fd ps sp)(h:j<=k) :
  bc P w K mg base CX k f fd ps sp:=⟨F.len,λA outer s H args us vs Q E hr=>F.run A outer s H args us vs Q E (hr.mono h)⟩
theorem bc.imp{P:Program}{w:World}{K:PySem.W.Frag}{mg:Str->Option Value}{base:Heap}{CX:Bj}{k:Nat}{f:Addr}{fd:Qh}{ps:List Str}{sp sp':Sp}(F:bc P w K mg base CX k f fd ps sp)
  (h:∀vs H Q E,sp' vs H Q E->sp vs H Q E):bc P w K mg base CX k f fd ps sp':=
 ⟨λvs H Q E q=>F.len vs H Q E (h _ _ _ _ q),λA outer s H args us vs Q E hr he hb hv hs=>F.run A outer s H args us vs Q E hr he hb hv (h _ _ _ _ hs)⟩
theorem wY.make{P:Program}{w:World}{K:PySem.W.Frag}{mg:Str->Option Value}{base:Heap}{A:Around}{outer:List Env}{s:Shared}{H:Hp}(e:wY P w K mg base A outer s H)(C:Addr)(us:List Value)(kw:List (Str×Value)) :
  wY P w K mg base (A.under (.builtin "type.__call__" ⟨.ref C::us,kw⟩)) outer s H:=⟨by first|exact e.frames| (simpa[Around.under,Code.envs,Code.isFrame,pushEnvs]using e.frames),e.mod,e.bs,e.bsz,e.funs,e.frf,e.hok,e.bare⟩
section
variable{X:Cx}{pins:List (Addr×Obj)}{σ:St}{H:Hp}{s s':Shared}
theorem aT.env0(I:aT X pins σ H s):wY X.prog X.w X.K X.mg X.base X.A X.stack s H:=
 ⟨I.ok.frames,I.ok.mod,I.bs,Nat.le_trans I.ok.bsz I.sz,I.stack,I.stkFree,I.hok,I.bare⟩
theorem aT.after{Q:VK}{u:Value}(I:aT X pins σ H s)(h:CE X.stack X.prog X.w H s Q u s'):EP X pins σ Q u s':=by
 obtain⟨v,H',os,bare,un,hok,r,q⟩:=h;obtain⟨hh,g,d,t,os'⟩:=s';obtain rfl:os'=s.os:=os;exact⟨v,H',I.call (h':=hh) (g':=g) (d':=d) (t':=t) (ch:=[]) un hok bare (λb z=>absurd z (by simp)),r,q⟩
end
def JK(sp:Sp)(dvs:List V)(E:XK)(t:TA):TE:=λσ H Q=>t σ H λvs H1=>sp (vs++dvs) H1 Q E
def JO(C:Addr)(sp:Sp)(dvs:List V)(E:XK)(t:TA):TE:=λσ H Q=>t σ H λvs H1=>∀x dx,H1 x=none->H1 dx=none->dx≠x ->
 sp (.ref x::(vs++dvs)) (dj (dj H1 dx (.own x)) x (.ins C dx [])) (λv H2=>v=.non/\Q (.ref x) H2) E
def bx(K:PySem.W.Frag)(fd:Qh)(ps:List Str)(ds:List Value):Prop:=
 ∀(s:Shared) (us:List Value),K.In s.heap->(us++ds).length=ps.length->BindsTo s fd ⟨us,[]⟩ (ps.zip (us++ds))
theorem bx.all{K:PySem.W.Frag}{fd:Qh}{ps:List Str}(h:∀us:List Value,us.length=ps.length->bindArgs fd ⟨us,[]⟩=pure (ps.zip us)):bx K fd ps []:=λs us _ hl=>by
 rw[List.append_nil]at hl ⊢;exact .of_eq (h us hl)
def qk(CX:Bj)(X:Cx)(E:XK):Prop:=∀(pins:List (Addr×Obj)) (σ:St) (H:Hp) (s:Shared) (e:Value) (s':Shared),aT X pins σ H s->CX X.stack H s E e s'->X.xe e s'
section
variable{X:Cx}{CX:Bj}{k:Nat}{f C:Addr}{fd:Qh}{ps:List Str}{sp:Sp}{dvs:List V}{ds:List Value}{E:XK}{x m:Str}{p pos apos:Pos}{e o:Expr}{es:List Expr}{ta:TE}{t:TA}
theorem HG{pins:List (Addr×Obj)}{σ:St}{H:Hp}{s:Shared}{Q:VK}{us:List Value}{vs:List V}(F:bc X.prog X.w X.K X.mg X.base CX k f fd ps sp)(hr:fW k X.A)(hb:bx X.K fd ps ds)(hd:bO dvs ds)(hx:qk CX X E)
  (I:aT X pins σ H s) (r:bO vs us) (h:sp (vs++dvs) H Q E):wpAny (model X.prog X.w) X.A (call (.ref f) us) (EP X pins σ Q) X.xe s:=by
 have r2:bO (vs++dvs) (us++ds):=r.append hd;have hl:(us++ds).length=ps.length:=by rw[<-r2.length];exact F.len _ _ _ _ h
 refine wpAny_call (codeAny_mono (F.run X.A X.stack s H ⟨us,[]⟩ (us++ds) (vs++dvs) Q E hr I.env0 (hb s us I.kIn hl) r2 h) λr s' hq=>?_);cases r with
 |error e=>exact hx pins σ H s e s' I hq
 |ok fl=>
  cases fl with
  |ret u=>exact I.after hq
  |next=>exact False.elim hq
  |brk=>exact False.elim hq
  |cont=>exact False.elim hq
theorem zH(F:bc X.prog X.w X.K X.mg X.base CX k f fd ps sp)(hr:fW k X.A)(hg:Gl X x)(hm:X.mg x=some (.ref f))(hk:PySem.W.keepIn X.K (.ref f)=true)(hb:bx X.K fd ps ds)(hd:bO dvs ds)(hx:qk CX X E)
  (ha:PA X (e::es) t) (hdb:(x==("__debug__" : Str))=false:=by decide) (he:starEach (e::es) X.env=(false,eval e X.env)::starEach es X.env:=by rfl) (hpl:(backTo pos (starEach es X.env)).any (·.1)=false:=by rfl) :
  PE X (.Call (.Name x p) (e::es) [] pos) (JK sp dvs E t):=by
 intro pins s σ H Q I h;refine wpAny_Call_Name_kw (nE I hg hm ?_ hdb);refine PySem.W.callWith_K (h₀:=X.base) I.ok.mod.kin hk (eR (ha pos pins s σ H _ I h) λus s1 ⟨vs,H1,I1,r,q⟩=>⟨I1.kIn,?_⟩) he hpl;exact HG F hr hb hd hx I1 r q
structure Mk(K:PySem.W.Frag)(C f:Addr):Prop where
 makes:PySem.W.makesIn K C=true
 init:PySem.W.findIn K (.ref C) "__init__" = some (some (.ref f))
 fn:PySem.W.isFn K (.ref f)=true
 kp:PySem.W.keepIn K (.ref C)=true
theorem Di{pins:List (Addr×Obj)}{σ:St}{H:Hp}{s:Shared}{Q:VK}{us:List Value}{vs:List V}(M:Mk X.K C f)(F:bc X.prog X.w X.K X.mg X.base CX k f fd ps sp)(hr:fW (k+1) X.A)(hb:bx X.K fd ps ds)(hd:bO dvs ds)
  (hx:qk CX X E) (I:aT X pins σ H s) (r:bO vs us)
  (h:∀x dx,H x=none->H dx=none->dx≠x->sp (.ref x::(vs++dvs)) (dj (dj H dx (.own x)) x (.ins C dx [])) (λv H2=>v=.non/\Q (.ref x) H2) E) :
  wpAny (model X.prog X.w) X.A (call (.ref C) us) (EP X pins σ Q) X.xe s:=by
 have hq:=h (s.heap.objs.size+1) s.heap.objs.size (I.hok.fresh (Nat.le_succ _)) (I.hok.fresh (Nat.le_refl _)) (Nat.ne_of_lt (Nat.lt_succ_self _));have I2:=aT.made (C:=C) I;have r2:bO (V.ref (s.heap.objs.size+1)::(vs++dvs)) (Value.ref (s.heap.objs.size+1)::(us++ds)):=.cons rfl (r.append hd);have hl:(Value.ref (s.heap.objs.size+1)::us++ds).length=ps.length:=by
  have e:=r2.length;rw[F.len _ _ _ _ hq]at e;exact e.symm
 refine wpAny_call (Cq (f:=f) I.kIn M.makes M.init (beq_iff_eq.mp M.fn) (codeAny_mono (F.run _ X.stack _ _ ⟨Value.ref (s.heap.objs.size+1)::us,[]⟩ (Value.ref (s.heap.objs.size+1)::(us++ds)) _ _ E (hr.make C us [])
  (I2.env0.make C us []) (hb _ (Value.ref (s.heap.objs.size+1)::us) I2.kIn hl) r2 hq) λr s' hq'=>?_))
 cases r with
 |error e=>exact hx pins σ _ _ e s' I2 hq'
 |ok fl=>
  cases fl with
  |ret u=>
   obtain⟨v,H',I3,rv,ev,q3⟩:=I2.after hq';subst ev;exact⟨rv,⟨V.ref (s.heap.objs.size+1),H',I3,rfl,q3⟩⟩
  |next=>exact False.elim hq'
  |brk=>exact False.elim hq'
  |cont=>exact False.elim hq'
theorem E9(M:Mk X.K C f)(F:bc X.prog X.w X.K X.mg X.base CX k f fd ps sp)(hr:fW (k+1) X.A)(hg:Gl X x)(hm:X.mg x=some (.ref C))(hb:bx X.K fd ps ds)(hd:bO dvs ds)(hx:qk CX X E)
  (ha:PA X (e::es) t) (hdb:(x==("__debug__" : Str))=false:=by decide) (he:starEach (e::es) X.env=(false,eval e X.env)::starEach es X.env:=by rfl) (hpl:(backTo pos (starEach es X.env)).any (·.1)=false:=by rfl) :
  PE X (.Call (.Name x p) (e::es) [] pos) (JO C sp dvs E t):=by
 intro pins s σ H Q I h;refine wpAny_Call_Name_kw (nE I hg hm ?_ hdb);refine PySem.W.callWith_K (h₀:=X.base) I.ok.mod.kin M.kp (eR (ha pos pins s σ H _ I h) λus s1 ⟨vs,H1,I1,r,q⟩=>⟨I1.kIn,?_⟩) he hpl;exact Di M F hr hb hd hx I1 r q
end
structure aR(N P:List Str)(sc:Scope):Prop where
 kind:sc.kind=.function
 co:sc.isCoroutine=false
 gen:sc.isGenerator=false
 nd:N.Nodup
 pre:N.take P.length=P
 par:∀x∈P,sc.names.lookup x=some .local\/sc.names.lookup x=some .cell
 nofree:∀y∈sc.names,y.2≠.free
theorem sQ{kindOf:Str->Option NameKind}{x:Str}:∀{binds:List (Str×Value)} {m:Str->Option Value},(∀v,(x,v)∉binds)->bindL kindOf binds m x=m x
 | [],_,_=>rfl
 | (n,v)::r,m,h=>by
  unfold bindL;rw[sQ λw hw=>h w (Qf _ hw)];split
  ·have:x≠n:=by rintro rfl;exact h v List.mem_cons_self
   simp[this]
  ·rfl
theorem sO{kindOf:Str->Option NameKind}{x:Str}:∀{binds:List (Str×Value)} {m:Str->Option Value},(∀v,(x,v)∉binds)->bindC kindOf binds m x=m x
 | [],_,_=>rfl
 | (n,v)::r,m,h=>by
  unfold bindC;rw[sO λw hw=>h w (Qf _ hw)];split
  ·rfl
  ·have:x≠n:=by rintro rfl;exact h v List.mem_cons_self
   simp[this]
theorem sP{kindOf:Str->Option NameKind}{x:Str}{v:Value}:∀{P:List Str} {vs:List Value} {i:Nat} {m:Str->Option Value},P.Nodup->P[i]?=some x->vs[i]?=some v->kindOf x=some .local ->
  bindL kindOf (P.zip vs) m x=some v
 | [],_,_,_,_,h,_,_=>by simp at h
 | _::_,[],_,_,_,_,h,_=>by simp at h
 |p::P,w::vs,0,m,nd,h1,h2,hk=>by
  simp at h1 h2;subst h1;subst h2;show bindL kindOf ((p,w)::P.zip vs) m p=_;unfold bindL;rw[sQ λv hv=>(List.nodup_cons.mp nd).1 (List.of_mem_zip hv).1,if_pos hk];simp
 |p::P,w::vs,i+1,m,nd,h1,h2,hk=>by
  show bindL kindOf ((p,w)::P.zip vs) m x=_;unfold bindL;exact sP (i:=i) (List.nodup_cons.mp nd).2 (by simpa using h1) (by simpa using h2) hk
theorem sN{kindOf:Str->Option NameKind}{x:Str}{v:Value}:∀{P:List Str} {vs:List Value} {i:Nat} {m:Str->Option Value},P.Nodup->P[i]?=some x->vs[i]?=some v->kindOf x≠some .local ->
  bindC kindOf (P.zip vs) m x=some v
 | [],_,_,_,_,h,_,_=>by simp at h
 | _::_,[],_,_,_,_,h,_=>by simp at h
 |p::P,w::vs,0,m,nd,h1,h2,hk=>by
  simp at h1 h2;subst h1;subst h2;show bindC kindOf ((p,w)::P.zip vs) m p=_;unfold bindC;rw[sO λv hv=>(List.nodup_cons.mp nd).1 (List.of_mem_zip hv).1,if_neg hk];simp
 |p::P,w::vs,i+1,m,nd,h1,h2,hk=>by
  show bindC kindOf ((p,w)::P.zip vs) m x=_;unfold bindC;exact sN (i:=i) (List.nodup_cons.mp nd).2 (by simpa using h1) (by simpa using h2) hk
def kC(N:List Str)(vs:List V):St:=vs.map some++Qi (N.length-vs.length) none
def gK(CX:Bj)(P:Program)(w:World)(K:PySem.W.Frag)(mg:Str->Option Value)(base:Heap)(N:List Str)(qual:Str)(scope:Scope)(f:Addr)(cd:Value)(A:Around)(outer:List Env)(s:Shared)(H:Hp)(E:XK):Cx where
 prog:=P
 w:=w
 K:=K
 mg:=mg
 base:=base
 A:=A.deeper (envOfC qual scope s.heap.objs.size f cd)
 N:=N
 s₀:=s
 H₀:=H
 env:=envOfC qual scope s.heap.objs.size f cd
 outer:=outer
 stack:=envOfC qual scope s.heap.objs.size f cd::outer
 ex:=[]
 calm:=true
 fn:=λ_=>true
 pn:=[]
 xe:=λe s'=>wpAny (model P w) (A.deeper (envOfC qual scope s.heap.objs.size f cd)) (leaving (envOfC qual scope s.heap.objs.size f cd) e) (λ_ s''=>CX outer H s E e s'') (λe' s''=>CX outer H s E e' s'') s'
theorem vN{sc:Scope}{n:Nat}{x:Str}(h:sc.names.lookup x=some .cell):∃c,(cellsFrom n sc.names []).lookup x=some c:=by
 have q:=PySem.W.cellsFrom_some sc.names n [] (.inl h);exact Option.isSome_iff_exists.mp q
theorem AK{CX:Bj}{P:Program}{w:World}{K:PySem.W.Frag}{mg:Str->Option Value}{base:Heap}{N ps:List Str}{qual:Str}{scope:Scope}{f:Addr}{cd:Value}{A:Around}{outer:List Env}{s s1:Shared}{H:Hp}{E:XK}{us:List Value}{vs:List V}
  (S:aR N ps scope) (hd:A.handled=none) (e0:wY P w K mg base A outer s H) (hl:vs.length=ps.length) (r:bO vs us)
  (x:InCallC s s.heap.objs.size (bindL (envOfC qual scope s.heap.objs.size f cd).kindOf (ps.zip us) λ_=>none) (cellsFrom (s.heap.objs.size+1) scope.names []) (bindC (envOfC qual scope s.heap.objs.size f cd).kindOf (ps.zip us) λ_=>none) s1) :
  aT (gK CX P w K mg base N qual scope f cd A outer s H E) [] (kC N vs) H s1:=by
 have hpl:ps.length<=N.length:=by have:=congrArg List.length S.pre;rw[List.length_take]at this;omega
 obtain⟨h1,tk,rfl,hk⟩:=x.done;have noA:∀b:Addr,b∉(gK CX P w K mg base N qual scope f cd A outer s H E).ex:=λb z=>absurd (show b∈([]:List Addr)from z) (by simp)
 refine⟨⟨e0.mod,S.kind,rfl,rfl,Nat.le_refl _,λy z c h1 h2=>?_,λy hy=>?_,λy c _ h=>?_,λ_=>hd,Around.frames_deeper e0.frames,.inr ⟨rfl,rfl⟩,λb z=>absurd z (noA b),e0.bs,e0.bsz,λb _ _=>noA b,λb z=>absurd z (noA b),e0.funs,e0.frf⟩,
  rfl,e0.bare,Un.kept hk,⟨_,x.toInCall.ns,λi y v h1 h2 h3=>?_⟩,λy c h=>⟨_,x.cell y c h⟩,e0.hok.fresh (Nat.le_refl _),λy c h=>?_,λp hp=>absurd (show p∈([]:List (Addr×Obj))from hp) (by simp),e0.hok.kept hk,?_⟩
 ·exact name_of_addr x.apart (PySem.mem_of_lookup h1) (PySem.mem_of_lookup h2)
 ·have hy:scope.names.lookup y=some .cell\/scope.names.lookup y=some .free:=hy;rcases hy with hy|hy
  ·exact vN hy
  ·exact absurd rfl (S.nofree _ (PySem.mem_of_lookup hy))
 ·exact Nat.le_of_lt (x.above y c (PySem.mem_of_lookup h))
 ·have hi:i<vs.length:=by
   unfold kC at h2;by_cases hi:i<vs.length
   ·exact hi
   ·rw[List.getElem?_append_right (by simpa using hi)]at h2;rw[List.getElem?_replicate]at h2;split at h2<;>cases h2
  have ha:vs[i]?=some v:=by
   unfold kC at h2;rw[List.getElem?_append_left (by simpa using hi),List.getElem?_map]at h2;cases e:vs[i]? with
   |none=>rw[e]at h2;cases h2
   |some a=>rw[e]at h2;cases h2;rfl
  obtain⟨u,hu,rv⟩:=r.get ha;have hp:ps[i]?=some y:=by
   rw[<-S.pre,List.getElem?_take_of_lt (by omega)];exact h1
  have ndP:ps.Nodup:=by rw[<-S.pre];exact S.nd.sublist (List.take_sublist _ _)
  refine⟨u,rv,?_⟩;rcases S.par y (List.mem_of_getElem? hp)with k|k
  ·exact .inl ⟨k,sP ndP hp hu k⟩
  ·obtain⟨c,e⟩:=vN (n:=s.heap.objs.size+1) k;refine .inr ⟨.inl k,c,e,?_⟩;have q:=x.cell y c e;rw[sN ndP hp hu (by show scope.names.lookup y≠_;rw[k];decide)]at q;exact q
 ·exact e0.hok.fresh (Nat.le_of_lt (x.above y c (PySem.mem_of_lookup h)))
 ·unfold kC;show _=N.length;rw[List.length_append,Qd,List.length_replicate];omega
theorem zd{CX:Bj}{P:Program}{w:World}{K:PySem.W.Frag}{mg:Str->Option Value}{base:Heap}{k:Nat}{f:Addr}{name qual:Str}{params:Arguments}{body:List Stmt}{scope:Scope}{dV kV doc pm cdv ct oc:Value}{an od:Option Addr}
  {osl:Array (Option Value)} {N ps:List Str} {sp:Sp} (lk:K.lookup f=some ⟨oc,od,.func (PySem.W.fnOf name qual params body scope dV kV doc pm an cdv ct),osl⟩) (hcd:PySem.W.codeIn K cdv qual=true) (S:aR N ps scope)
  (len:∀vs H Q E,sp vs H Q E->vs.length=ps.length)
  (hbody:∀(A:Around) (outer:List Env) (s:Shared) (H:Hp) (vs:List V) (Q:VK) (E:XK),fW k (A.deeper (envOfC qual scope s.heap.objs.size f cdv))->sp vs H Q E ->
   ∃t,rT (gK CX P w K mg base N qual scope f cdv A outer s H E) body t/\t { nx:=λ_ H'=>Q .non H',rt:=Q } (kC N vs) H) :
  bc P w K mg base CX (k+1) f (PySem.W.fnOf name qual params body scope dV kV doc pm an cdv ct) ps sp:=by
 refine⟨len,λA outer s H args us vs Q E hr e0 hb r hsp=>?_⟩;have hl:=len _ _ _ _ hsp;have KX:K.In s.heap:=e0.mod.kin.keeps λb o e=>(e0.bs b o e).1
 have lim:s.heap.NoLimit:=e0.mod.nolimit.keeps λb o e=>(e0.bs b o e).1
 have hkind:∀y∈ps.zip us,scope.names.lookup y.1=some .local\/(scope.names.lookup y.1=some .cell/\((cellsFrom (s.heap.objs.size+1) scope.names []).lookup y.1).isSome=true):=λ⟨n,v⟩ hy=>by
  rcases S.par n (List.of_mem_zip hy).1 with q|q
  ·exact .inl q
  ·exact .inr ⟨q,PySem.W.cellsFrom_some _ _ _ (.inl q)⟩
 refine codeAny_call_function hr.depth (KX _ _ lk) rfl S.co S.gen rfl (PySem.W.codeRec_of KX hcd) (hb _ _ _ _ ?_);refine wpAny_newFunctionEnv_cells S.kind hkind λenv he s1 x=>?_
 subst he;refine⟨lim.keeps x.toInCall.keep,codeAny_func ?_⟩;obtain⟨t,ht,hq⟩:=hbody A outer s H vs Q E (hr.deeper _) hsp;have I:aT (gK CX P w K mg base N qual scope f cdv A outer s H E) [] (kC N vs) H s1:=AK S hr.hd e0 hl r x;refine wpAny_mono (ht [] s1 (kC N vs) H _ I hq) (λfl s' hs=>?_) λe s' hs=>hs
 have fin:∀{σ':St} {H':Hp} {v:V} {u:Value},aT (gK CX P w K mg base N qual scope f cdv A outer s H E) [] σ' H' s'->cA v u->Q v H'->CE outer P w H s Q u s':=
  λ{σ' H' v u} J rv q=>⟨v,H',J.os,J.bare,J.base,J.hok,rv,q⟩
 cases fl with
 |ret u=>
  obtain⟨v,σ',H',J,rv,q⟩:=hs;exact fin J rv q
 |next=>
  obtain⟨σ',H',J,q⟩:=hs;exact fin (v:=V.non) (u:=Value.none) J rfl q
 |brk=>
  obtain⟨_,_,_,q⟩:=hs;exact False.elim q
 |cont=>
  obtain⟨_,_,_,q⟩:=hs;exact False.elim q
section
variable{X:Cx}{x:Str}{p pos:Pos}{e:Expr}{es:List Expr}{t:TA}{id T:String}{r:List V->Hp->VK->Prop}
def Lh(r:List V->Hp->VK->Prop)(t:TA):TE:=λσ H Q=>t σ H λvs H1=>r vs H1 Q
theorem nK(hc:fI X (.builtin id) r)(hg:Gl X x)(hm:X.mg x=none)(hv:bootBuiltins x=some (.builtin id))(ha:PA X (e::es) t)(hn:x ≠ "__name__" := by decide)(hdb:(x==("__debug__" : Str))=false:=by decide)
  (he:starEach (e::es) X.env=(false,eval e X.env)::starEach es X.env:=by rfl) (hpl:(backTo pos (starEach es X.env)).any (·.1)=false:=by rfl):PE X (.Call (.Name x p) (e::es) [] pos) (Lh r t):=by
 intro pins s σ H Q I h;refine wpAny_Call_Name_kw (j8 I hg hm hv ?_ hn hdb);exact PyProof.Rows.callWith_builtin1 (eR (ha pos pins s σ H _ I h) λus s1 ⟨vs,H1,I1,r1,q1⟩=>hc pins s1 σ H1 vs us Q I1 r1 q1) he hpl
theorem AV(hc:fI X (.type T) r)(hg:Gl X x)(hm:X.mg x=none)(hv:bootBuiltins x=some (.type T))(ha:PA X (e::es) t)(hn:x ≠ "__name__" := by decide)(hdb:(x==("__debug__" : Str))=false:=by decide)
  (he:starEach (e::es) X.env=(false,eval e X.env)::starEach es X.env:=by rfl) (hpl:(backTo pos (starEach es X.env)).any (·.1)=false:=by rfl):PE X (.Call (.Name x p) (e::es) [] pos) (Lh r t):=by
 intro pins s σ H Q I h;refine wpAny_Call_Name_kw (j8 I hg hm hv ?_ hn hdb);exact PyProof.Rows.callWith_type1 (eR (ha pos pins s σ H _ I h) λus s1 ⟨vs,H1,I1,r1,q1⟩=>hc pins s1 σ H1 vs us Q I1 r1 q1) he hpl
end
end L2
namespace HT
open PySem PyProof.Rows
section
open PySem.SeqAt
open PySem.AutoSeq1 (wpAny_loadPart')
open PySem.MeetsSeq PySem.MeetsSeq2 PySem.MeetsSeq3
end
section
variable{prog:Program}{w:World}{A:Around}{E:Value->Shared->Prop}{s:Shared}
theorem cat_tup{t b:Addr}{vs ws:List Value}{Q:Value->Shared->Prop}(ht:IsTup s.heap t vs.toArray)(hb:IsTup s.heap b ws.toArray)(hv:vs≠[])
  (h1:ws=[]->Q (.ref t) s) (h2:ws≠[]->Q (.ref s.heap.objs.size) { s with heap:=s.heap.push { cls:=.type "tuple",data:=.seq (vs++ws).toArray } })
  (hsz:vs.length+ws.length<=sizeLine):wpAny (model prog w) A (binaryOp .Add (.ref t) (.ref b)) Q E s:=by
 obtain⟨⟨cls,dd,data,sl⟩,ho,hc,n,hd⟩:=id ht;obtain⟨⟨cls2,dd2,data2,sl2⟩,ho2,hc2,n2,hd2⟩:=id hb;simp only at hc hd hc2 hd2;subst hc hd hc2 hd2;have e:vs.toArray++ws.toArray=(vs++ws).toArray:=by simp
 by_cases hw:ws=[]
 ·exact concat_meets ⟨_,ho,rfl⟩ ⟨_,ho2,rfl⟩ noFill_tuple_add seq_tuple_add PySem.F.slot_tuple_add PySem.F.entry_tuple_add (PySem.F.args_tuple_add_2 _ _)
   (tuple_addW1 t b vs.toArray ws.toArray n n2 dd dd2 sl sl2 (by simpa using hv) (by simp[hw])) ⟨ho,ho2,h1 hw⟩
 ·refine concat_meets ⟨_,ho,rfl⟩ ⟨_,ho2,rfl⟩ noFill_tuple_add seq_tuple_add PySem.F.slot_tuple_add PySem.F.entry_tuple_add (PySem.F.args_tuple_add_2 _ _)
   (tuple_addW2 t b vs.toArray ws.toArray n n2 dd dd2 sl sl2 (by simpa using hv) (by simpa using hw) (by rw[List.size_toArray,List.size_toArray];exact hsz)) ⟨ho,ho2,?_⟩
  rw[e];exact h2 hw
def sIx(n d:Nat):Option Int->Nat
 |none=>d
 |some v=>if v<0 then(v+(n:Int)).toNat else min v.toNat n
theorem sIx_nat(n d k:Nat):sIx n d (some (k:Int))=min k n:=by
 show(if(k:Int)<0 then((k:Int)+(n:Int)).toNat else min (k:Int).toNat n)=min k n;rw[if_neg (by omega),Int.toNat_natCast]
theorem HJ(n d:Nat)(hd:d<=n)(o:Option Int):sIx n d o<=n:=by
 cases o with
 |none=>exact hd
 |some v=>
  show(if v<0 then(v+(n:Int)).toNat else min v.toNat n)<=n;by_cases hv:v<0
  ·rw[if_pos hv];omega
  ·rw[if_neg hv];exact Nat.min_le_right _ _
theorem yW(v:Int)(n d:Nat):(if v<0 then max (v+(n:Int)) 0 else min v (n:Int))=((sIx n d (some v):Nat):Int):=by
 show(if v<0 then max (v+(n:Int)) 0 else min v (n:Int))=(((if v<0 then(v+(n:Int)).toNat else min v.toNat n):Nat):Int)
 by_cases hv:v<0
 ·simp only[if_pos hv];omega
 ·simp only[if_neg hv];omega
theorem xl(lo hi:Option Int)(n:Nat):Builtin.Slice.sliceAdjust lo hi 1 (n:Int)=(((sIx n 0 lo:Nat):Int),((sIx n n hi:Nat):Int)):=by
 have h1:¬((1:Int)<0):=by omega
 unfold Builtin.Slice.sliceAdjust;simp only[h1,if_false];refine Prod.ext ?_ ?_
 ·cases lo with
  |none=>rfl
  |some v=>exact yW v n 0
 ·cases hi with
  |none=>rfl
  |some v=>exact yW v n n
theorem x9(i j:Nat):Builtin.Slice.slicePlaces (i:Int) (j:Int) 1=j-i:=by
 unfold Builtin.Slice.slicePlaces;have h1:(1:Int)>0:=by omega
 simp only[h1,if_true,Int.ediv_one];split<;>omega
theorem rH{v:Value}{o:Option Int}{Q:Option Int->Shared->Prop}(p:IsPart v o)(h:Q o s):wpAny (model prog w) A (Builtin.Slice.slicePartIndex v) Q E s:=by
 cases p with
 |none=>exact slicePart_none h
 |int i t=>exact slicePart_int h
theorem sliceApplied_gen{sl:Addr}{vl vu:Value}{lo hi:Option Int}{n:Nat}{Q:Int×Int×Nat->Shared->Prop}(hs:s.heap.IsSliceOf sl vl vu .none)(pl:IsPart vl lo)(pu:IsPart vu hi)
  (h:Q (((sIx n 0 lo:Nat):Int),1,sIx n n hi-sIx n 0 lo) s):wpAny (model prog w) A (Builtin.Slice.sliceApplied (.ref sl) (pure (n:Int))) Q E s:=by
 obtain⟨os,hos,hcs,hds⟩:=id hs;unfold Builtin.Slice.sliceApplied Builtin.Slice.sliceFields;refine Qb (Qb (wpAny_field hos hds (x:=vl) rfl (Qb (wpAny_field hos hds (x:=vu) rfl (Qb (wpAny_field hos hds (x:=.none) rfl (Qg ?_)))))));refine Qb (slicePart_none ?_);show wpAny _ _ (if((1:Int)==0)=true then _ else _) _ _ s;rw[if_neg (by decide)];refine Qb (rH pl (Qb (rH pu (Qb (Qg ?_)))));show wpAny _ _ (match Builtin.Slice.sliceAdjust lo hi 1 (n:Int)with| (lo,hi)=>pure (lo,(1:Int),Builtin.Slice.slicePlaces lo hi 1)) _ _ s;rw[xl lo hi n];show wpAny _ _ (pure (((sIx n 0 lo:Nat):Int),(1:Int),Builtin.Slice.slicePlaces ((sIx n 0 lo:Nat):Int) ((sIx n n hi:Nat):Int) 1)) _ _ s;rw[x9];exact Qg h
theorem CP(xs:Array Value)(i k:Nat):((List.range k).filterMap λ(m:Nat)=>xs[((i:Int)+(m:Int)*1).toNat]?).toArray=((xs.toList.drop i).take k).toArray:=by
 have e:(λ(m:Nat)=>xs[((i:Int)+(m:Int)*1).toNat]?)=λm=>xs[i+m]?:=by
  funext m;have:((i:Int)+(m:Int)*1).toNat=i+m:=by omega
  rw[this]
 rw[e];have:=pick_run xs i k;rw[List.filterMap_map]at this;have e2:((λx=>xs[x]?)∘λx=>i+x)=λm=>xs[i+m]?:=rfl
 rw[e2]at this;rw[this]
theorem getItem_tuple_cut{t sl:Addr}{items:Array Value}{vl vu:Value}{lo hi:Option Int}{Q:Value->Shared->Prop}(ht:IsTup s.heap t items)(hs:s.heap.IsSliceOf sl vl vu .none)(pl:IsPart vl lo)(pu:IsPart vu hi)
  (hw:¬(sIx items.size 0 lo=0/\sIx items.size items.size hi=items.size))
  (h:Q (.ref s.heap.objs.size) { s with heap:=s.heap.push { cls:=.type "tuple",data:=.seq ((items.toList.drop (sIx items.size 0 lo)).take (sIx items.size items.size hi-sIx items.size 0 lo)).toArray } })
  (hsz:items.size<=sizeLine):wpAny (model prog w) A (getItem (.ref t) (.ref sl)) Q E s:=by
 have htake:sizeOk (.seq ((items.toList.drop (sIx items.size 0 lo)).take (sIx items.size items.size hi-sIx items.size 0 lo)).toArray):=by
  show((items.toList.drop (sIx items.size 0 lo)).take (sIx items.size items.size hi-sIx items.size 0 lo)).toArray.size<=sizeLine;rw[List.size_toArray,List.length_take,List.length_drop,Array.length_toList];exact Nat.le_trans (Nat.min_le_right _ _) (Nat.le_trans (Nat.sub_le _ _) hsz)
 have hj:sIx items.size items.size hi<=items.size:=HJ _ _ (Nat.le_refl _) hi;obtain⟨os,hos,hcs,hds⟩:=id hs;have hTs:s.TypeIs (.ref sl) "slice" := ⟨os,hos,hcs⟩
 unfold getItem
 try with_reducible refine wpAny_holding ?_
 first|refine Qb (Qg ?_)|skip
 refine Qb (wpAny_sequenceKey ht.typeIs (by decide) ?_);refine Qb (wpAny_callSpecial?_slot (name:=Str.ofString "__getitem__") ht.typeIs PyProof.Rows.slot_tuple_getitem
  (wpAny_call_entry PyProof.Rows.slot_tuple_getitem ht.typeIs entry_tuple_getitem ?_ (args_tuple_getitem _ _)))
 show wpAny _ _ (Builtin.Tuple.tupleItemsOf (.ref t)>>=_) _ _ s;refine Qb (tupleItemsOf_ ht ?_);refine Qb (wpAny_typeOf hTs ?_);rw[if_pos (by decide)];refine Qb (sliceApplied_gen hs pl pu ?_);have hno:¬((((sIx items.size 0 lo:Nat):Int)==0&&(1:Int)==1&&(sIx items.size items.size hi-sIx items.size 0 lo)==items.size)=true):=by
  intro q;rw[Bool.and_eq_true,Bool.and_eq_true]at q;have q1:((sIx items.size 0 lo:Nat):Int)=0:=eq_of_beq q.1.1;have q2:sIx items.size items.size hi-sIx items.size 0 lo=items.size:=eq_of_beq q.2;exact hw ⟨by omega,by omega⟩
 show wpAny _ _ (if(((sIx items.size 0 lo:Nat):Int)==0&&(1:Int)==1&&(sIx items.size items.size hi-sIx items.size 0 lo)==items.size)=true then _ else _) _ _ s;rw[if_neg hno,CP]
 first
  |exact Qb (m:=Builtin.Tuple.tupleExact _) (wpAny_newObj_type (Qg ⟨_,rfl,Qg h⟩) htake)
  |exact Qb (m:=Builtin.Tuple.tupleExact _) (wpAny_newObj_type (Qb (Qg (Qg ⟨_,rfl,Qg h⟩))) htake)
  |exact Qb (Qb (m:=Builtin.Tuple.tupleExact _) (wpAny_newObj_type (Qg (Qg ⟨_,rfl,Qg h⟩)) htake))
  |exact Qb (Qb (m:=Builtin.Tuple.tupleExact _) (wpAny_newObj_type (Qg ⟨_,rfl,Qg h⟩) htake))
end
end HT
namespace L2
open PySem PySem.Spec PyProof.Rows
abbrev TO:=St->Hp->(Option Int->Hp->Prop)->Prop
def PO(X:Cx)(e:Option Expr)(t:TO):Prop:=
 ∀(pins:List (Addr×Obj)) (s:Shared) (σ:St) (H:Hp) (Q:Option Int->Hp->Prop),aT X pins σ H s->t σ H Q ->
  wpAny (model X.prog X.w) X.A (evalPart e X.env) (λu s'=>∃o H',aT X pins σ H' s'/\IsPart u o/\Q o H') X.xe s
def JS(t:TE):TO:=λσ H Q=>t σ H λx H1=>∃i,x=.int i/\Q (some i) H1
theorem xN{ns:List Int}:∀{us:List Value},bO (ns.map V.int) us->IntsAre us ns:=by
 induction ns with
 |nil=>intro us r;rw[List.map_nil]at r;cases r;exact .nil
 |cons n ns ih=>
  intro us r;rw[List.map_cons]at r;cases r with
  |cons r1 r2=>
   obtain⟨t,e⟩:=r1;subst e;exact .cons n t (ih r2)
section
variable{X:Cx}{e:Expr}{te:TE}{lo hi:Option Expr}{tl th:TO}{pos p2:Pos}
theorem Ff(h:PE X e te):PO X (some e) (JS te):=by
 intro pins s σ H Q I hw;rw[evalPart_some];refine eR (h pins s σ H _ I hw) λu s1 zq0=>?_
 obtain⟨x,H1,I1,r1,q1⟩:=zq0;obtain⟨i,rfl,q⟩:=q1;obtain⟨t,rfl⟩:=r1;exact⟨some i,H1,I1,.int i t,q⟩
def D6(X:Cx)(r:V->Option Int->Option Int->Hp->VK->Prop):Prop:=
 ∀(pins:List (Addr×Obj)) (s:Shared) (σ:St) (H:Hp) (x:V) (v vl vu:Value) (lo hi:Option Int) (sl:Addr) (Q:VK),aT X pins σ H s->cA x v->s.heap.IsSliceOf sl vl vu .none->IsPart vl lo->IsPart vu hi->r x lo hi H Q ->
  ∃T id,typeLookup (.type T) "__getitem__" = pure (some (.builtin id))/\s.TypeIs v T/\wpAny (model X.prog X.w) X.A (getItem v (.ref sl)) (EP X pins σ Q) X.xe s
theorem D6.or{r r':V->Option Int->Option Int->Hp->VK->Prop}(h:D6 X r)(h':D6 X r'):D6 X (λx lo hi H Q=>r x lo hi H Q\/r' x lo hi H Q):=by
 intro pins s σ H x v vl vu lo hi sl Q I rx hs pl pu q;rcases q with q|q
 ·exact h pins s σ H x v vl vu lo hi sl Q I rx hs pl pu q
 ·exact h' pins s σ H x v vl vu lo hi sl Q I rx hs pl pu q
def LY(r:V->Option Int->Option Int->Hp->VK->Prop)(te:TE)(tl th:TO):TE:=λσ H Q=>te σ H λx H1=>tl σ H1 λl H2=>th σ H2 λu H3=>r x l u H3 Q
theorem CN{r:V->Option Int->Option Int->Hp->VK->Prop}(hr:D6 X r)(he:PE X e te)(hl:PO X lo tl)(hu:PO X hi th):PE X (.Subscript e (.Slice lo hi none p2) pos) (LY r te tl th):=by
 intro pins s σ H Q I h;refine Subscript_ (eR (he pins s σ H _ I h) λv s1 zq0=>?_);obtain⟨x,H1,I1,r1,q1⟩:=zq0;refine wpAny_Slice (eR (hl pins s1 σ H1 _ I1 q1) λvl s2 ⟨l,H2,I2,pl,q2⟩=>eR (hu pins s2 σ H2 _ I2 q2) λvu s3 zq0=>?_);obtain⟨u,H3,I3,pu,q3⟩:=zq0;rw[evalPart_none];refine Qg ?_;have I4:aT X pins σ H3 { s3 with heap:=s3.heap.push { cls:=.type "slice",data:=.fields #[vl,vu,.none] } }:=I3.kept (t':=s3.toks) λb ob q=>Qe _ q
 obtain⟨T,id,hT,ht,hg⟩:=hr pins { s3 with heap:=s3.heap.push { cls:=.type "slice",data:=.fields #[vl,vu,.none] } } σ H3 x v vl vu l u s3.heap.objs.size Q I4 r1 (Heap.IsSliceOf.new ..) pl pu q3;show wpAny (model X.prog X.w) X.A (subscriptTail e (.Slice lo hi none p2) v (.ref s3.heap.objs.size)) (EP X pins σ Q) X.xe { s3 with heap:=s3.heap.push { cls:=.type "slice",data:=.fields #[vl,vu,.none] } };exact tail_any (ops:=[.ref s3.heap.objs.size,v]) ht hT hg (by with_unfolding_all rfl)
def vP(xs:List V)(lo hi:Option Int):List V:=(xs.drop (HT.sIx xs.length 0 lo)).take (HT.sIx xs.length xs.length hi-HT.sIx xs.length 0 lo)
theorem oY(xs:List V)(lo hi:Option Int):(vP xs lo hi).length<=xs.length:=by
 unfold vP;rw[List.length_take,List.length_drop];omega
def K9(K:PySem.W.Frag):V->Option Int->Option Int->Hp->VK->Prop:=λx lo hi H Q=>∃a xs,x=.ref a/\jQ K H a xs /\
 ¬(HT.sIx xs.length 0 lo=0/\HT.sIx xs.length xs.length hi=xs.length)/\∀p,H p=none->Q (.ref p) (dj H p (.tup (vP xs lo hi)))
theorem HL:D6 X (K9 X.K):=by
 intro pins s σ H x v vl vu lo hi sl Q I rx hs pl pu h;obtain⟨a,xs,rfl,hx,hw,q⟩:=h;cases rx;obtain⟨its,r,ht,hz⟩:=I.tuple hx;have hlen:its.toArray.size=xs.length:=by rw[List.size_toArray];exact r.length.symm
 refine⟨"tuple",_,PyProof.Rows.slot_tuple_getitem.lookup,ht.typeIs,?_⟩;refine HT.getItem_tuple_cut ht hs pl pu (by rw[hlen];exact hw) ?_ (by rw[hlen];exact hz);rw[hlen];refine⟨.ref s.heap.objs.size,_,I.laid (t':=s.toks) (o:=.tup (vP xs lo hi)) (λb ob q=>Qe _ q) (Nat.le_refl _) ?_,rfl,q _ (I.hok.fresh (Nat.le_refl _))⟩;exact⟨Nat.le_trans (oY xs lo hi) hz,_,(r.drop (HT.sIx xs.length 0 lo)).take (HT.sIx xs.length xs.length hi-HT.sIx xs.length 0 lo),iF.new _ _⟩
def F3(K:PySem.W.Frag):R2:=λx y H Q=>∃a b xs ys,x=.ref a/\y=.ref b/\jQ K H a xs/\jQ K H b ys/\xs≠[]/\xs.length+ys.length<=sizeLine /\
 (ys=[]->Q (.ref a) H)/\(ys≠[]->∀p,H p=none->Q (.ref p) (dj H p (.tup (xs++ys))))
theorem bO.nil_iff{xs:List V}{us:List Value}(r:bO xs us):us=[]<->xs=[]:=by
 cases r with
 |nil=>simp
 |cons _ _=>simp
theorem E2:kD X (binaryOp .Add) (F3 X.K):=by
 intro pins s σ H x y v u Q I rx ry h;obtain⟨a,b,xs,ys,rfl,rfl,ha,hb,hx,hz,q1,q2⟩:=h;cases rx;cases ry;obtain⟨its,r1,p1,_⟩:=I.tuple ha;obtain⟨its2,r2,p2,_⟩:=I.tuple hb;refine HT.cat_tup p1 p2 (λz=>hx (r1.nil_iff.mp z)) (λz=>⟨.ref a,H,I,rfl,q1 (r2.nil_iff.mp z)⟩) (λz=>?_) (by rw[<-r1.length,<-r2.length];exact hz);refine⟨.ref s.heap.objs.size,_,I.laid (t':=s.toks) (o:=.tup (xs++ys)) (λb ob q=>Qe _ q) (Nat.le_refl _) ?_,rfl,q2 (λw=>z (r2.nil_iff.mpr w)) _ (I.hok.fresh (Nat.le_refl _))⟩;exact⟨by rw[List.length_append];exact hz,_,r1.append r2,iF.new _ _⟩
end
def zo(n:Nat)(i:Int):Option Nat:=if 0<=i then(if i<n then some i.toNat else none)else if -(n:Int)<=i then some (i+n).toNat else none
def atI{α:Type}(xs:List α)(i:Int):Option α:=(zo xs.length i).bind λj=>xs[j]?
theorem zp{n:Nat}{i:Int}{j:Nat}(h:zo n i=some j):seqIndex? i n=some j/\j<n/\-(n:Int)<=i/\i<n:=by
 unfold zo at h;by_cases h0:0<=i
 ·rw[if_pos h0]at h;by_cases h1:i<n
  ·rw[if_pos h1]at h;have e:i.toNat=j:=Option.some.inj h;exact⟨by rw[seqIndex_of h0 h1,e],by omega,by omega,h1⟩
  ·rw[if_neg h1]at h;cases h
 ·rw[if_neg h0]at h;by_cases h1:-(n:Int)<=i
  ·rw[if_pos h1]at h;have e:(i+n).toNat=j:=Option.some.inj h;exact⟨by rw[seqIndex_neg (by omega) h1,e],by omega,h1,by omega⟩
  ·rw[if_neg h1]at h;cases h
theorem ut{α:Type}{xs:List α}{i:Int}{v:α}(h:atI xs i=some v):∃j,seqIndex? i xs.length=some j/\xs[j]?=some v/\j<xs.length/\-(xs.length:Int)<=i/\i<xs.length:=by
 unfold atI at h;cases e:zo xs.length i with
 |none=>rw[e]at h;cases h
 |some j=>
  rw[e]at h;obtain⟨h1,h2,h3,h4⟩:=zp e;exact⟨j,h1,h,h2,h3,h4⟩
theorem uu{α:Type}{xs:List α}{j:Nat}{v:α}(h:xs[j]?=some v):atI xs (j:Int)=some v:=by
 have hj:j<xs.length:=(List.getElem?_eq_some_iff.mp h).1;have e:zo xs.length (j:Int)=some j:=by
  unfold zo;rw[if_pos (by omega),if_pos (by omega)];simp
 unfold atI;rw[e];exact h
def yF(b:Expr):Prop:=∀o i,subscripted b false o i=operate [o,i] (getItem o i)
def D0(X:Cx)(r:R2):Prop:=
 ∀(value slice:Expr) (pins:List (Addr×Obj)) (s:Shared) (σ:St) (H:Hp) (x y:V) (v u:Value) (Q:VK),aT X pins σ H s->cA x v->cA y u->r x y H Q ->
  subscripted slice false v u=operate [v,u] (getItem v u)->wpAny (model X.prog X.w) X.A (subscriptTail value slice v u) (EP X pins σ Q) X.xe s
def Ly(X:Cx)(id:String)(r:V->List V->Hp->VK->Prop):Prop:=
 ∀(pins:List (Addr×Obj)) (s:Shared) (σ:St) (H:Hp) (x:V) (xs:List V) (v:Value) (us:List Value) (Q:VK),aT X pins σ H s->cA x v->bO xs us->r x xs H Q ->
  wpAny (model X.prog X.w) X.A (call (.builtin id) (v::us)) (EP X pins σ Q) X.xe s
section
variable{X:Cx}{a b:Expr}{ta tb:TE}{pos:Pos}
theorem D0.or{r r':R2}(h:D0 X r)(h':D0 X r'):D0 X (λx y H Q=>r x y H Q\/r' x y H Q):=by
 intro value slice pins s σ H x y v u Q I rx ry q hs;rcases q with q|q
 ·exact h value slice pins s σ H x y v u Q I rx ry q hs
 ·exact h' value slice pins s σ H x y v u Q I rx ry q hs
theorem Jk{r:R2}(hr:D0 X r)(ha:PE X a ta)(hb:PE X b tb)(hs:yF b):PE X (.Subscript a b pos) (JR r ta tb):=by
 intro pins s σ H Q I h;exact Subscript_ (Gz ha hb I h λv u s2 x y H2 I2 rx ry q=>hr a b pins s2 σ H2 x y v u Q I2 rx ry q (hs _ _))
def Jq(K:PySem.W.Frag):R2:=λx y H Q=>∃p xs i v,x=.ref p/\y=.int i/\pX K H p xs/\atI xs i=some v/\Q v H
def Js(K:PySem.W.Frag):R2:=λx y H Q=>∃p xs i v,x=.ref p/\y=.int i/\jQ K H p xs/\atI xs i=some v/\Q v H
def Jr:R2:=λx y H Q=>∃z i c,x=.str z/\y=.int i/\z.length<=sizeLine/\atI z.cps.toList i=some c/\Q (.str ⟨#[c]⟩) H
theorem EN:D0 X (Jq X.K):=by
 intro value slice pins s σ H x y v u Q I rx ry h hs;obtain⟨p,xs,i,z,rfl,rfl,hq,he,q⟩:=h;cases rx;obtain⟨t,rfl⟩:=ry;obtain⟨its,r,pl,hz⟩:=I.list hq;obtain⟨j,h1,h2,h3,h4,h5⟩:=ut he;obtain⟨w,ew,rw'⟩:=r.get h2;have hl:=r.length;have hn:=oA;have fin:EP X pins σ Q w s:=⟨z,H,I,rw',q⟩
 by_cases h0:0<=i
 ·have hj:i.toNat=j:=by
   rw[seqIndex_of h0 h5]at h1;exact Option.some.inj h1
  exact item_listR pl.isList h0 (by omega) (by rw[hj];simpa using ew) fin hs
 ·have hj:(i+(its.toArray.size:Int)).toNat=j:=by
   rw[seqIndex_neg (by omega) h4]at h1;rw[List.size_toArray,<-hl];exact Option.some.inj h1
  exact subscriptTail_builtinR (x:=w) pl.isList.typeIs slot_list_getitem.lookup
   (wpAny_getItem_list_neg (Q:=λr s'=>r=w/\EP X pins σ Q r s') pl.isList (by omega) (by rw[List.size_toArray]<;>omega) (by omega) (by rw[hj];simpa using ew) ⟨rfl,fin⟩) hs
theorem GX:D0 X (Js X.K):=by
 intro value slice pins s σ H x y v u Q I rx ry h hs;obtain⟨p,xs,i,z,rfl,rfl,hq,he,q⟩:=h;cases rx;obtain⟨t,rfl⟩:=ry;obtain⟨its,r,pl,hz⟩:=I.tuple hq;obtain⟨j,h1,h2,h3,h4,h5⟩:=ut he;obtain⟨w,ew,rw'⟩:=r.get h2;have hl:=r.length;have hn:=oA;have fin:EP X pins σ Q w s:=⟨z,H,I,rw',q⟩
 exact subscriptTail_builtinR (x:=w) pl.typeIs slot_tuple_getitem.lookup
  (getItem_tuple (j:=j) (Q:=λr s'=>r=w/\EP X pins σ Q r s') pl (by omega) (by omega) (by rw[List.size_toArray,<-hl];exact h1) (by simpa using ew) ⟨rfl,fin⟩) hs
theorem GW:D0 X Jr:=by
 intro value slice pins s σ H x y v u Q I rx ry h hs;obtain⟨z,i,c,rfl,rfl,hz,he,q⟩:=h;obtain⟨t,rfl⟩:=rx;obtain⟨t',rfl⟩:=ry;obtain⟨j,h1,h2,h3,h4,h5⟩:=ut he;have hl:z.cps.toList.length=z.length:=by simp[Str.length]
 rw[hl]at h1 h4 h5;have hn:=oA;exact tail_any (typeIs_str s z t) slot_str_getitem.lookup (getItem_str (c:=c) (by
  have e1:decide (i < -(2 ^ 63:Int))=false:=decide_eq_false (by omega);have e2:decide (i>=2 ^ 63)=false:=decide_eq_false (by omega);rw[e1,e2,Bool.or_false]) (by rw[h1];simpa using h2) ⟨.str ⟨#[c]⟩,H,I.tok _,⟨_,rfl⟩,q⟩) hs
theorem xV(its:List Value)(n j:Nat)(u:Value):Obj.mapSeq (·.setIfInBounds j u) { cls:=.type "list",data:=.seq its.toArray n }={ cls:=.type "list",data:=.seq (its.set j u).toArray n }:=by
 simp[Obj.mapSeq]
theorem aT.lst{pins:List (Addr×Obj)}{σ:St}{H:Hp}{s:Shared}{p:Addr}{xs:List V}(I:aT X pins σ H s)(h:H p=some (.lst xs)) :
  ∃(its:List Value) (n:Nat),bO xs its/\s.heap.get? p=some { cls:=.type "list",data:=.seq its.toArray n }/\xs.length<=sizeLine:=by
 obtain⟨z,its,n,r,e⟩:=I.hok p _ h;exact⟨its,n,r,e,z⟩
theorem aT.lstUpd{pins:List (Addr×Obj)}{σ:St}{H:Hp}{s:Shared}{p:Addr}{xs ys:List V}{its its':List Value}{n n':Nat}{f:Obj->Obj}(I:aT X pins σ H s)(h:H p=some (.lst xs))
  (ho:s.heap.get? p=some { cls:=.type "list",data:=.seq its.toArray n }) (hf:f { cls:=.type "list",data:=.seq its.toArray n }={ cls:=.type "list",data:=.seq its'.toArray n' }) (r:bO ys its') (hz:ys.length<=sizeLine) (t:Nat) :
  aT X pins σ (dj H p (.lst ys)) { s with heap:=s.heap.update p f,toks:=t }:=by
 have e:(s.heap.update p f).get? p=some { cls:=.type "list",data:=.seq its'.toArray n' }:=by
  rw[Heap.get?_update_self f ho (by rw[hf]<;>rfl),hf]
 refine I.write (x:=p) (e:=p) (by rw[h];trivial) (.inl rfl) (λb u hb q=>(Heap.get?_update_other _ _ (Ne.symm hb)).trans q) ⟨_,e⟩ ?_;exact⟨hz,its',n',r,e⟩
def Ju:V->V->V->Hp->(Hp->Prop)->Prop:=λo i v H Q=>∃p xs k j,o=.ref p/\i=.int k/\H p=some (.lst xs)/\zo xs.length k=some j/\Q (dj H p (.lst (xs.set j v)))
theorem Dj:Il X Ju:=by
 intro pins s σ H o i v ov iv u Q I ro ri rv h;obtain⟨p,xs,k,j,rfl,rfl,hp,hj,q⟩:=h;cases ro;obtain⟨t,rfl⟩:=ri;obtain⟨its,n,r,ho,hz⟩:=I.lst hp;obtain⟨h1,h2,h3,h4⟩:=zp hj;have hl:=r.length;have hn:=oA;have I':aT X pins σ (dj H p (.lst (xs.set j v))) { s with heap:=s.heap.update p (Obj.mapSeq (·.setIfInBounds j u)) }:=
  I.lstUpd hp ho (xV its n j u) (r.set rv j) (by rw[List.length_set];exact hz) s.toks
 by_cases h0:0<=k
 ·have hk:k.toNat=j:=by
   rw[seqIndex_of h0 h4]at h1;exact Option.some.inj h1
  exact PySem.W.ki_setAt ho h0 (by omega) (by rw[List.size_toArray,<-hl];exact h4) (by rw[hk];exact⟨_,I',q⟩)
 ·have hk:(k+(its.toArray.size:Int)).toNat=j:=by
   rw[seqIndex_neg (by omega) h3]at h1;rw[List.size_toArray,<-hl];exact Option.some.inj h1
  exact PySem.W.ki_setBack ho (by omega) (by rw[List.size_toArray,<-hl];exact h3) (by omega) (by rw[hk];exact⟨_,I',q⟩)
theorem u5(lo hi:Option Int)(n:Nat):(sliceBounds lo hi none n).1=((HT.sIx n 0 lo:Nat):Int)/\(sliceBounds lo hi none n).2.1=((HT.sIx n n hi:Nat):Int)/\(sliceBounds lo hi none n).2.2=1:=by
 refine⟨?_,?_,rfl⟩
 ·cases lo with
  |none=>simp[sliceBounds,HT.sIx]
  |some i=>
   simp only[sliceBounds,HT.sIx,Option.getD_none,show(1:Int)>0 by decide,if_true];by_cases h:i<0
   ·simp only[h,if_true]<;>omega
   ·simp only[h,if_false]<;>omega
 ·cases hi with
  |none=>simp[sliceBounds,HT.sIx]
  |some i=>
   simp only[sliceBounds,HT.sIx,Option.getD_none,show(1:Int)>0 by decide,if_true];by_cases h:i<0
   ·simp only[h,if_true]<;>omega
   ·simp only[h,if_false]<;>omega
theorem sB(its:List Value)(lo hi:Option Int):slicePick its.toArray lo hi none=((its.drop (HT.sIx its.length 0 lo)).take (HT.sIx its.length its.length hi-HT.sIx its.length 0 lo)).toArray:=by
 obtain⟨h1,h2,h3⟩:=u5 lo hi its.toArray.size;unfold slicePick;rw[h1,h2,h3];simp only[sliceRange_one,pick_run,List.size_toArray]<;>rfl
def K8(K:PySem.W.Frag):V->Option Int->Option Int->Hp->VK->Prop:=λx lo hi H Q=>∃a xs,x=.ref a/\pX K H a xs/\∀p,H p=none->Q (.ref p) (dj H p (.lst (vP xs lo hi)))
theorem Fy:D6 X (K8 X.K):=by
 intro pins s σ H x v vl vu lo hi sl Q I rx hs pl pu h;obtain⟨a,xs,rfl,hx,q⟩:=h;cases rx;obtain⟨its,r,ht,hz⟩:=I.list hx;have hlen:=r.length;refine⟨"list",_,slot_list_getitem.lookup,ht.isList.typeIs,?_⟩;refine wpAny_getItem_list_slice ht.isList hs pl pu .none (by simp) ?_ (by rw[List.size_toArray]<;>omega);rw[sB,<-hlen];refine⟨.ref s.heap.objs.size,_,I.laid (t':=s.toks) (o:=.lst (vP xs lo hi)) (λb ob q=>Qe _ q) (Nat.le_refl _) ?_,rfl,q _ (I.hok.fresh (Nat.le_refl _))⟩;exact⟨Nat.le_trans (oY xs lo hi) hz,_,0,(r.drop (HT.sIx xs.length 0 lo)).take (HT.sIx xs.length xs.length hi-HT.sIx xs.length 0 lo),Heap.get?_push_size _ rfl⟩
theorem uB:fI X (.builtin "len") (λxs H Q=>∃p ys,xs=[.ref p]/\(pX X.K H p ys\/jQ X.K H p ys)/\Q (.int ys.length) H):=by
 intro pins s σ H xs us Q I r h;obtain⟨p,ys,rfl,hq,q⟩:=h;obtain⟨u,rfl,rx⟩:=iY r;cases rx;have hn:=oA;rcases hq with hq|hq
 ·obtain⟨its,r',pl,hz⟩:=I.list hq;have hlen:=r'.length;exact Calls.call_len_list pl.isList (by simp only[List.size_toArray]<;>omega) ⟨.int ys.length,H,I.tok _,⟨s.toks+1,by rw[List.size_toArray,hlen]⟩,q⟩
 ·obtain⟨its,r',pl,hz⟩:=I.tuple hq;have hlen:=r'.length;exact len_tuple pl (by simp only[List.size_toArray]<;>omega) ⟨.int ys.length,H,I.tok _,⟨s.toks+1,by rw[List.size_toArray,hlen]⟩,q⟩
theorem uC:fI X (.builtin "len") (λxs H Q=>∃z,xs=[.str z]/\z.length<=sizeLine/\Q (.int z.length) H):=by
 intro pins s σ H xs us Q I r h;obtain⟨z,rfl,hz,q⟩:=h;obtain⟨u,rfl,t,rfl⟩:=iY r;have hn:=oA;exact len_str (by omega) ⟨.int z.length,H,I.tok _,⟨_,rfl⟩,q⟩
theorem fI.or{f:Value}{r r':List V->Hp->VK->Prop}(h:fI X f r)(h':fI X f r'):fI X f (λxs H Q=>r xs H Q\/r' xs H Q):=by
 intro pins s σ H xs us Q I rs q;rcases q with q|q
 ·exact h pins s σ H xs us Q I rs q
 ·exact h' pins s σ H xs us Q I rs q
theorem uD:fI X (.type "list") (λxs H Q=>∃p ys,xs=[.ref p]/\(pX X.K H p ys\/jQ X.K H p ys)/\∀l,H l=none->Q (.ref l) (dj H l (.lst ys))):=by
 intro pins s σ H xs us Q I r h;obtain⟨p,ys,rfl,hq,q⟩:=h;obtain⟨u,rfl,rx⟩:=iY r;cases rx;have fin:∀(its:List Value),bO ys its->ys.length<=sizeLine->∀(h':Heap) (c':Nat),(∀b o',s.heap.get? b=some o'->h'.get? b=some o') ->
   h'.get? s.heap.objs.size=some { cls:=.type "list",dict:=none,data:=.seq its.toArray c',slots:=#[] }->EP X pins σ Q (.ref s.heap.objs.size) { s with heap:=h' }:=λits r' hz h' c' kp e=>
  ⟨.ref s.heap.objs.size,_,I.laid (t':=s.toks) kp (Nat.le_refl _) (show cD X.prog X.w _ h' _ (.lst ys)from⟨hz,its,c',r',e⟩),rfl,q _ (I.hok.fresh (Nat.le_refl _))⟩
 rcases hq with hq|hq
 ·obtain⟨its,r',pl,hz⟩:=I.list hq;have hlen:=r'.length;obtain⟨o,ho,hc,n,hd⟩:=pl.isList;exact call_list_seq p (.inl rfl) ho hc hd (λh' c' kp e=>fin its r' hz h' c' kp e) (by simp only[List.size_toArray]<;>omega)
 ·obtain⟨its,r',pl,hz⟩:=I.tuple hq;have hlen:=r'.length;obtain⟨o,ho,hc,n,hd⟩:=pl;exact call_list_seq p (.inr rfl) ho hc hd (λh' c' kp e=>fin its r' hz h' c' kp e) (by simp only[List.size_toArray]<;>omega)
theorem sk:fI X (.type "tuple") (λxs H Q=>∃p ys,xs=[.ref p]/\((pX X.K H p ys/\∀l,H l=none->Q (.ref l) (dj H l (.tup ys)))\/(jQ X.K H p ys/\Q (.ref p) H))):=by
 intro pins s σ H xs us Q I r h;obtain⟨p,ys,rfl,h⟩:=h;obtain⟨u,rfl,rx⟩:=iY r;cases rx;rcases h with⟨hq,q⟩| ⟨hq,q⟩
 ·obtain⟨its,r',pl,hz⟩:=I.list hq;have hlen:=r'.length;refine call_tuple_list pl.isList (λh' kp=>?_) (by simp only[List.size_toArray]<;>omega);have I1:aT X pins σ H { s with heap:=h' }:=I.kept (t':=s.toks) kp;have I2:aT X pins σ (dj H h'.objs.size (.tup ys)) { s with heap:=h'.push { cls:=.type "tuple",data:=.seq its.toArray } }:=
   I1.laid (t':=s.toks) (λb o e=>Qe _ e) (Nat.le_refl _) (show cD X.prog X.w _ _ _ (.tup ys)from⟨hz,its,r',iF.new _ _⟩)
  exact⟨.ref h'.objs.size,_,I2,rfl,q _ (I1.hok.fresh (Nat.le_refl _))⟩
 ·obtain⟨its,r',pl,hz⟩:=I.tuple hq;exact call_tuple_same pl ⟨.ref p,H,I,rfl,q⟩
def Ls(K:PySem.W.Frag)(T:String)(x:V)(H:Hp):Prop:=match x with
 |.str _=>T = "str"
 |.int _=>T = "int"
 |.ref p=>(T = "list" /\ ∃xs,pX K H p xs)\/(T = "tuple" /\ ((∃o,K.lookup p=some o/\o.cls=.type "tuple" /\ o.dict=none)\/∃xs,H p=some (.tup xs))) \/
   (T = "dict" /\ ((∃kvs,H p=some (.dK kvs))\/∃kvs,H p=some (.dT kvs)))\/(T = "set" /\ ∃S n,H p=some (.set S n))
 | _=>False
theorem DD{pins:List (Addr×Obj)}{σ:St}{H:Hp}{s:Shared}{T:String}{x:V}{v:Value}(I:aT X pins σ H s)(r:cA x v)(ty:Ls X.K T x H) :
  s.TypeIs v T/\∀a,v=.ref a->∃ob,s.heap.get? a=some ob/\ob.dict=none:=by
 cases x with
 |str z=>
  obtain⟨t,rfl⟩:=r;cases(show T = "str" from ty);exact⟨typeIs_str s z t,λ_ e=>nomatch e⟩
 |int i=>
  obtain⟨t,rfl⟩:=r;cases(show T = "int" from ty);exact⟨typeIs_int s i t,λ_ e=>nomatch e⟩
 |ref p=>
  cases r;rcases ty with⟨rfl,xs,hq⟩| ⟨rfl,⟨o,hk,hc,hd⟩| ⟨xs,hk⟩⟩| ⟨rfl,hk⟩| ⟨rfl,S,n,hk⟩
  ·obtain⟨its,_,pl,_⟩:=I.list hq;refine⟨pl.isList.typeIs,λa e=>?_⟩;cases e;obtain⟨o,n,e,c,hd,_⟩:=pl;exact⟨o,e,hd⟩
  ·refine⟨⟨o,I.kIn p o hk,hc⟩,λa e=>?_⟩;cases e;exact⟨o,I.kIn _ o hk,hd⟩
  ·obtain⟨_,_,_,o,e1,e2,_,e3⟩:=(show cD X.prog X.w H s.heap p (.tup xs)from I.hok p _ hk)
   refine⟨⟨o,e1,e2⟩,λa e=>?_⟩;cases e;exact⟨o,e1,e3⟩
  ·have z:∃o,s.heap.get? p=some o/\o.ExactDict:=by
    rcases hk with⟨kvs,hk⟩| ⟨kvs,hk⟩
    ·obtain⟨_,_,_,_,o,_,_,e,ex,_⟩:=I.hok p _ hk;exact⟨o,e,ex⟩
    ·obtain⟨_,_,_,_,o,_,_,e,ex,_⟩:=I.hok p _ hk;exact⟨o,e,ex⟩
   obtain⟨o,e,ex⟩:=z;refine⟨⟨o,e,ex.1⟩,λa e2=>?_⟩;cases e2;exact⟨o,e,ex.2.1⟩
  ·obtain⟨o,_,_,_,e,ex,_⟩:=I.hok p _ hk;refine⟨⟨o,e,ex.1⟩,λa e2=>?_⟩;cases e2;exact⟨o,e,ex.2.1⟩
 | _=>exact False.elim ty
def Lg(K:PySem.W.Frag)(T:String)(r:V->List V->Hp->VK->Prop)(to:TE):TE:=λσ H Q=>to σ H λx H1=>Ls K T x H1/\r x [] H1 Q
def LV(K:PySem.W.Frag)(T:String)(r:V->List V->Hp->VK->Prop)(to:TE)(t:TA):TE:=λσ H Q=>to σ H λx H1=>Ls K T x H1/\t σ H1 λxs H2=>r x xs H2 Q
variable{o e:Expr}{es:List Expr}{to:TE}{t:TA}{name:Str}{apos cpos:Pos}{T id:String}{r:V->List V->Hp->VK->Prop}
theorem Hk(pa:PlainAttrs T)(slot:Slot T name id)(hty:typeOf (.builtin id)=pure (.type "method_descriptor"))(hm:Ly X id r)(ho:PE X o to)
  (hbase:attributeBase o name X.env (eval o X.env)=eval o X.env:=by rfl) (hline:(apos.endLine==cpos.line)=true:=by rfl):PE X (.Call (.Attribute o name apos) [] [] cpos) (Lg X.K T r to):=by
 intro pins s σ H Q I h;refine wpAny_Call_method0_late hbase hline (eR (ho pins s σ H _ I h) λv s1 zq0=>?_);obtain⟨x,H1,I1,r1,ty,q1⟩:=zq0;obtain⟨h1,h2⟩:=DD I1 r1 ty;exact⟨T,id,pa,slot,hty,h1,h2,Calls.callWith_builtin rfl (PySem.evalArgs_none (hm pins s1 σ H1 x [] v [] Q I1 r1 .nil q1))⟩
theorem FZ(pa:PlainAttrs T)(slot:Slot T name id)(hty:typeOf (.builtin id)=pure (.type "method_descriptor"))(hm:Ly X id r)(ho:PE X o to)(ha:PA X (e::es) t)
  (hbase:attributeBase o name X.env (eval o X.env)=eval o X.env:=by rfl)
  (hfew:((backTo cpos (starEach (e::es) X.env)).all (λx=>!x.1)&&(backToKw cpos (keywordEach [] X.env)).all (λx=>x.1.isSome)
   && decide ((e::es).length+([]:List Keyword).length+(if([]:List Keyword).isEmpty then 0 else 1)<30))=true:=by rfl)
  (hline:(apos.endLine==cpos.line)=true:=by rfl) (hs:starEach (e::es) X.env=(false,eval e X.env)::starEach es X.env:=by rfl) (hplain:(backTo cpos (starEach es X.env)).any (·.1)=false:=by rfl) :
  PE X (.Call (.Attribute o name apos) (e::es) [] cpos) (LV X.K T r to t):=by
 intro pins s σ H Q I h;refine wpAny_Call_method_late hbase hfew hline rfl (eR (ho pins s σ H _ I h) λv s1 zq0=>?_);obtain⟨x,H1,I1,r1,ty,q1⟩:=zq0;obtain⟨h1,h2⟩:=DD I1 r1 ty;refine⟨T,id,pa,slot,hty,h1,h2,?_⟩;have hA:=ha cpos pins s1 σ H1 _ I1 q1;rw[hs]at hA ⊢;refine Calls.callWith_builtin (by show(false||(backTo cpos (starEach es X.env)).any (·.1))=false;rw[hplain]<;>rfl) (Calls.evalArgs_plain ?_);exact eR hA λus s2 ⟨vs,H2,I2,r2,q2⟩=>hm pins s2 σ H2 x vs v us Q I2 r1 r2 q2
end
def Ky(X:Cx)(id:String)(r:V->List V->Hp->VK->Prop):Prop:=
 ∀(pins:List (Addr×Obj)) (s:Shared) (σ:St) (H:Hp) (x:V) (xs:List V) (v:Value) (us:List Value) (Q:VK),aT X pins σ H s->cA x v->bO xs us->r x xs H Q ->
  wpAny (model X.prog X.w) X.A (call (.builtin id) (v::us)) (EP X pins σ Q) X.xe s
theorem bO.one{x:V}{us:List Value}(h:bO [x] us):∃u,us=[u]/\cA x u:=by
 cases h with
 |cons r t=>
  cases t;exact⟨_,rfl,r⟩
theorem bO.zero:∀{us:List Value},bO [] us->us=[]
 | _,.nil=>rfl
theorem bO.dropLast{xs:List V}{us:List Value}(h:bO xs us):bO xs.dropLast us.dropLast:=by
 induction h with
 |nil=>exact .nil
 |cons r t ih=>
  cases t with
  |nil=>exact .nil
  |cons q t'=>exact .cons r ih
theorem bO.reverse{xs:List V}{us:List Value}(h:bO xs us):bO xs.reverse us.reverse:=by
 induction h with
 |nil=>exact .nil
 |cons r t ih=>rw[List.reverse_cons,List.reverse_cons];exact bO.append ih (.cons r .nil)
theorem bO.rep{xs:List V}{us:List Value}(h:bO xs us):∀k:Nat,bO (Qi k xs).flatten (Qi k us).flatten
 | 0=>.nil
 |k+1=>by
  rw[List.replicate_succ,List.replicate_succ,List.flatten_cons,List.flatten_cons];exact bO.append h (bO.rep h k)
theorem xC{α:Type}(l:List α):l.eraseIdx (l.length-1)=l.dropLast:=by
 induction l with
 |nil=>rfl
 |cons a r ih=>
  cases r with
  |nil=>rfl
  |cons b r=>
   have e:(a::b::r).length-1=((b::r).length-1)+1:=by
    have h1:(a::b::r).length=r.length+2:=rfl;have h2:(b::r).length=r.length+1:=rfl;omega
   rw[e,List.eraseIdx_cons_succ,ih]
   all_goals rfl
theorem ox(its:List Value):∀(k:Nat) (acc:List Value),
  List.foldl (λx1 x2=>x1++x2) acc.toArray (Qi k its.toArray)=(acc++(Qi k its).flatten).toArray
 | 0,acc=>by simp
 |k+1,acc=>by
  have e:acc.toArray++its.toArray=(acc++its).toArray:=by simp
  have e2:(acc++its)++(Qi k its).flatten=acc++(Qi (k+1) its).flatten:=by
   rw[List.replicate_succ,List.flatten_cons,List.append_assoc]
  rw[<-e2,<-ox its k (acc++its),<-e,List.replicate_succ,List.foldl_cons]
section
variable{X:Cx}{pins:List (Addr×Obj)}{σ:St}{H:Hp}{s:Shared}{l b:Addr}{xs ys zs:List V}
theorem aT.lset{its its':List Value}{n:Nat}{f:Array Value->Array Value}{t':Nat}(I:aT X pins σ H s)(hH:H l=some (.lst xs))
  (e:s.heap.get? l=some { cls:=.type "list",data:=.seq its.toArray n }) (hf:f its.toArray=its'.toArray) (hv:bO ys its') (hz:ys.length<=sizeLine) :
  aT X pins σ (dj H l (.lst ys)) { s with heap:=s.heap.update l (Obj.mapSeq f),toks:=t' }:=by
 have q:=PySem.IsL.update e f;rw[hf]at q;refine I.write (x:=l) (e:=l) (by rw[hH];exact trivial) (.inl rfl) (λb' u hb hu=>(Heap.get?_update_other s.heap (Obj.mapSeq f) (Ne.symm hb)).trans hu) ⟨_,q⟩ ?_;exact⟨hz,its',_,hv,q⟩
theorem aT.lnew{its:List Value}{t':Nat}(I:aT X pins σ H s)(hv:bO ys its)(hz:ys.length<=sizeLine) :
  aT X pins σ (dj H s.heap.objs.size (.lst ys)) { s with heap:=s.heap.push { cls:=.type "list",data:=.seq its.toArray },toks:=t' }:=
 I.laid (λ_ _ q=>Qe _ q) (Nat.le_refl _) ⟨hz,its,0,hv,Heap.get?_push_size _ rfl⟩
theorem aT.fresh(I:aT X pins σ H s):H s.heap.objs.size=none:=I.hok.fresh (Nat.le_refl _)
theorem aT.lstM(I:aT X pins σ H s)(hH:H l=some (.lst xs)):xs.length<=sizeLine/\∃(its:List Value) (n:Nat),bO xs its/\xs.length=its.length/\s.heap.get? l=some { cls:=.type "list",data:=.seq its.toArray n }:=by
 obtain⟨z,its,n,r,e⟩:=I.hok l _ hH;exact⟨z,its,n,r,r.length,e⟩
theorem wq{n:Nat}(h:n<=sizeLine):Builtin.List.listTooLong n=false:=by
 unfold Builtin.List.listTooLong;exact decide_eq_false (by omega)
end
section
variable{X:Cx}
def Fi:V->List V->Hp->VK->Prop:=λx vs H Q=>∃l xs y,x=.ref l/\vs=[y]/\H l=some (.lst xs)/\xs.length<sizeLine/\Q .non (dj H l (.lst (xs++[y])))
theorem tq:Ky X "list.append" Fi:=by
 intro pins s σ H x vs v us Q I rx rv h;obtain⟨l,xs,y,rfl,rfl,hH,hz,q⟩:=h;cases rx;obtain⟨u,rfl,ru⟩:=rv.one;obtain⟨z,its,n,r,hl,e⟩:=I.lstM hH;refine call_meets F.slot_list_append ⟨_,e,rfl⟩ F.entry_list_append (F.args_list_append_2 _ _) (PySem.list_append l its.toArray n u (by rw[List.size_toArray];omega)) ⟨e,?_⟩;refine⟨.non,_,I.lset (its':=its++[u]) hH e (by simp) (r.append (.cons ru .nil)) ?_,rfl,q⟩;rw[List.length_append,List.length_singleton];omega
def K6:V->List V->Hp->VK->Prop:=λx vs H Q=>∃l xs y,x=.ref l/\vs=[]/\H l=some (.lst xs)/\xs[xs.length-1]?=some y/\Q y (dj H l (.lst xs.dropLast))
theorem G7:Ky X "list.pop" K6:=by
 intro pins s σ H x vs v us Q I rx rv h;obtain⟨l,xs,y,rfl,rfl,hH,hy,q⟩:=h;cases rx;have hus:=rv.zero;subst hus;obtain⟨z,its,n,r,hl,e⟩:=I.lstM hH;obtain⟨u,hu,ru⟩:=r.get hy;have hy':its.toArray[its.toArray.size-1]?=some u:=by
  show its.toArray[its.length-1]?=some u;rw[<-Array.getElem?_toList,<-hl];exact hu
 refine call_meets F.slot_list_pop ⟨_,e,rfl⟩ F.entry_list_pop (F.args_list_pop_1 _) (MeetsSeq.list_pop_last l its.toArray n u hy' (by rw[List.size_toArray];omega)) ⟨e,?_⟩;refine⟨y,_,I.lset (its':=its.dropLast) hH e ?_ r.dropLast ?_,ru,q⟩
 ·show its.toArray.eraseIdxIfInBounds (its.toArray.size-1)=its.dropLast.toArray;rw[List.size_toArray,List.eraseIdxIfInBounds_toArray,xC]
 ·rw[List.length_dropLast];omega
def K7:R2:=λx y H Q=>∃l k xs,x=.ref l/\y=.int k/\H l=some (.lst xs)/\-(2 ^ 63)<=k/\k<2 ^ 63/\xs.length*k.toNat<=sizeLine /\
 ∀p,H p=none->Q (.ref p) (dj H p (.lst (Qi k.toNat xs).flatten))
theorem uO{α:Type}(xs:List α)(k:Nat):(Qi k xs).flatten.length=k*xs.length:=by
 induction k with
 |zero=>simp
 |succ k ih=>rw[List.replicate_succ,List.flatten_cons,List.length_append,ih,Nat.succ_mul,Nat.add_comm]
theorem Hf:kD X (binaryOp .Mult) K7:=by
 intro pins s σ H x y v u Q I rx ry h;obtain⟨l,k,xs,rfl,rfl,hH,h1,h2,hz,q⟩:=h;cases rx;obtain⟨t,rfl⟩:=ry;obtain⟨z,its,n,r,hl,e⟩:=I.lstM hH;have hlen:its.toArray.size*k.toNat<=sizeLine:=by rw[List.size_toArray,<-hl];exact hz
 have hcap:¬its.toArray.size*k.toNat>(2 ^ 63-1) / 8:=by
  have:(sizeLine:Nat)<=(2 ^ 63-1) / 8:=by decide
  omega
 have hfit:¬(!Builtin.List.listFitsIndex k)=true:=by
  rw[fitsIndex_both h1 h2];exact Bool.false_ne_true
 have hlong:¬Builtin.List.listTooLong (its.toArray.size*k.toNat)=true:=by
  rw[wq hlen];exact Bool.false_ne_true
 have hnew:List.foldl (λx1 x2=>x1++x2) #[] (Qi (if its.toArray.isEmpty=true then 0 else k.toNat) its.toArray)=(Qi k.toNat its).flatten.toArray:=by
  have f0:∀m:Nat,List.foldl (λx1 x2=>x1++x2) #[] (Qi m its.toArray)=(Qi m its).flatten.toArray:=λm=>by
   have:=ox its m [];rw[List.nil_append]at this;exact this
  rw[f0];cases its with
  |nil=>simp
  |cons a r'=>rw[if_neg (by simp)]
 refine wpAny_binaryOp_repeat_ref (T := "list") (U := "int") (by decide) ⟨_,e,rfl⟩ (λs'=>typeIs_int s' k t) noFill_list_mul F.fills_int_mul F.slot_int_rmul repeat_list F.slot_int_index.lookup
  (call_meets F.slot_int_rmul (typeIs_int s k t) F.entry_int_rmul (F.args_int_rmul_2 _ _) (int___rmul___int_list k t l its.toArray n)
   ⟨e,rfl,⟨_,e,rfl⟩,call_meets F.slot_list_mul ⟨_,e,rfl⟩ F.entry_list_mul (F.args_list_mul_2 _ _) (AutoListH.list___mul___list_int_3 l its.toArray n k t hfit hcap hlong) ⟨e,?_⟩⟩)
 rw[hnew];exact⟨.ref _,_,I.lnew (t':=s.toks) (r.rep k.toNat) (by rw[uO,Nat.mul_comm];exact hz),rfl,q _ I.fresh⟩
end
end L2
namespace Att
open PySem PySem.W PySem.Calls PyProof.Rows
theorem pR{P:Params}{h:Heap}:∀(ns:List Int) (vs:List Value),WellAll P h vs (ns.map WData.int)->IntsAre vs ns:=by
 intro ns;induction ns with
 |nil=>
  intro vs w;rw[List.map_nil]at w;cases w;exact .nil
 |cons n ns ih=>
  intro vs w;rw[List.map_cons]at w;cases w with
  |cons a b=>
   cases a;exact .cons _ _ (ih _ b)
theorem A7{l:OpenLaw}{n:Nat}(hn:l.most=some n){P:Params}{h:Heap}{args:List WData}{vals:List Value}
  (hpre:l.row.toRowW.claim.pre args=true) (hwl:WellAll P h vals args) :
  ∃a vs ns,vals=[Value.ref a]/\args=[WData.list (ns.map WData.int)]/\h.get? a=some { cls:=.type "list",data:=.seq vs.toArray }/\IntsAre vs ns/\ns.length<=n:=by
 have hsh:WShape.hasAll [] args [.list .int]=true:=(pre_splitW hpre).1;have hc:l.pre.holds [] { args:=args }=true:=(pre_splitW hpre).2;obtain⟨d,r,rfl,h1,h2⟩:=hasAllW_cons hsh;obtain rfl:=hasAllW_nil h2;obtain⟨xs,rfl,h3⟩:=hasW_list h1;obtain⟨ns,rfl⟩:=items_int h3;have hlen:ns.length<=n:=by
  unfold OpenLaw.pre at hc;have h4:(WTm.not (.lt (.lit (.int (n:Int))) (.len (.arg 0)))).holds [] { args:=[.list (ns.map .int)] }=true:=by
   have h4:=(holds_andW hc).1;rw[hn]at h4;exact h4
  have h5:=condW_of h4 (w_not (w_lt w_lit (w_len_list (w_arg rfl))));rw[Qd]at h5;refine Nat.le_of_not_lt λq=>?_
  have q':(n:Int)<((ns.length:Nat):Int):=by omega
  first
   | (rw[decide_eq_true q']at h5;exact absurd h5 (by decide))
   | (simp at h5;omega)
 cases hwl with
 |cons w1 w2=>
  cases w2;cases w1 with
  |list ho hall=>exact⟨_,_,ns,rfl,rfl,ho,pR ns _ hall,hlen⟩
theorem AZ(l:OpenLaw)(args:List WData):l.row.toRowW.claim.post args (.bool true) args=true:=
 postW_of (r:=l.row.toRowW) (X:=(true==true))
  (show WShape.has [] (.bool true) .bool=true by first|rfl|decide|simp[WShape.has,WShape.arms,WShape.armsAll])
  (show(WTm.eq .res (.lit (.bool true))).value [] { args:=args,res:=some (.bool true),after:=args }=some (.bool (true==true))from w_eq_bool (w_res rfl) w_lit) rfl
theorem attach_call{l:OpenLaw}{n:Nat}{q:Program}{loose:List Str}{XP:(Str->Option Value)->Heap->Prop}{YP:World->Heap->Prop}{d:DefRec}
  (hn:l.most=some n) (hdf:d.params.defaults=[])
  (call:∀(w:World) (s₀ s₁:Shared) (mg mb:Str->Option Value) (fa:Addr) (o:Obj) (pm cd doc:Value) (a:Addr) (vs:List Value) (ns:List Int),
   Ground q loose [] XP w s₀ mg mb s₁.heap->YP w s₁.heap ->
   s₁.heap.get? fa=some o->o.data=.func (docDef d.name d.params d.body d.scope pm cd doc)->s₁.heap.CodeRec cd d.name->mg d.name=some (.ref fa) ->
   s₁.heap.get? a=some { cls:=.type "list",data:=.seq vs.toArray }->IntsAre vs ns->ns.length<=n->s₁.gens=#[] ->
   codeAny (model l.prog w) callerA (.call (.ref fa) ⟨[.ref a],[]⟩) (λr s'=>r=.ok (.ret (.bool true))/\OldK s₁.heap s'.heap/\s'.os=s₁.os/\AllBare s'.gens) s₁) :
  WalkO q loose XP YP l.row.toRowW d [] (λf vs=>PySem.call f vs):=by
 intro w s₀ s₁ mg mb G Y fa o pm cd doc dV kV ho hd hcd hD hmg hg args vals as hpre hlay hrd hwl hlo;obtain rfl:dV=.none:=Dflts.none hD hdf;obtain rfl:kV=.none:=Dflts.noKw hD;obtain⟨a,vs,ns,rfl,rfl,hobj,hints,hlen⟩:=A7 hn hpre hwl;refine enter_call (codeAny_mono (call w s₀ s₁ mg mb fa o pm cd doc a vs ns G Y ho (fd_plain hd) hcd hmg hobj hints hlen hg) λr s' hq=>?_);obtain⟨rfl,h2,h3,h4⟩:=hq;exact⟨.inl ⟨.bool true,.bool true,[],rfl,λ_=>rfl,.bool true,AZ l _,λ_=>⟨List.Pairwise.nil,λ_ hm=>(nomatch hm)⟩⟩,h2,h3,h4⟩
end Att
namespace L2
open PySem PySem.Spec PyProof.Rows
theorem lO:∀{vs:List Value} {ns:List Int},IntsAre vs ns->bO (ns.map V.int) vs
 | _,_,.nil=>.nil
 | _,_,.cons n t h=>.cons ⟨t,rfl⟩ (lO h)
def Ik(H:Hp):Prop:=∀b,H b=none\/∃o xs,H b=some (.frz o (.lst xs))
theorem Cm{P:Program}{w:World}{K:PySem.W.Frag}{mg mb:Str->Option Value}{CX:Bj}{k:Nat}{fa a:Addr}{fd:Qh}{x:Str}{sp:Sp}{s₁:Shared}{vs:List Value}{ns:List Int}
  (KX:K.In s₁.heap) (hns:s₁.heap.Ns mainGlobals mg) (hb:s₁.heap.Ns builtinsNs mb) (hbb:∀x:Str,x ≠ "__name__" -> mb x=bootBuiltins x) (hlim:s₁.heap.NoLimit) (hg:s₁.gens=#[])
  (ha:s₁.heap.get? a=some { cls:=.type "list",data:=.seq vs.toArray }) (hi:IntsAre vs ns) (hl:ns.length<=sizeLine) (hr:fW k callerA)
  (F:∀base:Heap,K.In base->base.Ns mainGlobals mg->bc P w K mg base CX k fa fd [x] sp) (hbind:∀(s:Shared) (u:Value),BindsTo s fd ⟨[u],[]⟩ [(x,u)])
  (hsp:∀H:Hp,Ik H->pX K H a (ns.map V.int)->sp [.ref a] H (λv _=>v=.bl true) λ_ _ _=>False)
  (hCX:∀H e s',CX [] H s₁ (λ_ _ _=>False) e s'->False) :
  codeAny (model P w) callerA (.call (.ref fa) ⟨[.ref a],[]⟩) (λr s'=>r=.ok (.ret (.bool true))/\OldK s₁.heap s'.heap/\s'.os=s₁.os/\AllBare s'.gens) s₁:=by
 have rv:=lO hi;have lenV:=hi.length
 -- from an abstract heap in which nothing but the script may be tracked
 have core:∀H:Hp,Ik H->pX K H a (ns.map V.int)->iZ P w H s₁.heap->(∀b,H b≠none->b=a)->(H a≠none->K.lookup a=none) ->
   codeAny (model P w) callerA (.call (.ref fa) ⟨[.ref a],[]⟩) (λr s'=>r=.ok (.ret (.bool true))/\OldK s₁.heap s'.heap/\s'.os=s₁.os/\AllBare s'.gens) s₁:=by
  intro H hO hS hok hA hK;have base_of:∀{b:Addr} {o:Obj},s₁.heap.get? b=some o->H b=none->(uK s₁.heap H).get? b=some o:=λe n=>B7 e n
  have noA:∀{b:Addr} {o:Obj} {es:Array DictEntry} {ep:Nat},s₁.heap.get? b=some o->o.data=.dict es ep->H b=none:=λ{b o es ep} e d=>by
   cases q:H b with
   |none=>rfl
   |some u=>
    have e':b=a:=hA b (by rw[q];simp);subst e';rw[ha]at e;cases e;have d':Data.seq vs.toArray _=Data.dict es ep:=d;cases d'
  have nsK:∀{b:Addr} {m:Str->Option Value},s₁.heap.Ns b m->(uK s₁.heap H).Ns b m:=λ{b m} ⟨o,es,ep,e,d,r⟩=>⟨o,es,ep,base_of e (noA e d),d,r⟩
  have hKb:K.In (uK s₁.heap H):=λb o e=>base_of (KX b o e) (by
   cases q:H b with
   |none=>rfl
   |some u=>
    have e':b=a:=hA b (by rw[q];simp);subst e';rw[hK (by rw[q];simp)]at e;cases e)
  have hM:Mod K mg (uK s₁.heap H):=⟨hKb,nsK hns,⟨mb,nsK hb,hbb⟩,let ⟨mc,h1,h2⟩:=hlim;⟨mc,nsK h1,h2⟩⟩
  have e0:wY P w K mg (uK s₁.heap H) callerA [] s₁ H:=⟨rfl,hM,λb o e=>E0 e,Nat.le_of_eq (AJ _ _),trivial,λb hb=>absurd (show b∈([]:List Addr)from hb) (by simp),hok,.of_eq hg⟩
  refine codeAny_mono ((F _ hKb (nsK hns)).run callerA [] s₁ H ⟨[.ref a],[]⟩ [.ref a] [.ref a] _ _ hr e0 (hbind s₁ (.ref a)) (.cons rfl .nil) (hsp H hO hS)) λr s' h=>?_
  cases r with
  |error e=>exact(hCX H e s' h).elim
  |ok fl=>
   cases fl with
   |next=>exact False.elim h
   |brk=>exact False.elim h
   |cont=>exact False.elim h
   |ret u=>
    obtain⟨v,H',os,bare,un,hok',r',q⟩:=h;have q':v=.bl true:=q;subst q';obtain rfl:u=Value.bool true:=r';refine⟨rfl,OldK.of_keep λb o e=>?_,os,bare⟩;cases q:H b with
    |none=>exact un.keep b o e q (by intro z;exact absurd (show b∈([]:List Addr)from z) (by simp)) (by simp)
    |some u=>
     rcases hO b with z| ⟨ob,xs,z⟩
     ·rw[q]at z;cases z
     ·have z2:=un.frzs b ob _ z;obtain⟨e1,_⟩:=hok b _ z;obtain⟨e2,_⟩:=hok' b _ z2;rw[e]at e1;cases e1;exact e2
 cases hk:K.lookup a with
 |some o=>
  -- the script is one of the module's own objects
  have e:=KX a o hk;rw[ha]at e;cases e;refine core (λ_=>none) (λ_=>.inl rfl) (.inr ⟨_,vs.toArray,_,hk,rfl,rfl,rfl,by rw[List.size_toArray,lenV];exact hl,by simpa using rv⟩) (λb u z=>by have z':(none:Option HO)=some u:=z;cases z') (λb z=>absurd rfl z) λz=>absurd rfl z
 |none=>
  refine core (λb=>if b=a then some (.frz { cls:=.type "list",data:=.seq vs.toArray } (.lst (ns.map V.int)))else none) (λb=>?_) (.inl (.inr ⟨{ cls:=.type "list",data:=.seq vs.toArray },if_pos rfl⟩)) (λb u z=>?_) (λb z=>?_) λ_=>hk
  ·by_cases hb:b=a
   ·exact .inr ⟨_,_,if_pos hb⟩
   ·exact .inl (if_neg hb)
  ·by_cases hb:b=a
   ·have z':=(if_pos hb).symm.trans z;cases z';subst hb;exact⟨ha,by rw[Qd];exact hl,vs,_,rv,ha⟩
   ·have z':=(if_neg hb).symm.trans z;cases z'
  ·by_cases hb:b=a
   ·exact hb
   ·exact absurd (if_neg hb) z
def zl(s:Stmt)(j:Nat):Stmt:=match s with
 |.ClassDef _ _ _ body _ _ _ _ _ _ _=>body.getD j (.Pass ⟨0,0,0,0⟩)
 | _=>.Pass ⟨0,0,0,0⟩
def eI(s:Stmt):Arguments:=match s with
 |.FunctionDef _ a _ _ _ _ _ _ _ _=>a
 | _=>{ posonlyargs:=[],args:=[],vararg:=none,kwonlyargs:=[],kw_defaults:=[],kwarg:=none,defaults:=[] }
def cZ(s:Stmt):List Stmt:=match s with
 |.FunctionDef _ _ b _ _ _ _ _ _ _=>b
 | _=>[]
def ao(s:Stmt):Scope:=match s with
 |.FunctionDef _ _ _ _ _ _ sc _ _ _=>sc
 | _=>{ kind:=.function,names:=[],isGenerator:=false,isCoroutine:=false }
abbrev Lw:Bj:=λ_ _ _ _ _ _=>False
structure gq(K:PySem.W.Frag)(x qual:Str)(st:Stmt)(f:Addr)(fd:Qh):Prop where
 ex:∃(oc:Value) (od:Option Addr) (kV doc pm:Value) (an:Option Addr) (cdv ct:Value) (osl:Array (Option Value)),
  fd=PySem.W.fnOf x qual (eI st) (cZ st) (ao st) .none kV doc pm an cdv ct/\K.lookup f=some ⟨oc,od,.func fd,osl⟩/\PySem.W.codeIn K cdv qual=true
 kp:PySem.W.keepIn K (.ref f)=true
section
variable{P:Program}{w:World}{K:PySem.W.Frag}{mg:Str->Option Value}{base:Heap}
theorem gq.ok{x qual:Str}{st:Stmt}{f:Addr}{fd:Qh}{N ps:List Str}{k:Nat}{sp:Sp}(F:gq K x qual st f fd)(S:aR N ps (ao st))(len:∀vs H Q E,sp vs H Q E->vs.length=ps.length)
  (hbody:∀(cdv:Value) (A:Around) (outer:List Env) (s:Shared) (H:Hp) (vs:List V) (Q:VK) (E:XK),fW k (A.deeper (envOfC qual (ao st) s.heap.objs.size f cdv))->sp vs H Q E ->
   ∃t,rT (gK Lw P w K mg base N qual (ao st) f cdv A outer s H E).nox (cZ st) t/\t { nx:=λ_ H'=>Q .non H',rt:=Q } (kC N vs) H):bc P w K mg base Lw (k+1) f fd ps sp:=by
 obtain⟨oc,od,kV,doc,pm,an,cdv,ct,osl,rfl,lk,hcd⟩:=F.ex;refine zd lk hcd S len λA outer s H vs Q E hr hsp=>?_
 obtain⟨t,h,q⟩:=hbody cdv A outer s H vs Q E hr hsp;exact⟨t,h.nox,q⟩
theorem gq.binds{x qual:Str}{st:Stmt}{f:Addr}{fd:Qh}{ps:List Str}(F:gq K x qual st f fd)
  (h:∀(kV doc pm:Value) (an:Option Addr) (cdv ct:Value) (us:List Value),us.length=ps.length->bindArgs (PySem.W.fnOf x qual (eI st) (cZ st) (ao st) .none kV doc pm an cdv ct) ⟨us,[]⟩=pure (ps.zip us)):bx K fd ps []:=by
 obtain⟨oc,od,kV,doc,pm,an,cdv,ct,osl,rfl,lk,hcd⟩:=F.ex;exact .all (h kV doc pm an cdv ct)
theorem xH{x qual:Str}{st:Stmt}{f:Addr}{oc:Value}{od an:Option Addr}{osl:Array (Option Value)}{kV doc pm cdv ct:Value}(l:K.lookup f=some ⟨oc,od,.func (PySem.W.fnOf x qual (eI st) (cZ st) (ao st) .none kV doc pm an cdv ct),osl⟩)
  (c:PySem.W.codeIn K cdv qual=true) (k:PySem.W.keepIn K (.ref f)=true):gq K x qual st f (PySem.W.fnOf x qual (eI st) (cZ st) (ao st) .none kV doc pm an cdv ct):=⟨⟨oc,od,kV,doc,pm,an,cdv,ct,osl,rfl,l,c⟩,k⟩
end
section
variable{X:Cx}
theorem pv(i:Nat){x:Str}{pos:Pos}(hN:X.N[i]?=some x:=by rfl)(hv:Gu X.env.scope x:=by first|exact Or.inl rfl|exact Or.inr (Or.inl rfl)|exact Or.inr (Or.inr rfl))(hd:(x==("__debug__" : Str))=false:=by decide)
  (hcd:(x==("__classdict__" : Str))=false:=by decide):PE X (.Name x pos) (HX i):=jg hN hv hd hcd
end
def aN(H H':Hp):Prop:=∀b o,H b=some o->H' b=some o
theorem aN.refl(H:Hp):aN H H:=λ_ _ h=>h
theorem aN.trans{H H1 H2:Hp}(a:aN H H1)(b:aN H1 H2):aN H H2:=λc o h=>b c o (a c o h)
theorem aN.free{H H':Hp}(e:aN H H'){l:Addr}(h:H' l=Option.none):H l=Option.none:=by
 cases q:H l with
 |none=>rfl
 |some o=>
  rw[e l o q]at h;cases h
section
variable{κ:Type}[DecidableEq κ]
def jm(kvs:List (κ×V))(k:κ):Option V:=(kvs.find? λkv=>decide (kv.1=k)).map (·.2)
def lT(kvs:List (κ×V))(k:κ)(v:V):List (κ×V):=
 if(kvs.any λkv=>decide (kv.1=k))=true then kvs.map (λkv=>if kv.1=k then(kv.1,v)else kv)else kvs++[(k,v)]
theorem rP{p:κ×V}{r:List (κ×V)}{k:κ}(e:p.1=k):jm (p::r) k=some p.2:=by simp[jm,List.find?_cons,e]
theorem rO{p:κ×V}{r:List (κ×V)}{k:κ}(e:¬p.1=k):jm (p::r) k=jm r k:=by simp[jm,List.find?_cons,e]
theorem wI(k:κ):∀kvs:List (κ×V),(kvs.any λkv=>decide (kv.1=k))=(jm kvs k).isSome
 | []=>rfl
 |p::r=>by
  rw[List.any_cons];by_cases e:p.1=k
  ·simp only[rP e,decide_eq_true e,Bool.true_or,Option.isSome_some]
  ·rw[rO e,decide_eq_false e,Bool.false_or];exact wI k r
theorem o8(kvs:List (κ×V))(k:κ)(v:V):(lT kvs k v).length<=kvs.length+1:=by
 unfold lT;split
 ·rw[Qd];omega
 ·rw[List.length_append,List.length_cons,List.length_nil];omega
theorem n5.isSome_eq{o:Option V}{u:Option Value}(r:n5 o u):o.isSome=u.isSome:=by
 cases o with
 |none=>cases u with
  |none=>rfl
  |some _=>exact(show False from r).elim
 |some _=>cases u with
  |none=>exact(show False from r).elim
  |some _=>rfl
theorem KV.val{kvs:List (κ×V)}{vs:List (κ×Value)}(r:KV kvs vs)(k:κ):n5 (jm kvs k) (valueAt vs k):=by
 unfold KV at r;induction r with
 |nil=>exact True.intro
 | @cons p q ps qs h t ih=>
  obtain⟨h1,h2⟩:=h;by_cases e:p.1=k
  ·have e':q.1=k:=h1.symm.trans e;have b:valueAt (q::qs) k=some q.2:=by simp[valueAt,List.find?_cons,e']
   rw[rP e,b];exact h2
  ·have e':¬q.1=k:=λz=>e (h1.trans z)
   have b:valueAt (q::qs) k=valueAt qs k:=by simp[valueAt,List.find?_cons,e']
   rw[rO e,b];exact ih
theorem KV.any{kvs:List (κ×V)}{vs:List (κ×Value)}(r:KV kvs vs)(k:κ):(kvs.any λkv=>decide (kv.1=k))=vs.any λkv=>decide (kv.1=k):=by
 unfold KV at r;induction r with
 |nil=>rfl
 |cons h t ih=>rw[List.any_cons,List.any_cons,ih,h.1]
theorem KV.repl{kvs:List (κ×V)}{vs:List (κ×Value)}(r:KV kvs vs)(k:κ){y:V}{u:Value}(ry:cA y u) :
  KV (kvs.map λkv=>if kv.1=k then(kv.1,y)else kv) (vs.map λkv=>if kv.1=k then(kv.1,u)else kv):=by
 unfold KV at r ⊢;induction r with
 |nil=>exact .nil
 | @cons p q ps qs h t ih=>
  rw[List.map_cons,List.map_cons];refine .cons ?_ ih;obtain⟨h1,h2⟩:=h;by_cases e:p.1=k
  ·rw[if_pos e,if_pos (h1.symm.trans e)];exact⟨h1,ry⟩
  ·rw[if_neg e,if_neg (λz=>e (h1.trans z))];exact⟨h1,h2⟩
theorem KV.put{kvs:List (κ×V)}{vs:List (κ×Value)}(r:KV kvs vs)(k:κ){y:V}{u:Value}(ry:cA y u):KV (lT kvs k y) (stored vs k u):=by
 unfold lT stored;rw[r.any k];by_cases e:(vs.any λkv=>decide (kv.1=k))=true
 ·rw[if_pos e,if_pos e];exact r.repl k ry
 ·rw[if_neg e,if_neg e];exact Paired.snoc r ⟨rfl,ry⟩
theorem KV.keys{kvs:List (κ×V)}{vs:List (κ×Value)}(r:KV kvs vs):kvs.map (·.1)=vs.map (·.1):=by
 unfold KV at r;induction r with
 |nil=>rfl
 |cons h t ih=>rw[List.map_cons,List.map_cons,ih,h.1]
theorem KV.length{kvs:List (κ×V)}{vs:List (κ×Value)}(r:KV kvs vs):kvs.length=vs.length:=Paired.length r
end
theorem wg{P:Program}{w:World}{k:cI}{u:Value}(r:cA (kV k) u):(dW P w).is k u=true:=by
 cases k with
 |inl i=>obtain⟨t,e⟩:=(show ∃t,u=Value.int i t from r);subst e;exact wm P w i t
 |inr x=>obtain⟨t,e⟩:=(show ∃t,u=Value.str x t from r);subst e;exact wo P w x t
theorem sY{P:Program}{w:World}:∀{ks:List cI} {us:List Value},bO (ks.map kV) us->ItemsAre (dW P w) ks us
 | [],_,r=>by rw[List.map_nil]at r;cases r;exact .nil
 |k::ks,_,r=>by
  rw[List.map_cons]at r;cases r with
  |cons h t=>exact .cons (wg h) (sY t)
abbrev KT(H:Hp):List (List cI×V)->List (List cI×Addr×Value)->Prop:=Paired λp q=>p.1=q.1/\H q.2.1=some (.tup (p.1.map kV))/\cA p.2 q.2.2
theorem KT.val{H:Hp}{kvs:List (List cI×V)}{xs:List (List cI×Addr×Value)}(r:KT H kvs xs)(k:List cI):n5 (jm kvs k) ((atKey xs k).map (·.2)):=by
 induction r with
 |nil=>exact True.intro
 | @cons p q ps qs h t ih=>
  obtain⟨h1,_,h2⟩:=h;by_cases e:p.1=k
  ·have e':q.1=k:=h1.symm.trans e;have b:atKey (q::qs) k=some q.2:=by simp[atKey,List.find?_cons,e']
   rw[rP e,b];exact h2
  ·have e':¬q.1=k:=λz=>e (h1.trans z)
   have b:atKey (q::qs) k=atKey qs k:=by simp[atKey,List.find?_cons,e']
   rw[rO e,b];exact ih
theorem KT.repl{H:Hp}{kvs:List (List cI×V)}{xs:List (List cI×Addr×Value)}(r:KT H kvs xs)(k:List cI){y:V}{u:Value}(ry:cA y u) :
  KT H (kvs.map λkv=>if kv.1=k then(kv.1,y)else kv) (xs.map (putAt k u)):=by
 induction r with
 |nil=>exact .nil
 | @cons p q ps qs h t ih=>
  rw[List.map_cons,List.map_cons];refine .cons ?_ ih;obtain⟨h1,h2,h3⟩:=h;unfold putAt;by_cases e:p.1=k
  ·rw[if_pos e,if_pos (h1.symm.trans e)];exact⟨h1,h2,ry⟩
  ·rw[if_neg e,if_neg (λz=>e (h1.trans z))];exact⟨h1,h2,h3⟩
theorem KT.put{H:Hp}{kvs:List (List cI×V)}{xs:List (List cI×Addr×Value)}(r:KT H kvs xs)(k:List cI){b:Addr}{y:V}{u:Value}(hb:H b=some (.tup (k.map kV)))(ry:cA y u) :
  KT H (lT kvs k y) (storedH xs k b u):=by
 have e:(kvs.any λkv=>decide (kv.1=k))=(atKey xs k).isSome:=by
  rw[wI,(r.val k).isSome_eq,Option.isSome_map]
 unfold lT storedH;rw[e];by_cases q:(atKey xs k).isSome=true
 ·rw[if_pos q,if_pos q];exact r.repl k ry
 ·rw[if_neg q,if_neg q];exact Paired.snoc r ⟨rfl,hb,ry⟩
theorem KT.keeps{H H':Hp}{kvs:List (List cI×V)}{xs:List (List cI×Addr×Value)}(r:KT H kvs xs)(ht:∀b ys,H b=some (.tup ys)->H' b=some (.tup ys)):KT H' kvs xs:=
 Paired.mapP r λ_ _ z=>⟨z.1,ht _ _ z.2.1,z.2.2⟩
section
variable{P:Program}{w:World}{H:Hp}{h:Heap}{a:Addr}
theorem F6{u:HO}(ok:iZ P w H h)(e:Rd H a u):cD P w H h a u:=e.ok ok
theorem qG{kvs:List (cI×V)}(ok:iZ P w H h)(e:Rd H a (.dK kvs)):kvs.length<=sizeLine/\(a==sysModules)=false/\∃vs,KV kvs vs/\h.DictOf (dW P w) a vs:=
 show cD P w H h a (.dK kvs)from F6 ok e
theorem IF{kvs:List (cI×V)}(ok:iZ P w H h)(e:H a=some (.dK kvs)):kvs.length<=sizeLine/\(a==sysModules)=false/\∃vs,KV kvs vs/\h.DictOf (dW P w) a vs:=qG ok (.inl e)
theorem qY{ks:List cI}(ok:iZ P w H h)(e:H a=some (.tup (ks.map kV))):(tupleKind (dW P w)).is h ks a:=by
 obtain⟨_,its,r,o,h1,h2,⟨n,h3⟩,_⟩:=(show cD P w H h a (.tup (ks.map kV))from ok a _ e)
 exact⟨o,its.toArray,n,h1,h2,h3,by simpa using sY r⟩
theorem sS{kvs:List (List cI×V)}(ok:iZ P w H h)(e:Rd H a (.dT kvs)):kvs.length<=sizeLine/\(a==sysModules)=false /\
  ∃xs,KT H kvs xs/\h.DictOfH (tupleKind (dW P w)) a xs:=by
 obtain⟨z,y,xs,r,o,es,ep,h1,h2,h3,h4,h5⟩:=(show cD P w H h a (.dT kvs)from F6 ok e)
 refine⟨z,y,xs,r,o,es,ep,h1,h2,h3,h4,λx hx=>?_,h5⟩;have all:∀{l:List (List cI×V)} {m:List (List cI×Addr×Value)},KT H l m->∀x∈m,(tupleKind (dW P w)).is h x.1 x.2.1:=by
  intro l m q;induction q with
  |nil=>intro x hx;exact nomatch hx
  | @cons p q ps qs hq t ih=>
   intro x hx;rcases List.mem_cons.mp hx with e|hx
   ·subst e;exact qY ok (by rw[<-hq.1];exact hq.2.1)
   ·exact ih x hx
 exact all r x hx
theorem IH{kvs:List (List cI×V)}(ok:iZ P w H h)(e:H a=some (.dT kvs)):kvs.length<=sizeLine/\(a==sysModules)=false /\
  ∃xs,KT H kvs xs/\h.DictOfH (tupleKind (dW P w)) a xs:=sS ok (.inl e)
end
def pC(H:Hp)(a:Addr)(y:V)(r:Option V):Prop:=
 (∃kvs k,Rd H a (.dK kvs)/\y=kV k/\r=jm kvs k)\/∃kvs k b,Rd H a (.dT kvs)/\y=.ref b/\H b=some (.tup (k.map kV))/\r=jm kvs k
def vc(H:Hp)(a:Addr)(y v:V)(H':Hp):Prop:=
 (∃kvs k,H a=some (.dK kvs)/\y=kV k/\kvs.length<sizeLine/\H'=dj H a (.dK (lT kvs k v))) \/
 ∃kvs k b,H a=some (.dT kvs)/\y=.ref b/\H b=some (.tup (k.map kV))/\kvs.length<sizeLine/\H'=dj H a (.dT (lT kvs k v))
theorem pC.k{H:Hp}{a:Addr}{kvs:List (cI×V)}{k:cI}(e:H a=some (.dK kvs)):pC H a (kV k) (jm kvs k):=.inl ⟨kvs,k,.inl e,rfl,rfl⟩
theorem pC.t{H:Hp}{a b:Addr}{kvs:List (List cI×V)}{k:List cI}(e:H a=some (.dT kvs))(eb:H b=some (.tup (k.map kV))):pC H a (.ref b) (jm kvs k):=.inr ⟨kvs,k,b,.inl e,rfl,eb,rfl⟩
theorem vc.k{H:Hp}{a:Addr}{kvs:List (cI×V)}{k:cI}{v:V}(e:H a=some (.dK kvs))(hl:kvs.length<sizeLine):vc H a (kV k) v (dj H a (.dK (lT kvs k v))):=.inl ⟨kvs,k,e,rfl,hl,rfl⟩
theorem vc.t{H:Hp}{a b:Addr}{kvs:List (List cI×V)}{k:List cI}{v:V}(e:H a=some (.dT kvs))(eb:H b=some (.tup (k.map kV)))(hl:kvs.length<sizeLine) :
  vc H a (.ref b) v (dj H a (.dT (lT kvs k v))):=.inr ⟨kvs,k,b,e,rfl,eb,hl,rfl⟩
section
variable{X:Cx}{pins:List (Addr×Obj)}{σ:St}{H:Hp}{s:Shared}{a:Addr}{y v:V}{u r:Value}{o:Option V}{A:Around}{E:Value->Shared->Prop}
theorem aT.big(I:aT X pins σ H s):sysModules<s.heap.objs.size:=by
 have h:mainGlobals<s.heap.objs.size:=(I.mod.glob.keeps I.bk).lt;exact Nat.lt_trans (by decide) h
theorem Az{Q:Value->Shared->Prop}(hu:A.units+1<cLine)(I:aT X pins σ H s)(g:pC H a y (some v))(ry:cA y u)(h:∀w' s',aT X pins σ H s'->cA v w'->Q w' s') :
  wpAny (model X.prog X.w) A (getItem (.ref a) u) Q E s:=by
 rcases g with⟨kvs,k,e,ey,l⟩| ⟨kvs,k,b,e,ey,eb,l⟩
 ·subst ey;obtain⟨z,hd,vs,rel,dd⟩:=qG I.hok e;obtain⟨w',hw,rw'⟩:=n5.some_of (v:=v) (o:=valueAt vs k) (by rw[l];exact rel.val k);exact wpAny_getItem_of (wg ry) dd.mapOf hw (h w' _ (I.tok _) rw')
 ·subst ey;cases(show u=Value.ref b from ry);obtain⟨z,hd,xs,rel,dd⟩:=sS I.hok e;obtain⟨w',hw,rw'⟩:=n5.some_of (v:=v) (o:=(atKey xs k).map (·.2)) (by rw[l];exact rel.val k);obtain⟨p,hp,hp2⟩:=Option.map_eq_some_iff.mp hw;refine wpAny_getItem_heap (tupleKind_room_in1 hu) (qY I.hok eb) dd hp ?_;rw[hp2];exact h w' _ (I.tok _) rw'
theorem KN{Q:Value->Shared->Prop}(hu:A.units+1<cLine)(I:aT X pins σ H s)(g:pC H a y o)(ry:cA y u)(h:∀s',aT X pins σ H s'->Q (.bool o.isSome) s') :
  wpAny (model X.prog X.w) A (compareOp .In u (.ref a)) Q E s:=by
 rcases g with⟨kvs,k,e,ey,l⟩| ⟨kvs,k,b,e,ey,eb,l⟩
 ·subst ey;obtain⟨z,hd,vs,rel,dd⟩:=qG I.hok e;refine wpAny_in_of (wg ry) hd dd.mapOf ?_;rw[<-(rel.val k).isSome_eq,<-l];exact h _ (I.tok _)
 ·subst ey;cases(show u=Value.ref b from ry);obtain⟨z,hd,xs,rel,dd⟩:=sS I.hok e;refine wpAny_in_heap (tupleKind_room_in1 hu) (qY I.hok eb) hd dd ?_;have q:=(rel.val k).isSome_eq;rw[Option.isSome_map]at q;rw[<-q,<-l];exact h _ (I.tok _)
theorem Ep{Q:Value->Shared->Prop}(hu:A.units+1<cLine)(I:aT X pins σ H s)(g:pC H a y o)(ry:cA y u)(h:∀s',aT X pins σ H s'->Q (.bool (!o.isSome)) s') :
  wpAny (model X.prog X.w) A (compareOp .NotIn u (.ref a)) Q E s:=by
 rcases g with⟨kvs,k,e,ey,l⟩| ⟨kvs,k,b,e,ey,eb,l⟩
 ·subst ey;obtain⟨z,hd,vs,rel,dd⟩:=qG I.hok e;refine wpAny_notIn_of (wg ry) hd dd.mapOf ?_;rw[<-(rel.val k).isSome_eq,<-l];exact h _ (I.tok _)
 ·subst ey;cases(show u=Value.ref b from ry);obtain⟨z,hd,xs,rel,dd⟩:=sS I.hok e;refine wpAny_notIn_heap (tupleKind_room_in1 hu) (qY I.hok eb) hd dd ?_;have q:=(rel.val k).isSome_eq;rw[Option.isSome_map]at q;rw[<-q,<-l];exact h _ (I.tok _)
theorem yY{h':Heap}{t':Nat}{ob:HO}(I:aT X pins σ H s)(mu:Ij (H a))(hs:Heap.SameBut a s.heap h')(he:∃q,h'.get? a=some q)(new:cD X.prog X.w (dj H a ob) h' a ob) :
  aT X pins σ (dj H a ob) { s with heap:=h',toks:=t' }:=
 I.write (x:=a) (e:=a) mu (.inl rfl) (λb q hb z=>(hs.2 b hb).trans z) he new
theorem GJ{P:Program}{w:World}{H':Hp}{h':Heap}{kvs:List (cI×V)}{vs:List (cI×Value)}(z:kvs.length<=sizeLine)(hd:(a==sysModules)=false)(rel:KV kvs vs)(dd:h'.DictOf (dW P w) a vs) :
  cD P w H' h' a (.dK kvs):=⟨z,hd,vs,rel,dd⟩
theorem AA{H':Hp}{Q:Unit->Shared->Prop}(hu:A.units+1<cLine)(I:aT X pins σ H s)(g:vc H a y v H')(ry:cA y u)(rv:cA v r)(h:∀s',aT X pins σ H' s'->Q () s') :
  wpAny (model X.prog X.w) A (setItem (.ref a) u r) Q E s:=by
 rcases g with⟨kvs,k,e,ey,l,eH⟩| ⟨kvs,k,b,e,ey,eb,l,eH⟩
 ·subst ey eH;obtain⟨z,hd,vs,rel,dd⟩:=IF I.hok e;have hz:vs.length<=sizeLine:=by rw[<-rel.length];exact z
  have hl:(lT kvs k v).length<=sizeLine:=by have:=o8 kvs k v;omega
  refine wpAny_setItem_pairs (hsz:=hz) (wg ry) dd λh' dd' hs=>h _ ?_
  have he:∃q,h'.get? a=some q:=let ⟨q,_,_,hq,_⟩:=dd';⟨q,hq⟩
  exact yY I (by rw[e];exact True.intro) hs he (GJ hl hd (rel.put k rv) dd')
 ·subst ey eH;cases(show u=Value.ref b from ry);obtain⟨z,hd,xs,rel,dd⟩:=IH I.hok e;have hz:xs.length<=sizeLine:=by rw[<-Paired.length rel];exact z
  have hl:(lT kvs k v).length<=sizeLine:=by have:=o8 kvs k v;omega
  refine wpAny_setItem_heap (hsz:=hz) (tupleKind_room_in1 hu) (qY I.hok eb) dd λh' dd' hs=>h _ ?_
  obtain⟨q,es,ep,hq,h2,h3,h4,_,h5⟩:=dd';refine yY I (by rw[e];exact True.intro) hs ⟨q,hq⟩ ⟨hl,hd,_,(rel.put k eb rv).keeps λc ys ec=>?_,q,es,ep,hq,h2,h3,h4,h5⟩;rw[aD (Jc ec e (λz=>nomatch z))];exact ec
end
section
variable{X:Cx}{pins:List (Addr×Obj)}{σ:St}{H:Hp}{s:Shared}{a:Addr}{kvs:List (cI×V)}{k:cI}{u:Value}{A:Around}{E:Value->Shared->Prop}
theorem IE{Q:Value->Shared->Prop}(I:aT X pins σ H s)(e:Rd H a (.dK kvs))(h:∀t s',aT X pins σ H s'->Q (.int kvs.length t) s'):wpAny (model X.prog X.w) A (call (.builtin "len") [.ref a]) Q E s:=by
 obtain⟨z,hd,vs,rel,dd⟩:=qG I.hok e;refine call_len_dict hd dd (by rw[<-rel.length];rw[sizeLine_eq]at z;omega) ?_;rw[<-rel.length];exact h _ _ (I.tok _)
end
theorem vS{X:Cx}{pins:List (Addr×Obj)}{σ:St}{H:Hp}{s:Shared}{a:Addr}{y:V}{o:Option V}(I:aT X pins σ H s)(g:pC H a y o):s.TypeIs (.ref a) "dict" := by
 rcases g with⟨kvs,k,e,_,_⟩| ⟨kvs,k,b,e,_,_,_⟩
 ·obtain⟨_,_,vs,_,dd⟩:=qG I.hok e;exact dd.typeIs
 ·obtain⟨_,_,xs,_,dd⟩:=sS I.hok e;exact dd.typeIs
def JB(td ty tv:TE):TS:=λD σ H=>tv σ H λv H1=>td σ H1 λx H2=>ty σ H2 λy H3=>∃a H4,x=.ref a/\vc H3 a y v H4/\D.nx σ H4
section
variable{X:Cx}{o i e value:Expr}{pos pos' tpos:Pos}{td ty tv:TE}
theorem zN(hu:X.A.units+1<cLine)(ho:PE X o td)(hi:PE X i ty)(hv:PE X value tv)(hs:swapsWith value (some (.Subscript o i pos')) pos.line X.env=pure false) :
  PS X (.Assign [.Subscript o i pos'] value pos) (JB td ty tv):=by
 intro pins s σ H D I h;refine wpAny_Assign_Subscript (eR (hv pins s σ H _ I h) λr s1 ⟨v,H1,I1,rv,q1⟩=>eR (ho pins s1 σ H1 _ I1 q1) λu s2 ⟨x,H2,I2,rx,q2⟩=>eR (hi pins s2 σ H2 _ I2 q2) λiv s3 zq0=>?_) hs;obtain⟨y,H3,I3,ry,a,H4,ex,g,q3⟩:=zq0;subst ex;obtain rfl:u=Value.ref a:=rx;exact AA hu I3 g ry rv λs4 I4=>⟨σ,H4,I4,q3⟩
end
theorem BV{P:Program}{w:World}{H:Hp}(h:Heap)(hb:sysModules<h.objs.size):cD P w H (h.push { cls:=.type "dict",data:=.dict #[] }) h.objs.size (.dK []):=
 ⟨Nat.zero_le _,beq_eq_false_iff_ne.mpr (Ne.symm (Nat.ne_of_lt hb)),[],.nil,Heap.DictOf.new h⟩
theorem BW{P:Program}{w:World}{H:Hp}(h:Heap)(hb:sysModules<h.objs.size):cD P w H (h.push { cls:=.type "dict",data:=.dict #[] }) h.objs.size (.dT []):=
 ⟨Nat.zero_le _,beq_eq_false_iff_ne.mpr (Ne.symm (Nat.ne_of_lt hb)),[],.nil,_,#[],0,Heap.get?_push_size _ rfl,⟨rfl,rfl,rfl⟩,rfl,rfl,List.nodup_nil⟩
def HU:TE:=λ_ H Q=>∀p,H p=none->Q (.ref p) (dj H p (.dK []))
def HV:TE:=λ_ H Q=>∀p,H p=none->Q (.ref p) (dj H p (.dT []))
section
variable{X:Cx}{pos:Pos}
theorem CK:PE X (.Dict [] [] pos) HU:=λpins s σ H Q I h=>
 wpAny_Dict_empty ⟨.ref s.heap.objs.size,_,I.laid (a:=s.heap.objs.size) (o:=.dK []) (t':=s.toks) (λ_ _ q=>Qe _ q) (Nat.le_refl _) (BV s.heap I.big),rfl,h _ (I.hok.fresh (Nat.le_refl _))⟩
theorem CL:PE X (.Dict [] [] pos) HV:=λpins s σ H Q I h=>
 wpAny_Dict_empty ⟨.ref s.heap.objs.size,_,I.laid (a:=s.heap.objs.size) (o:=.dT []) (t':=s.toks) (λ_ _ q=>Qe _ q) (Nat.le_refl _) (BW s.heap I.big),rfl,h _ (I.hok.fresh (Nat.le_refl _))⟩
end
end L2
set_option maxHeartbeats 4000000
namespace G
open PySem PySem.W PyProof.Rows L2
noncomputable def Ix:List Stmt:=PySem.Challenge.pw_duelground_k83_whole_watched.main.body
noncomputable abbrev top(i:Nat):Stmt:=Ix.getD i (.Pass ⟨0,0,0,0⟩)
noncomputable def qv:Program:=view PySem.Challenge.pw_duelground_k83_whole_watched [1,2,3,5,6,7,8,9,10,11,13,14,15,16,17,18,19,20,22,23,24,25,27,28,30,32,33,34,35,36,37,38,39,40,41,42,43,44,45,46,47,49,50,51,52,53,54,55,56,57,58,59,60,61,62,63,64]
noncomputable def de(P:Params)(x:Str)(t:Nat)(v:Value):DictEntry:=⟨PySem.PyData.keyHash P x,.str x t,v⟩
noncomputable def fo(x q m:Str)(k c:Nat)(s:Stmt):Obj:=⟨.type "function",none,.func (PySem.W.fnOf x q (eI s) (cZ s) (ao s) .none .none .none (.str m k) none (.ref c) .none),#[]⟩
noncomputable def cg(x q:Str)(t l a r v:Nat)(c d e:Value)(b:Nat)(s:Stmt)(m:Str×Nat):Frag:=[(b,⟨.type "code",none,.fields #[.str x t,.str q (t+1),.str "/claim/cut.py" (t+2),.int l 0,.int a 0,.int 0 0,.int 0 0,.int 3 0,.ref r,.bool true,.int 181 0,.ref (r+1),.none,c,d,e,.int v 0,.int l 0,.str "/claim/cut.py" (v+1)],#[]⟩),(b+1,fo x q m.1 m.2 b s)]
noncomputable def m0:Str×Nat:=("duelground.things",239)
noncomputable def m1:Str×Nat:=("duelground.parts",275)
noncomputable def m2:Str×Nat:=("duelground.pulling",358)
noncomputable def m3:Str×Nat:=("duelground.again",384)
noncomputable def m4:Str×Nat:=("duelground.changing",412)
noncomputable def m5:Str×Nat:=("duelground.watching",422)
noncomputable def m6:Str×Nat:=("law_duelground_k83_whole_watched",505)
noncomputable def vb(x q:Str)(t l a r v:Nat):=cg x q t l a r v (.ref (r+2)) (.ref (r+3)) (.ref (r+4)) (r+5)
noncomputable def o7(x:Str)(t l a r i:Nat):=cg x x t l a r (t+3) .none .none (.ref (r+2)) (r+3) (top i)
noncomputable def LT(d:Str->Nat->Value->DictEntry)(e:Str->Nat->Nat->DictEntry)(T:String->Value)(R:Nat->Value):Frag:=[(3,⟨(T "dict"),none,(.dict #[d "__name__" 165 (.str "law_duelground_k83_whole_watched" 505),d "__doc__" 166 .none,d "__package__" 167 .none,d "__loader__" 168 (.builtin PySem.W.SZ.s7097527257260152453x26),d "__spec__" 169 .none,e "__annotations__" 170 6,e "__builtins__" 171 4,d "__file__" 173 (.str "/claim/cut.py" 172),d "__cached__" 174 .none,e "GroundError" 206 24,e "NoPart" 222 37,e "NoWatcher" 238 49,d "WHO" 242 (.int 0 241),d "MARK" 244 (.int 1 243),d "GAIN" 246 (.int 2 245),d "GOALS" 248 (.int 3 247),e "is_whole" 255 58,e "is_between" 264 65,e "are_some" 274 72,e "Share" 309 89,e "all_places" 316 100,e "common" 322 105,e "without" 328 110,e "no_moves" 334 115,e "moves_of_both" 340 120,e "staying_moves" 351 127,e "winners_and_moves" 357 132,e "is_forced" 365 137,e "ranks_to" 371 142,e "ranked" 377 147,e "pulling_moves" 383 152,e "share_by_coming" 399 159,e "again" 411 166,e "with_goals" 421 173,d "MOST_STATES" 425 (.int 6 424),d "COUNT_OF_MARKS" 427 (.int 13 426),d "GOOD" 429 (.int 0 428),d "STEPS" 431 (.int 1 430),d "PARTS_OF_STATE" 433 (.int 2 432),e "is_tuple_of" 442 180,e "are_steps" 448 185,e "is_state" 456 192,e "is_watcher" 462 197,e "steps_by" 468 202,e "watcher_of" 474 207,e "pair_of" 480 212,e "ground_of_pairs" 486 217,e "good_pairs" 492 222,e "by_states" 498 227,e "watched" 504 232,e "_law_cell_at" 514 239,e "_law_mixed" 523 246,e "_law_drawn" 532 253,e "_law_goals" 542 260,e "_law_place" 552 267,e "_law_ground" 558 272,e "_law_some" 564 277,e "_law_watcher" 570 282,e "_law_groups" 576 287,e "_law_pair_ways" 582 292,e "_law_kept_in" 588 297,e "_law_back" 603 304,e "_law_refused" 613 311,e "_law_are_winners" 619 316,e "_law_shaped" 625 321,e "law" 631 326] 66),#[]⟩)] ++
 [(23,⟨(T "dict"),none,(.dict #[d "__module__" 196 (.str "duelground.errors" 187),d "__firstlineno__" 200 (.int 2 199),e "__static_attributes__" 201 22,e "__weakref__" 203 25,d "__doc__" 204 .none] 3),#[]⟩)] ++
 [(24,⟨(T "type"),none,(.cls ⟨"GroundError",[(T "ValueError")],[(R 24),(T "ValueError"),(T "Exception"),(T "BaseException"),(T "object")],23,"GroundError",true,[],[(R 37),(R 49)],false,none,false⟩),#[(some (R 15)),none,(some (.str "GroundError" 189)),(some (.str "GroundError" 197)),(some (.builtin PySem.W.SZ.s4209523147560561109x18)),(some (.bool true))]⟩)] ++
 [(36,⟨(T "dict"),none,(.dict #[d "__module__" 214 (.str "duelground.errors" 187),d "__firstlineno__" 218 (.int 4 217),e "__static_attributes__" 219 35,d "__doc__" 220 .none] 2),#[]⟩)] ++
 [(37,⟨(T "type"),none,(.cls ⟨"NoPart",[(R 24)],[(R 37),(R 24),(T "ValueError"),(T "Exception"),(T "BaseException"),(T "object")],36,"NoPart",true,[],[],false,none,false⟩),#[(some (R 28)),none,(some (.str "NoPart" 207)),(some (.str "NoPart" 215)),(some (.builtin PySem.W.SZ.s4209523147560561109x18)),(some (.bool true))]⟩)] ++
 [(48,⟨(T "dict"),none,(.dict #[d "__module__" 230 (.str "duelground.errors" 187),d "__firstlineno__" 234 (.int 6 233),e "__static_attributes__" 235 47,d "__doc__" 236 .none] 2),#[]⟩)] ++
 [(49,⟨(T "type"),none,(.cls ⟨"NoWatcher",[(R 24)],[(R 49),(R 24),(T "ValueError"),(T "Exception"),(T "BaseException"),(T "object")],48,"NoWatcher",true,[],[],false,none,false⟩),#[(some (R 40)),none,(some (.str "NoWatcher" 223)),(some (.str "NoWatcher" 231)),(some (.builtin PySem.W.SZ.s4209523147560561109x18)),(some (.bool true))]⟩)] ++
 vb "is_whole" "is_whole" 249 13 1 52 253 (top 9) m0 ++
 vb "is_between" "is_between" 256 15 3 59 262 (top 10) m0 ++
 vb "are_some" "are_some" 265 17 2 66 272 (top 11) m0 ++
 vb "__init__" "Share.__init__" 289 29 4 80 296 (zl (top 13) 0) m1 ++
 [(88,⟨(T "dict"),none,(.dict #[d "__module__" 284 (.str "duelground.parts" 275),d "__firstlineno__" 288 (.int 27 287),e "__init__" 298 86,e "__static_attributes__" 302 87,e "__dict__" 304 90,e "__weakref__" 306 91,d "__doc__" 307 .none] 4),#[]⟩)] ++
 [(89,⟨(T "type"),none,(.cls ⟨"Share",[(T "object")],[(R 89),(T "object")],88,"Share",true,[],[],false,none,false⟩),#[none,none,(some (.str "Share" 277)),(some (.str "Share" 285)),(some (.builtin PySem.W.SZ.s11443829558043349243x14)),(some (.bool true))]⟩)] ++
 vb "all_places" "all_places" 310 33 1 94 314 (top 14) m1 ++
 o7 "common" 317 35 2 101 15 m1 ++
 o7 "without" 323 37 2 106 16 m1 ++
 o7 "no_moves" 329 39 1 111 17 m1 ++
 o7 "moves_of_both" 335 41 2 116 18 m1 ++
 vb "staying_moves" "staying_moves" 341 43 3 121 349 (top 19) m1 ++
 o7 "winners_and_moves" 352 49 2 128 20 m1 ++
 o7 "is_forced" 360 58 4 133 22 m2 ++
 o7 "ranks_to" 366 63 4 138 23 m2 ++
 o7 "ranked" 372 75 1 143 24 m2 ++
 o7 "pulling_moves" 378 77 3 148 25 m2 ++
 vb "share_by_coming" "share_by_coming" 386 84 4 153 397 (top 27) m3 ++
 vb "again" "again" 400 94 3 160 409 (top 28) m3 ++
 vb "with_goals" "with_goals" 414 105 2 167 419 (top 30) m4 ++
 vb "is_tuple_of" "is_tuple_of" 434 113 3 174 440 (top 37) m5 ++
 o7 "are_steps" 443 115 2 181 38 m5 ++
 vb "is_state" "is_state" 449 119 2 186 454 (top 39) m5 ++
 o7 "is_watcher" 457 123 1 193 40 m5 ++
 o7 "steps_by" 463 125 2 198 41 m5 ++
 o7 "watcher_of" 469 127 1 203 42 m5 ++
 o7 "pair_of" 475 132 3 208 43 m5 ++
 o7 "ground_of_pairs" 481 135 2 213 44 m5 ++
 o7 "good_pairs" 487 140 2 218 45 m5 ++
 o7 "by_states" 493 143 2 223 46 m5 ++
 o7 "watched" 499 145 3 228 47 m5 ++
 vb "_law_cell_at" "_law_cell_at" 507 156 2 233 512 (top 49) m6 ++
 vb "_law_mixed" "_law_mixed" 515 160 2 240 521 (top 50) m6 ++
 vb "_law_drawn" "_law_drawn" 524 163 2 247 530 (top 51) m6 ++
 vb "_law_goals" "_law_goals" 533 166 2 254 540 (top 52) m6 ++
 vb "_law_place" "_law_place" 543 171 3 261 550 (top 53) m6 ++
 o7 "_law_ground" 553 176 2 268 54 m6 ++
 o7 "_law_watcher" 565 184 1 278 56 m6 ++
 o7 "_law_groups" 571 191 1 283 57 m6 ++
 o7 "_law_pair_ways" 577 196 5 288 58 m6 ++
 o7 "_law_kept_in" 583 202 5 293 59 m6 ++
 vb "_law_back" "_law_back" 589 208 6 298 601 (top 60) m6 ++
 vb "_law_refused" "_law_refused" 604 217 3 305 611 (top 61) m6 ++
 o7 "_law_are_winners" 614 223 2 312 62 m6 ++
 o7 "_law_shaped" 620 227 3 317 63 m6 ++
 o7 "law" 626 244 1 322 64 m6
noncomputable def KK(P:Params):Frag:=LT (de P) (λx t r=>de P x t (.ref r)) .type .ref
noncomputable def kA:List Addr:=[3,23,24,36,37,48,49,57,58,64,65,71,72,85,86,88,89,99,100,104,105,109,110,114,115,119,120,126,127,131,132,136,137,141,142,146,147,151,152,158,159,165,166,172,173,179,180,184,185,191,192,196,197,201,202,206,207,211,212,216,217,221,222,226,227,231,232,238,239,245,246,252,253,259,260,266,267,271,272,281,282,286,287,291,292,296,297,303,304,310,311,315,316,320,321,325,326]
set_option maxHeartbeats 0 in
theorem LU:LeftO PySem.Challenge.pw_duelground_k83_whole_watched qv [] (λs=>xlAt qv [] s&&recOk (RowW.records PySem.Challenge.rw_duelground_k83_whole_watched.row.toRowW) s) (λs=>kA.map s.heap.get?) (λw=>(KK w.params).map λp=>some p.2) 4592:=λw=>by kernel_rfl
end G
set_option genInjectivity true
namespace D2
open PySem PySem.Spec PyProof.Rows L2
theorem gN{α:Type}{n:Nat}{us:List α}(h:us.length=n+1):∃a r,us=a::r/\r.length=n:=by
 cases us with
 |nil=>cases h
 |cons a r=>exact⟨a,r,rfl,Nat.succ.inj h⟩
def vA(base:Heap)(l:List Env)(e:Addr)(cls a0:Value)(h:Heap):Prop:=base.StaysIn h/\base.get? e=none/\h.FunFrames base l/\∃fl,h.TracedAtW base e cls a0 fl
theorem vA.of{base h:Heap}{l:List Env}{e:Addr}{cls a0:Value}(x:Heap.FlyingW base l e cls a0 h):vA base l e cls a0 h:=⟨x.1,x.2.1,x.2.2.1,.none,x.2.2.2⟩
section
variable{M:Model}{A:Around}{E:Value->Shared->Prop}{s:Shared}{base:Heap}{l:List Env}{env:Env}{outer:List Env}{L e:Addr}{cls a0:Value}{Q:Unit->Shared->Prop}
theorem FK{h:Heap}:h.UpToSlots h:=λb o hb _=>⟨o.slots,hb⟩
theorem wH(hfr:A.frames=some (env::outer))(hf:env.frame=some L)(t:vA base (env::outer) e cls a0 s.heap)
  (hQ:∀h',vA base (env::outer) e cls a0 h'->s.heap.UpToSlots h'->Q () { s with heap:=h' }):wpAny M A (noteFrame (.ref e) env) Q E s:=by
 have t':=t;obtain⟨hkb,hen,hl,fl,oe,vs,T,oT,ts,he,⟨hcls,h0⟩,hd,h1,hnT,hTe,hT,hdT,h3⟩:=t;subst hcls;unfold noteFrame;simp only[hf];refine Qb (wpAny_field he hd h1 ?_);rw[if_pos (show(Value.ref T != Value.none)=true from by simp)];refine Qb (wpAny_field hT hdT h3 ?_);by_cases hfl:(fl==rawInt L)=true
 ·rw[if_pos hfl];exact Qg (hQ s.heap t' FK)
 ·rw[if_neg hfl];refine Qb (wpAny_setField hT hdT (Array.getElem?_eq_some_iff.mp h3).1 ?_);have other:∀b,b≠T->(s.heap.update T (Obj.mapFields (·.setIfInBounds 3 Value.none))).get? b=s.heap.get? b:=λb hb=>Heap.get?_update_other _ _ (Ne.symm hb)
  have noRecord:∀b o,s.heap.get? b=some o->(∀vs,o.data≠.fields vs)->b≠T:=λb o hb hnf q=>by
   rw[q,hT]at hb;injection hb with hb;subst hb;exact hnf ts hdT
  refine wpAny_entryW hfr (hl.of_keeps λb o hb hnf=>⟨o,(other b (noRecord b o hb hnf)).trans hb,rfl⟩) hf ((other e (Ne.symm hTe)).trans he)
   (λb o hbo=>(other b λq=>by rw[q,hnT]at hbo;cases hbo).trans (hkb b o hbo)) hen hd (Array.getElem?_eq_some_iff.mp h1).1 h0
   λh' ⟨x1,x2,x3,x4⟩=>hQ h' ⟨x1,hen,x2,_,x3⟩ λb o hb hnf=>x4 b o ((other b (noRecord b o hb hnf)).trans hb) hnf
theorem yr(f:Option Addr)(t:vA base l e cls a0 s.heap)(hQ:∀h',vA base l e cls a0 h'->s.heap.UpToSlots h'->Q () { s with heap:=h' }):wpAny M A (setFlight (.ref e) f) Q E s:=by
 obtain⟨hkb,hen,hl,fl,oe,vs,T,oT,ts,he,hcls,hd,h1,hnT,hTe,hT,hdT,h3⟩:=t;have hsz3:3<ts.size:=(Array.getElem?_eq_some_iff.mp h3).1;have other:∀b,b≠T->(s.heap.update T (Obj.mapFields (·.setIfInBounds 3 (f.elim Value.none λf=>rawInt f)))).get? b=s.heap.get? b:=
  λb hb=>Heap.get?_update_other _ _ (Ne.symm hb)
 have noRecord:∀b o,s.heap.get? b=some o->(∀vs,o.data≠.fields vs)->b≠T:=λb o hb hnf q=>by
  rw[q,hT]at hb;injection hb with hb;subst hb;exact hnf ts hdT
 unfold setFlight;refine Qb (wpAny_field he hd h1 ?_);rw[if_pos (show(Value.ref T != Value.none)=true from by simp)];refine wpAny_setField hT hdT hsz3 (hQ _ ⟨λb o hbo=>(other b λq=>by rw[q,hnT]at hbo;cases hbo).trans (hkb b o hbo),hen,
  hl.of_keeps λb o hb hnf=>⟨o,(other b (noRecord b o hb hnf)).trans hb,rfl⟩,(f.elim Value.none λf=>rawInt f),?_⟩ λb o hb hnf=>⟨o.slots,(other b (noRecord b o hb hnf)).trans hb⟩)
 exact⟨oe,vs,T,_,_,(other e (Ne.symm hTe)).trans he,hcls,hd,h1,hnT,hTe,Heap.get?_update_self _ hT (Obj.isFreed_of_fields (Obj.data_mapFields hdT _)),Obj.data_mapFields hdT _,by simp[hsz3]⟩
theorem Dz(t:vA base l e cls a0 s.heap)(hQ:∀h',Heap.FlyingW base l e cls a0 h'->s.heap.UpToSlots h'->Q () { s with heap:=h' }):wpAny M A (setFlight (.ref e) none) Q E s:=by
 obtain⟨hkb,hen,hl,fl,ht⟩:=t;exact wpAny_setFlight_noneW hkb hl ht λh' k1 k2 k3 k4=>hQ h' ⟨k1,hen,k2,k3⟩ λb o hb hn=>⟨o.slots,k4 b o hb hn⟩
theorem Be(hfr:A.frames=some (env::outer))(hf:env.frame=some L)(t:vA base (env::outer) e cls a0 s.heap)
  (hQ:∀h',Heap.FlyingW base outer e cls a0 h'->s.heap.UpToSlots h'->Q () { s with heap:=h' }):wpAny M A (leaving env (.ref e)) Q E s:=by
 unfold leaving;refine Qb (wH hfr hf t λh1 t1 u1=>?_);refine Dz (s:={ s with heap:=h1 }) t1 λh2 t2 u2=>?_
 obtain⟨k1,k2,⟨_,_,k3⟩,k4⟩:=t2;exact hQ h2 ⟨k1,k2,k3,k4⟩ (u1.trans u2)
theorem Dy{α:Type}{k:Value->Sem α}{Q:α->Shared->Prop}(t:vA base l e cls a0 s.heap)(hQ:∀T,wpAny M A (k (.ref T)) Q E s):wpAny M A (field (.ref e) 1>>=k) Q E s:=by
 obtain⟨hkb,hen,hl,fl,oe,vs,T,oT,ts,he,hcls,hd,h1,r⟩:=t;exact Qb (wpAny_field he hd h1 (hQ T))
theorem DA{α:Type}{what:String}{Q:α->Shared->Prop}(t:vA base l e cls a0 s.heap)(hQ:∀h',vA base l e cls a0 h'->s.heap.UpToSlots h'->E (.ref e) { s with heap:=h' }):wpAny M A (PySem.passOn what (.ref e) env:Sem α) Q E s:=by
 unfold PySem.passOn;refine Dy t λT=>?_
 rw[if_neg (show ¬((Value.ref T==Value.none)=true)from by simp)];refine Qb (yr _ t λh' t' u=>?_);exact wpAny_throw (hQ h' t' u)
theorem vA.first{h:Heap}(x:vA base l e cls a0 h):∃oe vs,h.get? e=some oe/\oe.cls=cls/\oe.data=.fields vs/\vs[0]?=some a0:=by
 obtain⟨_,_,_,_,oe,vs,_,_,_,he,hc,hd,_⟩:=x;exact⟨oe,vs,he,hc.1,hd,hc.2⟩
end
abbrev St:=L2.St
abbrev aT:=@L2.aT
def fO:cI->Qa
 |.inl i=>.int i
 |.inr x=>.str x
mutual
def Rp(H:Hp):Qa->V->Prop
 |.none,v=>v=.non
 |.bool b,v=>v=.bl b
 |.int i,v=>v=.int i
 |.str x,v=>v=.str x
 |.tuple ds,v=>∃a vs,v=.ref a/\H a=some (.tup vs)/\bI H ds vs
 |.list ds,v=>∃a o vs,v=.ref a/\H a=some (.frz o (.lst vs))/\bI H ds vs
 |.dict kvs,v=>(∃a o ks,v=.ref a/\H a=some (.frz o (.dK ks))/\fL H kvs ks)\/(∃a o C dx fs,v=.ref a/\H a=some (.frz o (.ins C dx fs))/\yG H C fs kvs)\/∃a o ks,v=.ref a/\H a=some (.frz o (.dT ks))/\pW H ks kvs
def bI(H:Hp):List Qa->List V->Prop
 | [],vs=>vs=[]
 |d::ds,vs=>∃v r,vs=v::r/\Rp H d v/\bI H ds r
def fL(H:Hp):List (Qa×Qa)->List (cI×V)->Prop
 | [],ks=>ks=[]
 |kd::kvs,ks=>∃x v r,ks=(x,v)::r/\yH H kd x v/\fL H kvs r
def yH(H:Hp):Qa×Qa->cI->V->Prop
 | (k,d),x,v=>k=fO x/\Rp H d v
def yG(H:Hp)(C:Addr)(fs:List (Str×V)):List (Qa×Qa)->Prop
 | []=>False
 |kd::kvs=>kd=(.none,.int C)/\wN H kvs fs
def wN(H:Hp):List (Qa×Qa)->List (Str×V)->Prop
 | [],fs=>fs=[]
 |kd::kvs,fs=>∃x v r,fs=(x,v)::r/\FO H kd x v/\wN H kvs r
def FO(H:Hp):Qa×Qa->Str->V->Prop
 | (k,d),x,v=>k=.str x/\Rp H d v
def pW(H:Hp)(ks:List (List cI×V)):List (Qa×Qa)->Prop
 | []=>False
 |kd::kvs=>kd=(.bool true,.none)/\gr H kvs ks
def gr(H:Hp):List (Qa×Qa)->List (List cI×V)->Prop
 | [],ks=>ks=[]
 |kd::kvs,ks=>∃x v r,ks=(x,v)::r/\FP H kd x v/\gr H kvs r
def FP(H:Hp):Qa×Qa->List cI->V->Prop
 | (k,d),x,v=>k=.tuple (x.map fO)/\Rp H d v
end
def il:List (Qa×Qa)->Bool
 | (.none,_)::_=>true
 | (.bool _,_)::_=>true
 | _=>false
def Kp(H H':Hp):Prop:=(∀b xs,H b=some (.tup xs)->H' b=some (.tup xs))/\∀b o u,H b=some (.frz o u)->H' b=some (.frz o u)
theorem Kp.trans{H H1 H2:Hp}(a:Kp H H1)(b:Kp H1 H2):Kp H H2:=⟨λc xs h=>b.1 c xs (a.1 c xs h),λc o u h=>b.2 c o u (a.2 c o u h)⟩
theorem Kp.of{H H':Hp}(s:aN H H'):Kp H H':=⟨λb xs h=>s b _ h,λb o u h=>s b _ h⟩
mutual
theorem Rp.kp{H H':Hp}(k:Kp H H'):∀(d:Qa) (v:V),Rp H d v->Rp H' d v
 |.none,v,h=>by simpa only[Rp]using h
 |.bool b,v,h=>by simpa only[Rp]using h
 |.int i,v,h=>by simpa only[Rp]using h
 |.str x,v,h=>by simpa only[Rp]using h
 |.tuple ds,v,h=>by
  simp only[Rp]at h ⊢;obtain⟨a,vs,e,ha,r⟩:=h;exact⟨a,vs,e,k.1 _ _ ha,bI.kp k ds vs r⟩
 |.list ds,v,h=>by
  simp only[Rp]at h ⊢;obtain⟨a,o,vs,e,ha,r⟩:=h;exact⟨a,o,vs,e,k.2 _ _ _ ha,bI.kp k ds vs r⟩
 |.dict kvs,v,h=>by
  simp only[Rp]at h ⊢;rcases h with⟨a,o,ks,e,ha,r⟩| ⟨a,o,C,dx,fs,e,ha,r⟩| ⟨a,o,ks,e,ha,r⟩
  ·exact .inl ⟨a,o,ks,e,k.2 _ _ _ ha,fL.kp k kvs ks r⟩
  ·exact .inr (.inl ⟨a,o,C,dx,fs,e,k.2 _ _ _ ha,yG.kp k C fs kvs r⟩)
  ·exact .inr (.inr ⟨a,o,ks,e,k.2 _ _ _ ha,pW.kp k ks kvs r⟩)
theorem bI.kp{H H':Hp}(k:Kp H H'):∀(ds:List Qa) (vs:List V),bI H ds vs->bI H' ds vs
 | [],vs,h=>by simpa only[bI]using h
 |d::ds,vs,h=>by
  simp only[bI]at h ⊢;obtain⟨v,r,e,h1,h2⟩:=h;exact⟨v,r,e,Rp.kp k d v h1,bI.kp k ds r h2⟩
theorem fL.kp{H H':Hp}(k:Kp H H'):∀(kvs:List (Qa×Qa)) (ks:List (cI×V)),fL H kvs ks->fL H' kvs ks
 | [],ks,h=>by simpa only[fL]using h
 |kd::kvs,ks,h=>by
  simp only[fL]at h ⊢;obtain⟨x,v,r,e,h1,h2⟩:=h;exact⟨x,v,r,e,yH.kp k kd x v h1,fL.kp k kvs r h2⟩
theorem yH.kp{H H':Hp}(k:Kp H H'):∀(kd:Qa×Qa) (x:cI) (v:V),yH H kd x v->yH H' kd x v
 | (c,d),x,v,h=>by
  simp only[yH]at h ⊢;exact⟨h.1,Rp.kp k d v h.2⟩
theorem yG.kp{H H':Hp}(k:Kp H H')(C:Addr)(fs:List (Str×V)):∀(kvs:List (Qa×Qa)),yG H C fs kvs->yG H' C fs kvs
 | [],h=>by simpa only[yG]using h
 |kd::kvs,h=>by
  simp only[yG]at h ⊢;exact⟨h.1,wN.kp k kvs fs h.2⟩
theorem wN.kp{H H':Hp}(k:Kp H H'):∀(kvs:List (Qa×Qa)) (fs:List (Str×V)),wN H kvs fs->wN H' kvs fs
 | [],fs,h=>by simpa only[wN]using h
 |kd::kvs,fs,h=>by
  simp only[wN]at h ⊢;obtain⟨x,v,r,e,h1,h2⟩:=h;exact⟨x,v,r,e,FO.kp k kd x v h1,wN.kp k kvs r h2⟩
theorem FO.kp{H H':Hp}(k:Kp H H'):∀(kd:Qa×Qa) (x:Str) (v:V),FO H kd x v->FO H' kd x v
 | (c,d),x,v,h=>by
  simp only[FO]at h ⊢;exact⟨h.1,Rp.kp k d v h.2⟩
theorem pW.kp{H H':Hp}(k:Kp H H')(ks:List (List cI×V)):∀(kvs:List (Qa×Qa)),pW H ks kvs->pW H' ks kvs
 | [],h=>by simpa only[pW]using h
 |kd::kvs,h=>by
  simp only[pW]at h ⊢;exact⟨h.1,gr.kp k kvs ks h.2⟩
theorem gr.kp{H H':Hp}(k:Kp H H'):∀(kvs:List (Qa×Qa)) (ks:List (List cI×V)),gr H kvs ks->gr H' kvs ks
 | [],ks,h=>by simpa only[gr]using h
 |kd::kvs,ks,h=>by
  simp only[gr]at h ⊢;obtain⟨x,v,r,e,h1,h2⟩:=h;exact⟨x,v,r,e,FP.kp k kd x v h1,gr.kp k kvs r h2⟩
theorem FP.kp{H H':Hp}(k:Kp H H'):∀(kd:Qa×Qa) (x:List cI) (v:V),FP H kd x v->FP H' kd x v
 | (c,d),x,v,h=>by
  simp only[FP]at h ⊢;exact⟨h.1,Rp.kp k d v h.2⟩
end
theorem Rp.mono{H H':Hp}{d:Qa}{v:V}(h:Rp H d v)(s:aN H H'):Rp H' d v:=Rp.kp (Kp.of s) d v h
theorem bI.mono{H H':Hp}{ds:List Qa}{vs:List V}(h:bI H ds vs)(s:aN H H'):bI H' ds vs:=bI.kp (Kp.of s) ds vs h
def iB(H:Hp):Qa->V->Prop
 |.list ds,v=>∃a vs,v=.ref a/\H a=some (.lst vs)/\bI H ds vs
 |.dict kvs,v=>(∃a ks,v=.ref a/\H a=some (.dK ks)/\fL H kvs ks)\/∃a ks,v=.ref a/\H a=some (.dT ks)/\pW H ks kvs
 | _,_=>False
theorem iB.mono{H H':Hp}{d:Qa}{v:V}(h:iB H d v)(s:aN H H'):iB H' d v:=by
 cases d<;>simp only[iB]at h ⊢
 ·obtain⟨a,vs,e,ha,r⟩:=h;exact⟨a,vs,e,s _ _ ha,bI.mono r s⟩
 ·rcases h with⟨a,vs,e,ha,r⟩| ⟨a,vs,e,ha,r⟩
  ·exact .inl ⟨a,vs,e,s _ _ ha,fL.kp (Kp.of s) _ _ r⟩
  ·exact .inr ⟨a,vs,e,s _ _ ha,pW.kp (Kp.of s) _ _ r⟩
theorem pW.ins{H:Hp}{kvs:List (Qa×Qa)}{ks:List (List cI×V)}(h:pW H ks kvs):il kvs=true:=by
 cases kvs with
 |nil=>simp only[pW]at h
 |cons kd kvs=>
  simp only[pW]at h;rw[h.1];rfl
def jn(H:Hp)(d:Qa)(v:V):Prop:=Rp H d v\/iB H d v
theorem jn.mono{H H':Hp}{d:Qa}{v:V}(h:jn H d v)(s:aN H H'):jn H' d v:=h.elim (λh=>.inl (h.mono s)) λh=>.inr (h.mono s)
def Br(H H':Hp)(d:Qa)(v:V):Prop:=iB H' d v/\∃a,v=.ref a/\H a=none
inductive ba where
 |non
 |val (d:Qa)
 |own (d:Qa)
 |exc (p:Addr)
abbrev aV:=List ba
def kF(H:Hp):ba->Option V->Prop
 |.non,_=>True
 |.val d,o=>∃v,o=some v/\Rp H d v
 |.own d,o=>∃v,o=some v/\iB H d v
 |.exc p,o=>o=some (.ref p)
def Sl(H:Hp)(σ:St)(ρ:aV):Prop:=σ.length=ρ.length/\∀(i:Nat) (c:ba) (o:Option V),ρ[i]?=some c->σ[i]?=some o->kF H c o
theorem kF.mono{H H':Hp}{c:ba}{o:Option V}(h:kF H c o)(s:aN H H'):kF H' c o:=by
 cases c<;>simp only[kF]at h ⊢
 ·obtain⟨v,e,h⟩:=h;exact⟨v,e,h.mono s⟩
 ·obtain⟨v,e,h⟩:=h;exact⟨v,e,h.mono s⟩
 ·exact h
theorem Sl.mono{H H':Hp}{σ:St}{ρ:aV}(h:Sl H σ ρ)(s:aN H H'):Sl H' σ ρ:=⟨h.1,λi c o h1 h2=>(h.2 i c o h1 h2).mono s⟩
inductive R(α:Type) where
 |ok (a:α)
 |ex (c:Str)
 |no
def R.bind{α β:Type}:R α->(α->R β)->R β
 |.ok a,f=>f a
 |.ex c,_=>.ex c
 |.no,_=>.no
instance:Monad R where
 pure:=.ok
 bind:=R.bind
@[simp]theorem R.ok_bind{α β:Type}(a:α)(f:α->R β):(R.ok a>>=f)=f a:=rfl
@[simp]theorem R.ex_bind{α β:Type}(c:Str)(f:α->R β):((R.ex c:R α)>>=f)=.ex c:=rfl
@[simp]theorem R.no_bind{α β:Type}(f:α->R β):((R.no:R α)>>=f)=.no:=rfl
@[simp]theorem R.pure_ok{α:Type}(a:α):(pure a:R α)=.ok a:=rfl
structure oS(P:Program)(w:World)(outer:List Env)(H:Hp)(s:Shared)(C:Addr)(H':Hp)(e:Value)(s':Shared):Prop where
 os:s'.os=s.os
 bare:AllBare s'.gens
 same:aN H H'
 ex:∃(p:Addr) (a0:Value) (B:Heap),e=.ref p/\Heap.FlyingW B outer p (.ref C) a0 s'.heap/\iZ P w H' B/\H' p=none/\∀b o,s.heap.get? b=some o->H b=none->b∉mO outer->B.get? b=some o/\H' b=none
 slot:∀b o,s.heap.get? b=some o->H b=none->b∈mO outer->(∃sl,s'.heap.get? b=some { o with slots:=sl })/\H' b=none
structure t9(P:Program)(w:World)(outer:List Env)(H:Hp)(s:Shared)(C:Addr)(H':Hp)(e:Value)(s':Shared):Prop where
 os:s'.os=s.os
 bare:AllBare s'.gens
 same:aN H H'
 ex:∃(p:Addr) (a0:Value) (B:Heap),e=.ref p/\vA B outer p (.ref C) a0 s'.heap/\iZ P w H' B/\H' p=none/\∀b o,s.heap.get? b=some o->H b=none->b∉mO outer->B.get? b=some o/\H' b=none
 slot:∀b o,s.heap.get? b=some o->H b=none->b∈mO outer->(∃sl,s'.heap.get? b=some { o with slots:=sl })/\H' b=none
theorem oS.hld{P:Program}{w:World}{outer:List Env}{H:Hp}{s:Shared}{C:Addr}{H':Hp}{e:Value}{s':Shared}(f:oS P w outer H s C H' e s'):t9 P w outer H s C H' e s':=
 ⟨f.os,f.bare,f.same,let ⟨p,a0,B,h1,h2,h3⟩:=f.ex;⟨p,a0,B,h1,vA.of h2,h3⟩,f.slot⟩
def cX(P:Program)(w:World)(mg:Str->Option Value):Bj:=λouter H s E e s'=>∃n C H',mg n=some (.ref C)/\oS P w outer H s C H' e s'/\E (.str n 0) none H'
def EX(X:Cx):XK:=λv _ H'=>∀(n:Str) (C:Addr),v=.str n 0->X.mg n=some (.ref C)->∀(pins:List (Addr×Obj)) (σ:St) (H:Hp) (s:Shared) (e:Value) (s':Shared),aT X pins σ H s->oS X.prog X.w X.stack H s C H' e s'->X.xe e s'
theorem uT{X:Cx}:qk (cX X.prog X.w X.mg) X (EX X):=λpins σ H s e s' I ⟨n,C,H',hm,f,q⟩=>q n C rfl hm pins σ H s e s' I f
def Xw(X:Cx)(c:Str)(H:Hp):Prop:=∀H1,aN H H1->∀(C:Addr),X.mg c=some (.ref C)->∀(pins:List (Addr×Obj)) (σ:St) (Hc:Hp) (s:Shared) (e:Value) (s':Shared),aT X pins σ Hc s->t9 X.prog X.w X.stack Hc s C H1 e s'->X.xe e s'
theorem Xw.mono{X:Cx}{c:Str}{H H':Hp}(h:Xw X c H)(s:aN H H'):Xw X c H':=λH1 s1=>h H1 (s.trans s1)
theorem Xw.ex{X:Cx}{c:Str}{H:Hp}(h:Xw X c H):∀H1,aN H H1->EX X (.str c 0) none H1:=λH1 s1 n C en hm pins σ Hc s e s' I f=>by
 have en':c=n:=by injection en
 subst en';exact h H1 s1 C hm pins σ Hc s e s' I f.hld
def Ia(X:Cx)(c:Str)(Fm:Hp):Prop:=∀C,X.mg c=some (.ref C)->∀(pins:List (Addr×Obj)) (σ:St) (H:Hp) (s:Shared),aN Fm H->aT X pins σ H s->∀(h':Heap) (p:Addr) (vs:List Value),Heap.MadeExcOf s.heap h' p (.ref C) vs->X.xe (.ref p) { s with heap:=h' }
theorem Ia.mono{X:Cx}{c:Str}{H H':Hp}(h:Ia X c H)(s:aN H H'):Ia X c H':=λC hm pins σ H1 s1 e=>h C hm pins σ H1 s1 (s.trans e)
def yg(X:Cx)(P:Hp->Hp->Qa->V->Prop)(r:R Qa)(H:Hp)(Q:VK):Prop:=
 match r with
 |.ok d=>∀v H',aN H H'->P H H' d v->Q v H'
 |.ex c=>Xw X c H
 |.no=>False
abbrev iM:Hp->Hp->Qa->V->Prop:=λ_ H' d v=>Rp H' d v
abbrev Ai:Hp->Hp->Qa->V->Prop:=λ_ H' d v=>jn H' d v
abbrev J9:Hp->Hp->Qa->V->Prop:=λH H' d v=>Rp H' d v\/Br H H' d v
abbrev Fe:=aV->R Qa
def lH(X:Cx)(P:Hp->Hp->Qa->V->Prop)(f:Fe):TE:=λσ H Q=>∃ρ,Sl H σ ρ/\yg X P (f ρ) H Q
def dA(X:Cx)(e:Expr)(f:Fe):Prop:=PE X e (lH X iM f)
structure Z.dA(X:Cx)(e:Expr)(f:Fe):Prop where
 un:D2.dA X e f
def ff(X:Cx)(e:Expr)(f:Fe):Prop:=PE X e (lH X Ai f)
structure Z.ff(X:Cx)(e:Expr)(f:Fe):Prop where
 un:D2.ff X e f
def DY(X:Cx)(e:Expr)(f:Fe):Prop:=PE X e (lH X J9 f)
structure Z.DY(X:Cx)(e:Expr)(f:Fe):Prop where
 un:D2.DY X e f
def mS(X:Cx)(e:Expr)(f:Fe):Prop:=PE X e (lH X Br f)
structure Z.mS(X:Cx)(e:Expr)(f:Fe):Prop where
 un:D2.mS X e f
def RA(I:Hp->Qa->V->Prop)(H:Hp):List Qa->List V->Prop
 | [],vs=>vs=[]
 |d::ds,vs=>∃v r,vs=v::r/\I H d v/\RA I H ds r
theorem my{H:Hp}:∀{ds:List Qa} {vs:List V},RA Rp H ds vs<->bI H ds vs
 | [],vs=>by simp only[RA,bI]
 |d::ds,vs=>by simp only[RA,bI,my (ds:=ds)]
def Db(X:Cx)(I:Hp->Qa->V->Prop)(f:aV->R (List Qa)):TA:=λσ H Q=>∃ρ,Sl H σ ρ/\match f ρ with
 |.ok ds=>∀vs H',aN H H'->RA I H' ds vs->Q vs H'
 |.ex c=>Xw X c H
 |.no=>False
def tZ(X:Cx)(es:List Expr)(f:aV->R (List Qa)):Prop:=PA X es (Db X Rp f)
structure Z.tZ(X:Cx)(es:List Expr)(f:aV->R (List Qa)):Prop where
 un:D2.tZ X es f
def Gi(X:Cx)(es:List Expr)(f:aV->R (List Qa)):Prop:=PA X es (Db X jn f)
def Fl(X:Cx)(f:aV->R Bool):TT:=λσ H Q=>∃ρ,Sl H σ ρ/\match f ρ with
 |.ok b=>∀H',aN H H'->Q b H'
 |.ex c=>Xw X c H
 |.no=>False
def pH(X:Cx)(e:Expr)(f:aV->R Bool):Prop:=PT X e (Fl X f)
structure Z.pH(X:Cx)(e:Expr)(f:aV->R Bool):Prop where
 un:D2.pH X e f
def Bl(X:Cx)(e:Expr)(f:aV->R Bool):Prop:=PW X e (Fl X f)
structure Z.Bl(X:Cx)(e:Expr)(f:aV->R Bool):Prop where
 un:D2.Bl X e f
theorem PE.imp{X:Cx}{e:Expr}{t t':TE}(h:PE X e t)(i:∀σ H Q,t' σ H Q->t σ H Q):PE X e t':=λpins s σ H Q I q=>h pins s σ H Q I (i σ H Q q)
theorem PT.imp{X:Cx}{e:Expr}{t t':TT}(h:PT X e t)(i:∀σ H Q,t' σ H Q->t σ H Q):PT X e t':=λpins s σ H Q I q=>h pins s σ H Q I (i σ H Q q)
theorem PW.imp{X:Cx}{e:Expr}{t t':TT}(h:PW X e t)(i:∀σ H Q,t' σ H Q->t σ H Q):PW X e t':=λwh pins s σ H Q I q=>h wh pins s σ H Q I (i σ H Q q)
theorem PA.imp{X:Cx}{e:List Expr}{t t':TA}(h:PA X e t)(i:∀σ H Q,t' σ H Q->t σ H Q):PA X e t':=λpos pins s σ H Q I q=>h pos pins s σ H Q I (i σ H Q q)
theorem lH.post{X:Cx}{P:Hp->Hp->Qa->V->Prop}{f:Fe}{σ:St}{H:Hp}{Q Q':VK}(h:lH X P f σ H Q)(i:∀v H',Q v H'->Q' v H'):lH X P f σ H Q':=by
 obtain⟨ρ,sl,q⟩:=h;refine⟨ρ,sl,?_⟩;cases e:f ρ with
 |ok d=>rw[e]at q;exact λv H' s p=>i _ _ (q v H' s p)
 |ex c=>rw[e]at q;exact q
 |no=>rw[e]at q;exact q
theorem Fl.post{X:Cx}{f:aV->R Bool}{σ:St}{H:Hp}{Q Q':Bool->Hp->Prop}(h:Fl X f σ H Q)(i:∀b H',Q b H'->Q' b H'):Fl X f σ H Q':=by
 obtain⟨ρ,sl,q⟩:=h;refine⟨ρ,sl,?_⟩;cases e:f ρ with
 |ok d=>rw[e]at q;exact λH' s=>i _ _ (q H' s)
 |ex c=>rw[e]at q;exact q
 |no=>rw[e]at q;exact q
theorem Db.post{X:Cx}{I:Hp->Qa->V->Prop}{f:aV->R (List Qa)}{σ:St}{H:Hp}{Q Q':List V->Hp->Prop}(h:Db X I f σ H Q)(i:∀vs H',Q vs H'->Q' vs H'):Db X I f σ H Q':=by
 obtain⟨ρ,sl,q⟩:=h;refine⟨ρ,sl,?_⟩;cases e:f ρ with
 |ok d=>rw[e]at q;exact λvs H' s p=>i _ _ (q vs H' s p)
 |ex c=>rw[e]at q;exact q
 |no=>rw[e]at q;exact q
theorem lH.weaken{X:Cx}{P P':Hp->Hp->Qa->V->Prop}{f:Fe}(h:∀H H' d v,P H H' d v->P' H H' d v)(σ:St)(H:Hp)(Q:VK)(q:lH X P' f σ H Q):lH X P f σ H Q:=by
 obtain⟨ρ,sl,q⟩:=q;refine⟨ρ,sl,?_⟩;cases e:f ρ with
 |ok d=>rw[e]at q;exact λv H' s p=>q v H' s (h _ _ _ _ p)
 |ex c=>rw[e]at q;exact q
 |no=>rw[e]at q;exact q
section
variable{X:Cx}{e:Expr}{f:Fe}
theorem dA.b(h:dA X e f):ff X e f:=PE.imp h (lH.weaken λ_ _ _ _ p=>Or.inl p)
theorem ae(h:Z.dA X e f):Z.ff X e f:=
 ⟨D2.dA.b h.un⟩
theorem mS.b(h:mS X e f):ff X e f:=PE.imp h (lH.weaken λ_ _ _ _ p=>Or.inr p.1)
theorem cq(h:Z.mS X e f):Z.ff X e f:=
 ⟨D2.mS.b h.un⟩
theorem mS.toF(h:mS X e f):DY X e f:=PE.imp h (lH.weaken λ_ _ _ _ p=>Or.inr p)
end
section
variable{X:Cx}{pins:List (Addr×Obj)}{σ:St}{H:Hp}{s:Shared}{a:Addr}{u:HO}
theorem k8(I:aT X pins σ H s)(h:H a=some u)(m1:∀xs,u≠.tup xs)(m2:∀o' u',u≠.frz o' u')(m3:∀ps,u≠.tbl ps)(m4:∀y,u≠.own y)(hg:∃o,s.heap.get? a=some o):∃o,aT X pins σ (dj H a (.frz o u)) s:=by
 have ob:=I.hok a u h;obtain⟨o,hg⟩:=hg;have nt:∀b xs,H b=some (.tup xs)->b≠a:=λb xs q z=>by subst z;rw[h]at q;exact m1 _ (Option.some.inj q)
 have nf:∀b o' u',H b=some (.frz o' u')->b≠a:=λb o' u' q z=>by subst z;rw[h]at q;exact m2 _ _ (Option.some.inj q)
 have nb:∀b ps,H b=some (.tbl ps)->b≠a:=λb ps q z=>by subst z;rw[h]at q;exact m3 _ (Option.some.inj q)
 have nw:∀b y,H b=some (.own y)->b≠a:=λb y q z=>by subst z;rw[h]at q;exact m4 _ (Option.some.inj q)
 have nn:∀b,H b=none->b≠a:=λb q z=>by subst z;rw[h]at q;cases q
 have st:∀b x,cD X.prog X.w H s.heap b x->cD X.prog X.w (dj H a (.frz o u)) s.heap b x:=λb x q=>
  q.stay (λc v _ e=>e) (λc e=>by rw[aD (nw _ _ e)];exact e) λc xs e=>by rw[aD (nt _ _ e)];exact e
 refine⟨o,⟨I.ok,I.os,I.bare,⟨I.base.keep,I.base.slot,λb ob' e n hx=>?_,I.base.there,λb xs e=>?_,λb ob' v e=>?_,λb ps e=>?_⟩,I.loc,I.cell,?_,λx c e=>?_,λp hp=>?_,λb x e=>?_,I.len⟩⟩
 ·have:=I.base.free b ob' e n hx;rw[aD (nn _ this)];exact this
 ·have:=I.base.tups b xs e;rw[aD (nt _ _ this)];exact this
 ·have:=I.base.frzs b ob' v e;rw[aD (nf _ _ _ this)];exact this
 ·obtain⟨m,q⟩:=I.base.tbls b ps e;exact⟨m,by rw[aD (nb _ _ q)];exact q⟩
 ·rw[aD (nn _ I.free)];exact I.free
 ·rw[aD (nn _ (I.freeC x c e))];exact I.freeC x c e
 ·obtain⟨p1,p2,p3⟩:=I.pin p hp;exact⟨p1,by rw[aD (nn _ p2)];exact p2,p3⟩
 ·by_cases hb:b=a
  ·subst hb;rw[bh]at e;cases e;exact⟨hg,st b u ob⟩
  ·rw[aD hb]at e;exact st b x (I.hok b x e)
theorem iL(I:aT X pins σ H s)(h:H a=some u)(hm:(∃xs,u=.lst xs)\/∃ks,u=.dK ks):∃o,aT X pins σ (dj H a (.frz o u)) s:=by
 have ob:=I.hok a u h;rcases hm with⟨xs,rfl⟩| ⟨ks,rfl⟩
 ·obtain⟨_,_,_,_,e⟩:=ob;exact k8 I h (λ_ z=>by cases z) (λ_ _ z=>by cases z) (λ_ z=>by cases z) (λ_ z=>by cases z) ⟨_,e⟩
 ·obtain⟨_,_,_,_,o,_,_,e,_⟩:=ob;exact k8 I h (λ_ z=>by cases z) (λ_ _ z=>by cases z) (λ_ z=>by cases z) (λ_ z=>by cases z) ⟨_,e⟩
theorem k9{ks:List (List cI×V)}(I:aT X pins σ H s)(h:H a=some (.dT ks)):∃o,aT X pins σ (dj H a (.frz o (.dT ks))) s:=by
 obtain⟨_,_,_,_,o,_,_,e,_⟩:=(show cD X.prog X.w H s.heap a (.dT ks)from I.hok a _ h)
 exact k8 I h (λ_ z=>by cases z) (λ_ _ z=>by cases z) (λ_ z=>by cases z) (λ_ z=>by cases z) ⟨_,e⟩
theorem lG{o':HO}{ks:List (List cI×V)}(h:H a=some (.dT ks)):Kp H (dj H a o'):=by
 refine⟨λb xs q=>?_,λb o u q=>?_⟩
 ·rw[aD (λz=>by subst z;rw[h]at q;cases q)];exact q
 ·rw[aD (λz=>by subst z;rw[h]at q;cases q)];exact q
theorem gA{o':HO}(h:H a=some u)(hm:(∃xs,u=.lst xs)\/∃ks,u=.dK ks):Kp H (dj H a o'):=by
 refine⟨λb xs e=>?_,λb o v e=>?_⟩
 ·rw[aD];exact e;rintro rfl;rw[h]at e;rcases hm with⟨_,rfl⟩| ⟨_,rfl⟩<;>cases e
 ·rw[aD];exact e;rintro rfl;rw[h]at e;rcases hm with⟨_,rfl⟩| ⟨_,rfl⟩<;>cases e
theorem GR{H0:Hp}{d:Qa}{v:V}(I:aT X pins σ H s)(hs:aN H0 H)(n:Br H0 H d v):∃H',aT X pins σ H' s/\aN H0 H'/\Rp H' d v:=by
 obtain⟨n,a,rfl,h0⟩:=n;have go:∀u:HO,H a=some u->((∃xs,u=.lst xs)\/∃ks,u=.dK ks)->∃o,aT X pins σ (dj H a (.frz o u)) s/\aN H0 (dj H a (.frz o u))/\Kp H (dj H a (.frz o u)):=λu hu hm=>by
  obtain⟨o,J⟩:=iL I hu hm;refine⟨o,J,λb x e=>?_,gA hu hm⟩;rw[aD (bo e h0)];exact hs b x e
 cases d<;>simp only[iB]at n
 ·obtain⟨a',vs,e,ha,r⟩:=n;cases e;obtain⟨o,J,S,K⟩:=go _ ha (.inl ⟨_,rfl⟩);refine⟨_,J,S,?_⟩;simp only[Rp];exact⟨a,o,vs,rfl,bh,bI.kp K _ _ r⟩
 ·rcases n with⟨a',vs,e,ha,r⟩| ⟨a',vs,e,ha,r⟩
  ·cases e;obtain⟨o,J,S,K⟩:=go _ ha (.inr ⟨_,rfl⟩);refine⟨_,J,S,?_⟩;simp only[Rp];exact .inl ⟨a,o,vs,rfl,bh,fL.kp K _ _ r⟩
  ·cases e;obtain⟨o,J⟩:=k9 I ha;refine⟨_,J,λb x e=>?_,?_⟩
   ·rw[aD (bo e h0)];exact hs b x e
   ·simp only[Rp];exact .inr (.inr ⟨a,o,vs,rfl,bh,pW.kp (lG ha) _ _ r⟩)
end
theorem DY.e{X:Cx}{e:Expr}{f:Fe}(h:DY X e f):dA X e f:=by
 intro pins s σ H Q I q;obtain⟨ρ,sl,q⟩:=q;cases ef:f ρ with
 |ok d=>
  rw[ef]at q;refine eR (h pins s σ H (λv H'=>aN H H'/\J9 H H' d v) I ⟨ρ,sl,by rw[ef];exact λv H' hs p=>⟨hs,p⟩⟩) λu s' ⟨v,H',I',r,hs,p⟩=>?_
  rcases p with p|p
  ·exact⟨v,H',I',r,q v H' hs p⟩
  ·obtain⟨H2,I2,S2,p2⟩:=GR I' hs p;exact⟨v,H2,I2,r,q v H2 S2 p2⟩
 |ex c=>rw[ef]at q;exact eR (h pins s σ H (λ_ _=>False) I ⟨ρ,sl,by rw[ef];exact q⟩) λu s' ⟨v,H',I',r,z⟩=>z.elim
 |no=>rw[ef]at q;exact q.elim
theorem Kd{X:Cx}{e:Expr}{f:Fe}(h:Z.DY X e f):Z.dA X e f:=
 ⟨D2.DY.e h.un⟩
theorem mS.e{X:Cx}{e:Expr}{f:Fe}(h:mS X e f):dA X e f:=(mS.toF h).e
theorem iO{X:Cx}{e:Expr}{f:Fe}(h:Z.mS X e f):Z.dA X e f:=
 ⟨D2.mS.e h.un⟩
structure D8{β:Type}(X:Cx)(T:R β->Hp->Prop):Prop where
 mono:∀r H H',T r H->aN H H'->T r H'
 ex:∀c H,T (.ex c) H->Xw X c H
 no:∀H,¬T .no H
def Dn(P:Hp->Hp->Qa->V->Prop):Prop:=∀H H1 H' d v,aN H H1->P H1 H' d v->P H H' d v
theorem iK:Dn iM:=λ_ _ _ _ _ _ p=>p
theorem vT:Dn Br:=λ_ _ _ _ _ s p=>⟨p.1,let ⟨a,e,h⟩:=p.2;⟨a,e,s.free h⟩⟩
theorem Es:Dn J9:=λ_ _ _ _ _ s p=>p.elim .inl λp=>.inr (vT _ _ _ _ _ s p)
section
variable{X:Cx}{σ:St}{H:Hp}
theorem gJ{P:Hp->Hp->Qa->V->Prop}(hP:Dn P)(Q:VK):D8 X (λr H=>yg X P r H Q) where
 mono:=λr H H' h s=>by
  cases r with
  |ok d=>exact λv H2 s2 p=>h v H2 (s.trans s2) (hP _ _ _ _ _ s p)
  |ex c=>exact Xw.mono h s
  |no=>exact h
 ex:=λc H h=>h
 no:=λH h=>h
theorem z9(Q:Bool->Hp->Prop):D8 X (λ(r:R Bool) H=>match r with|.ok b=>∀H',aN H H'->Q b H'|.ex c=>Xw X c H|.no=>False) where
 mono:=λr H H' h s=>by
  cases r with
  |ok d=>exact λH2 s2=>h H2 (s.trans s2)
  |ex c=>exact Xw.mono h s
  |no=>exact h
 ex:=λc H h=>h
 no:=λH h=>h
theorem Gc(I:Hp->Qa->V->Prop)(Q:List V->Hp->Prop):D8 X (λ(r:R (List Qa)) H=>match r with|.ok ds=>∀vs H',aN H H'->RA I H' ds vs->Q vs H'|.ex c=>Xw X c H|.no=>False) where
 mono:=λr H H' h s=>by
  cases r with
  |ok d=>exact λvs H2 s2=>h vs H2 (s.trans s2)
  |ex c=>exact Xw.mono h s
  |no=>exact h
 ex:=λc H h=>h
 no:=λH h=>h
theorem fX{β:Type}{T:R β->Hp->Prop}(t:D8 X T){P:Hp->Hp->Qa->V->Prop}{f:Fe}{k:aV->Qa->R β}(h:∃ρ,Sl H σ ρ/\T (f ρ>>=k ρ) H) :
  lH X P f σ H (λv H1=>∃ρ d,Sl H1 σ ρ/\aN H H1/\P H H1 d v/\T (k ρ d) H1):=by
 obtain⟨ρ,sl,q⟩:=h;refine⟨ρ,sl,?_⟩;cases e:f ρ with
 |ok d=>rw[e]at q;exact λv H1 s p=>⟨ρ,d,sl.mono s,s,p,t.mono _ _ _ q s⟩
 |ex c=>rw[e]at q;exact t.ex _ _ q
 |no=>rw[e]at q;exact(t.no _ q).elim
theorem uw{β:Type}{T:R β->Hp->Prop}(t:D8 X T){f:aV->R Bool}{k:aV->Bool->R β}(h:∃ρ,Sl H σ ρ/\T (f ρ>>=k ρ) H) :
  Fl X f σ H (λb H1=>∃ρ,Sl H1 σ ρ/\aN H H1/\T (k ρ b) H1):=by
 obtain⟨ρ,sl,q⟩:=h;refine⟨ρ,sl,?_⟩;cases e:f ρ with
 |ok d=>rw[e]at q;exact λH1 s=>⟨ρ,sl.mono s,s,t.mono _ _ _ q s⟩
 |ex c=>rw[e]at q;exact t.ex _ _ q
 |no=>rw[e]at q;exact(t.no _ q).elim
theorem qx{β:Type}{T:R β->Hp->Prop}(t:D8 X T){I:Hp->Qa->V->Prop}{f:aV->R (List Qa)}{k:aV->List Qa->R β}(h:∃ρ,Sl H σ ρ/\T (f ρ>>=k ρ) H) :
  Db X I f σ H (λvs H1=>∃ρ ds,Sl H1 σ ρ/\aN H H1/\RA I H1 ds vs/\T (k ρ ds) H1):=by
 obtain⟨ρ,sl,q⟩:=h;refine⟨ρ,sl,?_⟩;cases e:f ρ with
 |ok d=>rw[e]at q;exact λvs H1 s p=>⟨ρ,d,sl.mono s,s,p,t.mono _ _ _ q s⟩
 |ex c=>rw[e]at q;exact t.ex _ _ q
 |no=>rw[e]at q;exact(t.no _ q).elim
end
def ag(i:Nat):Fe:=λρ=>match ρ[i]? with
 |some (.val d)=>.ok d
 | _=>.no
def eS(i:Nat):Fe:=λρ=>match ρ[i]? with
 |some (.val d)=>.ok d
 |some (.own d)=>.ok d
 | _=>.no
def eC(d:Qa):Fe:=λ_=>.ok d
structure Tb(X:Cx)(nl:Nat)(G:List Str):Prop where
 hu:X.A.units+64<cLine
 calm:X.calm=true
 nd:X.N.Nodup
 vis:∀x∈X.N,Gu X.env.scope x/\(x==("__debug__" : Str))=false/\(x==("__classdict__" : Str))=false
 loc:∀x∈X.N.take nl,FN X.env.scope x/\(X.fn x=true\/X.env.scope.names.lookup x=some .local)
 gl:∀x∈G,Gl X x/\(x==("__debug__" : Str))=false/\x≠("__name__" : Str)
section
variable{X:Cx}{nl:Nat}{G:List Str}{x:Str}{pos:Pos}
theorem Sl.at{H:Hp}{σ:St}{ρ:aV}{i:Nat}{c:ba}(h:Sl H σ ρ)(e:ρ[i]?=some c):∃o,σ[i]?=some o/\kF H c o:=by
 have hi:i<σ.length:=by rw[h.1];exact(List.getElem?_eq_some_iff.mp e).1
 exact⟨σ[i],List.getElem?_eq_getElem hi,h.2 i c _ e (List.getElem?_eq_getElem hi)⟩
theorem aa(T:Tb X nl G)(i:Nat)(hN:X.N[i]?=some x):Z.dA X (.Name x pos) (ag i):=⟨by
 have hm:=T.vis x (List.mem_of_getElem? hN);refine PE.imp (jg hN hm.1 hm.2.1 hm.2.2) λσ H Q zq0=>?_
 obtain⟨ρ,sl,q⟩:=zq0;unfold ag at q;split at q
 ·rename_i d e;obtain⟨o,h1,v,rfl,h2⟩:=sl.at e;exact⟨v,h1,q v H (aN.refl H) h2⟩
 ·exact q.elim⟩
theorem cT(T:Tb X nl G)(i:Nat)(hN:X.N[i]?=some x):Z.ff X (.Name x pos) (eS i):=⟨by
 have hm:=T.vis x (List.mem_of_getElem? hN);refine PE.imp (jg hN hm.1 hm.2.1 hm.2.2) λσ H Q zq0=>?_
 obtain⟨ρ,sl,q⟩:=zq0;unfold eS at q;split at q
 ·rename_i d e;obtain⟨o,h1,v,rfl,h2⟩:=sl.at e;exact⟨v,h1,q v H (aN.refl H) (.inl h2)⟩
 ·rename_i d e;obtain⟨o,h1,v,rfl,h2⟩:=sl.at e;exact⟨v,h1,q v H (aN.refl H) (.inr h2)⟩
 ·exact q.elim⟩
theorem qN{e:Expr}{d:Qa}{v:V}(h:PE X e (tC v))(r:∀H,Rp H d v):dA X e (eC d):=
 PE.imp h λσ H Q ⟨ρ,sl,q⟩=>q v H (aN.refl H) (r H)
theorem aj{i j}:Z.dA X (.Constant (.int i) j pos) (eC (.int i)):=⟨qN Hl λH=>by simp only[Rp]⟩
theorem bF{b j}:Z.dA X (.Constant (.bool b) j pos) (eC (.bool b)):=⟨qN Jj λH=>by simp only[Rp]⟩
theorem dn{j}:Z.dA X (.Constant .none j pos) (eC .none):=⟨qN Ho λH=>by simp only[Rp]⟩
theorem qu{y j}:Z.dA X (.Constant (.str y) j pos) (eC (.str y)):=⟨qN Ht λH=>by simp only[Rp]⟩
theorem bz{i:Int}{t:Tok}(T:Tb X nl G)(j:Nat)(hG:G[j]?=some x)(hm:X.mg x=some (.int i t)):Z.dA X (.Name x pos) (eC (.int i)):=⟨by
 have g:=T.gl x (List.mem_of_getElem? hG);exact qN (zI g.1 hm (v:=.int i) ⟨t,rfl⟩ g.2.1) λH=>by simp only[Rp]⟩
end
section
variable{X:Cx}{a b c:Expr}{fa fb fc:Fe}{pos:Pos}
def e2(g:Qa->Qa->R Qa)(fa fb:Fe):Fe:=λρ=>fa ρ>>=λx=>fb ρ>>=λy=>g x y
def e1(g:Qa->R Qa)(fa:Fe):Fe:=λρ=>fa ρ>>=λx=>g x
def cY(X:Cx)(P:Hp->Hp->Qa->V->Prop)(r:R2)(g:Qa->Qa->R Qa):Prop:=
 ∀H x y dx dy Q,jn H dx x->jn H dy y->yg X P (g dx dy) H Q->r x y H Q
theorem two{P:Hp->Hp->Qa->V->Prop}{r:R2}{g:Qa->Qa->R Qa}(hP:Dn P)(hg:cY X P r g)(σ:St)(H:Hp)(Q:VK)(h:lH X P (e2 g fa fb) σ H Q) :
  JR r (lH X Ai fa) (lH X Ai fb) σ H Q:=
 (fX (P:=Ai) (gJ (X:=X) hP Q) h).post λv H1 ⟨ρ1,d1,sl1,_,p1,q1⟩=>
  (fX (P:=Ai) (f:=fb) (k:=λ_ y=>g d1 y) (gJ (X:=X) hP Q) ⟨ρ1,sl1,q1⟩).post λu H2 ⟨_,d2,_,s2,p2,q2⟩=>hg H2 v u d1 d2 Q (jn.mono p1 s2) p2 q2
theorem oq{op:Operator}{P:Hp->Hp->Qa->V->Prop}{r:R2}{g:Qa->Qa->R Qa}(hP:Dn P)(ho:kD X (binaryOp op) r)(hg:cY X P r g)(ha:ff X a fa)(hb:ff X b fb) :
  PE X (.BinOp a op b pos) (lH X P (e2 g fa fb)):=PE.imp (F1 ho ha hb) (two hP hg)
theorem ou{op:CmpOp}{r:R2}{g:Qa->Qa->R Qa}(ho:kD X (compareOp op) r)(hg:cY X iM r g)(ha:ff X a fa)(hb:ff X b fb)(hm:behindInMarks op b=false) :
  dA X (.Compare a [op] [b] pos) (e2 g fa fb):=PE.imp (E7 ho ha hb hm) (two iK hg)
end
def vL:Qa->R Bool
 |.bool b=>.ok b
 | _=>.no
def tE(f:Fe):aV->R Bool:=λρ=>f ρ>>=vL
theorem zS{X:Cx}{f:Fe}{σ:St}{H:Hp}{Q:Bool->Hp->Prop}(h:Fl X (tE f) σ H Q):lH X iM f σ H (λx H'=>∃k,x=.bl k/\Q k H'):=
 (fX (P:=iM) (f:=f) (k:=λ_=>vL) (z9 (X:=X) Q) h).post λv H1 ⟨ρ1,d1,_,_,p1,q1⟩=>by
  cases d1 with
  |bool b=>
   have p2:v=.bl b:=by simpa only[Rp]using p1
   exact⟨b,p2,q1 H1 (aN.refl _)⟩
  | _=>exact q1.elim
section
variable{X:Cx}{a b c:Expr}{fa fb fc:Fe}{pos:Pos}
theorem ip{op:CmpOp}{r:R2}{g:Qa->Qa->R Qa}(ho:kD X (compareOp op) r)(hg:cY X iM r g)(ha:ff X a fa)(hb:ff X b fb)(hm:behindInMarks op b=false) :
  pH X (.Compare a [op] [b] pos) (tE (e2 g fa fb)):=
 PT.imp (Fh ho ha hb hm) λσ H Q h=>two iK hg σ H _ (zS h)
theorem cn{e:Expr}{f:Fe}(h:Z.dA X e f)(he:∀whole,isTrue e X.env whole=(do let v <-whole;standAt e.pos;holding [v] (truthy v)):=by intro _;rfl):Z.pH X e (tE f):=⟨have h:=h.un;PT.imp (HB h he) λσ H Q h=>zS h⟩
def jE(f g:aV->R Bool):aV->R Bool:=λρ=>f ρ>>=λb=>if b=true then g ρ else .ok false
def nV(f g:aV->R Bool):aV->R Bool:=λρ=>f ρ>>=λb=>if b=true then .ok true else g ρ
def fg(f:aV->R Bool):aV->R Bool:=λρ=>f ρ>>=λb=>.ok (!b)
variable{ga gb:aV->R Bool}{ge:List Expr}
theorem iJ(ha:Z.pH X a ga):Z.Bl X (.BoolOp .And [a] pos) ga:=⟨have ha:=ha.un;pw_and1 ha⟩
theorem gU(ha:Z.pH X a ga):Z.Bl X (.BoolOp .Or [a] pos) ga:=⟨have ha:=ha.un;pw_or1 ha⟩
theorem jp(ha:Z.pH X a ga)(hb:Z.Bl X (.BoolOp .And (b::ge) pos) gb):Z.Bl X (.BoolOp .And (a::b::ge) pos) (jE ga gb):=⟨have ha:=ha.un;have hb:=hb.un;PW.imp (pw_and ha hb) λσ H Q h=>(uw (f:=ga) (k:=λρ b=>if b=true then gb ρ else .ok false) (z9 (X:=X) Q) h).post λd H1 ⟨ρ1,sl1,_,q1⟩=>by
  cases d with
  |true=>exact⟨ρ1,sl1,q1⟩
  |false=>exact q1 H1 (aN.refl _)⟩
theorem hJ(ha:Z.pH X a ga)(hb:Z.Bl X (.BoolOp .Or (b::ge) pos) gb):Z.Bl X (.BoolOp .Or (a::b::ge) pos) (nV ga gb):=⟨have ha:=ha.un;have hb:=hb.un;PW.imp (pw_or ha hb) λσ H Q h=>(uw (f:=ga) (k:=λρ b=>if b=true then .ok true else gb ρ) (z9 (X:=X) Q) h).post λd H1 ⟨ρ1,sl1,_,q1⟩=>by
  cases d with
  |false=>exact⟨ρ1,sl1,q1⟩
  |true=>exact q1 H1 (aN.refl _)⟩
theorem Bl.t{e:Expr}(h:Bl X e ga):pH X e ga:=PW.pt h
theorem gi{e:Expr}(h:Z.Bl X e ga):Z.pH X e ga:=
 ⟨D2.Bl.t h.un⟩
theorem cM(ha:Z.pH X a ga):Z.pH X (.UnaryOp .Not a pos) (fg ga):=⟨have ha:=ha.un;PT.imp (HA ha) λσ H Q h=>(uw (f:=ga) (k:=λ_ b=>.ok (!b)) (z9 (X:=X) Q) h).post λd H1 ⟨ρ1,sl1,_,q1⟩=>q1 H1 (aN.refl _)⟩
def qH(f g:Fe):Fe:=λρ=>f ρ>>=λd=>vL d>>=λb=>if b=true then g ρ else .ok (.bool false)
def LO(f g:Fe):Fe:=λρ=>f ρ>>=λd=>vL d>>=λb=>if b=true then .ok (.bool true)else g ρ
def BY(f:Fe):Fe:=λρ=>f ρ>>=λd=>vL d>>=λb=>.ok (.bool (!b))
theorem zQ{k:aV->Bool->R Qa}{f:Fe}{σ:St}{H:Hp}{Q:VK}(h:lH X iM (λρ=>f ρ>>=λd=>vL d>>=λb=>k ρ b) σ H Q) :
  lH X iM f σ H (λx H'=>∃c,x=.bl c/\lH X iM (λρ=>k ρ c) σ H' Q):=
 (fX (P:=iM) (f:=f) (k:=λρ d=>vL d>>=λb=>k ρ b) (gJ (X:=X) iK Q) h).post λv H1 ⟨ρ1,d1,sl1,_,p1,q1⟩=>by
  cases d1 with
  |bool b=>
   have p2:v=.bl b:=by simpa only[Rp]using p1
   exact⟨b,p2,ρ1,sl1,q1⟩
  | _=>exact q1.elim
theorem jo{op}(h:Z.dA X a fa):Z.dA X (.BoolOp op [a] pos) fa:=⟨have h:=h.un;Hr h⟩
theorem iG(ha:Z.dA X a fa)(hb:Z.dA X (.BoolOp .And (b::ge) pos) fb):Z.dA X (.BoolOp .And (a::b::ge) pos) (qH fa fb):=⟨have ha:=ha.un;have hb:=hb.un;PE.imp (Hj ha hb) λσ H Q h=>(zQ (k:=λρ b=>if b=true then fb ρ else .ok (.bool false)) h).post λv H1 ⟨c,e1,q1⟩=>by
  refine⟨c,e1,?_⟩;cases c with
  |true=>exact q1
  |false=>
   obtain⟨_,_,q2⟩:=q1;exact q2 _ H1 (aN.refl _) (by simp only[Rp])⟩
theorem vE(ha:Z.dA X a fa):Z.dA X (.UnaryOp .Not a pos) (BY fa):=⟨have ha:=ha.un;PE.imp (Hq ha) λσ H Q h=>(zQ (k:=λρ b=>.ok (.bool (!b))) h).post λv H1 ⟨c,e1,_,_,q2⟩=>⟨c,e1,q2 _ H1 (aN.refl _) (by simp only[Rp])⟩⟩
def DR(t:aV->R Bool)(f g:Fe):Fe:=λρ=>t ρ>>=λb=>if b=true then f ρ else g ρ
theorem jR{e:Expr}(hc:Z.pH X e ga)(ha:Z.dA X a fa)(hb:Z.dA X b fb):Z.dA X (.IfExp e a b pos) (DR ga fa fb):=⟨have hc:=hc.un;have ha:=ha.un;have hb:=hb.un;PE.imp (CM hc ha hb) λσ H Q h=>(uw (f:=ga) (k:=λρ b=>if b=true then fa ρ else fb ρ) (gJ (X:=X) iK Q) h).post λd H1 ⟨ρ1,sl1,_,q1⟩=>by
  cases d with
  |true=>exact⟨ρ1,sl1,q1⟩
  |false=>exact⟨ρ1,sl1,q1⟩⟩
end
def bn:Expr->Bool
 |.Starred ..=>false
 | _=>true
theorem bC{e:Expr}{es:List Expr}{env:Env}(h:bn e=true):starEach (e::es) env=(false,eval e env)::starEach es env:=by
 cases e<;>first|rfl| (cases h)
theorem ls{es:List Expr}{env:Env}{pos:Pos}(h:es.all bn=true):(backTo pos (starEach es env)).any (·.1)=false:=by
 induction es with
 |nil=>rfl
 |cons e es ih=>
  rw[List.all_cons,Bool.and_eq_true]at h;rw[bC h.1];have:=ih h.2;simpa[backTo]using this
def az:aV->R (List Qa):=λ_=>.ok []
def ai(f:Fe)(g:aV->R (List Qa)):aV->R (List Qa):=λρ=>f ρ>>=λd=>g ρ>>=λds=>.ok (d::ds)
section
variable{X:Cx}{e:Expr}{es:List Expr}{f:Fe}{g:aV->R (List Qa)}
theorem za{I:Hp->Qa->V->Prop}:PA X [] (Db X I az):=PA.imp x5 λσ H Q ⟨ρ,sl,q⟩=>q [] H (aN.refl _) (by simp only[RA])
theorem oo:tZ X [] az:=za
theorem ak  : Z.tZ X [] az:=
 ⟨D2.oo⟩
theorem xB:Gi X [] az:=za
theorem vV{I:Hp->Qa->V->Prop}(hI:∀H H' d v,I H d v->aN H H'->I H' d v)(ha:PE X e (lH X (λ_ H' d v=>I H' d v) f))(hr:PA X es (Db X I g))
  (hs:starEach (e::es) X.env=(false,eval e X.env)::starEach es X.env:=by rfl):PA X (e::es) (Db X I (ai f g)):=
 PA.imp (nJ ha hr hs) λσ H Q h=>
  (fX (P:=λ_ H' d v=>I H' d v) (f:=f) (k:=λρ d=>g ρ>>=λds=>.ok (d::ds)) (Gc (X:=X) I Q) h).post λv H1 ⟨ρ1,d1,sl1,_,p1,q1⟩=>
   (qx (I:=I) (f:=g) (k:=λ_ ds=>.ok (d1::ds)) (Gc (X:=X) I Q) ⟨ρ1,sl1,q1⟩).post λvs H2 ⟨_,ds1,_,s2,p3,q3⟩=>
    q3 (v::vs) H2 (aN.refl _) (by simp only[RA];exact⟨v,vs,rfl,hI _ _ _ _ p1 s2,p3⟩)
theorem jX(ha:dA X e f)(hr:tZ X es g)(hs:bn e=true:=by rfl):tZ X (e::es) (ai f g):=vV (λ_ _ _ _ h s=>h.mono s) ha hr (bC hs)
theorem af(ha:Z.dA X e f)(hr:Z.tZ X es g)(hs:bn e=true:=by rfl):Z.tZ X (e::es) (ai f g):=
 ⟨D2.jX ha.un hr.un hs⟩
theorem p0(ha:ff X e f)(hr:Gi X es g)(hs:bn e=true:=by rfl):Gi X (e::es) (ai f g):=vV (λ_ _ _ _ h s=>h.mono s) ha hr (bC hs)
end
section
variable{K:PySem.W.Frag}{H:Hp}{x:V}
theorem nu(h:jn H .none x):x=.non:=by
 rcases h with h|h
 ·simpa only[Rp]using h
 ·simp only[iB]at h
theorem qB{b:Bool}(h:jn H (.bool b) x):x=.bl b:=by
 rcases h with h|h
 ·simpa only[Rp]using h
 ·simp only[iB]at h
theorem cP{i:Int}(h:jn H (.int i) x):x=.int i:=by
 rcases h with h|h
 ·simpa only[Rp]using h
 ·simp only[iB]at h
theorem iP{y:Str}(h:jn H (.str y) x):x=.str y:=by
 rcases h with h|h
 ·simpa only[Rp]using h
 ·simp only[iB]at h
theorem eX{ds:List Qa}(h:jn H (.tuple ds) x):∃a vs,x=.ref a/\H a=some (.tup vs)/\bI H ds vs:=by
 rcases h with h|h
 ·simpa only[Rp]using h
 ·simp only[iB]at h
theorem hR{ds:List Qa}(h:jn H (.list ds) x):∃a vs,x=.ref a/\pX K H a vs/\bI H ds vs:=by
 rcases h with h|h
 ·simp only[Rp]at h;obtain⟨a,o,vs,e,ha,r⟩:=h;exact⟨a,vs,e,.inl (.inr ⟨o,ha⟩),r⟩
 ·simp only[iB]at h;obtain⟨a,vs,e,ha,r⟩:=h;exact⟨a,vs,e,.inl (.inl ha),r⟩
theorem Fq{C:Addr}{fs:List (Str×V)}{kvs:List (Qa×Qa)}(h:yG H C fs kvs):il kvs=true:=by
 cases kvs with
 |nil=>simp only[yG]at h
 |cons kd kvs=>simp only[yG]at h;rw[h.1];rfl
theorem BL{kvs:List (Qa×Qa)}(h:jn H (.dict kvs) x):∃a,x=.ref a:=by
 rcases h with h|h
 ·simp only[Rp]at h;rcases h with⟨a,o,vs,e,_⟩| ⟨a,o,C,dx,fs,e,_⟩| ⟨a,o,vs,e,_⟩
  ·exact⟨a,e⟩
  ·exact⟨a,e⟩
  ·exact⟨a,e⟩
 ·simp only[iB]at h;rcases h with⟨a,vs,e,_⟩| ⟨a,vs,e,_⟩
  ·exact⟨a,e⟩
  ·exact⟨a,e⟩
theorem nq{kvs:List (Qa×Qa)}(hi:il kvs=false)(h:jn H (.dict kvs) x):∃a ks,x=.ref a/\Rd H a (.dK ks)/\fL H kvs ks:=by
 rcases h with h|h
 ·simp only[Rp]at h;rcases h with⟨a,o,vs,e,ha,r⟩| ⟨a,o,C,dx,fs,e,ha,r⟩| ⟨a,o,vs,e,ha,r⟩
  ·exact⟨a,vs,e,.inr ⟨o,ha⟩,r⟩
  ·rw[Fq r]at hi;cases hi
  ·rw[r.ins]at hi;cases hi
 ·simp only[iB]at h;rcases h with⟨a,vs,e,ha,r⟩| ⟨a,vs,e,ha,r⟩
  ·exact⟨a,vs,e,.inl ha,r⟩
  ·rw[r.ins]at hi;cases hi
theorem BK{kvs:List (Qa×Qa)}(h:jn H (.dict ((.bool true,.none)::kvs)) x):∃a ks,x=.ref a/\Rd H a (.dT ks)/\gr H kvs ks:=by
 rcases h with h|h
 ·simp only[Rp]at h;rcases h with⟨a,o,vs,e,ha,r⟩| ⟨a,o,C,dx,fs,e,ha,r⟩| ⟨a,o,vs,e,ha,r⟩
  ·simp only[fL]at r;obtain⟨k,v,r',_,q,_⟩:=r;simp only[yH]at q;cases k<;>cases q.1
  ·simp only[yG]at r;cases r.1
  ·simp only[pW]at r;exact⟨a,vs,e,.inr ⟨o,ha⟩,r.2⟩
 ·simp only[iB]at h;rcases h with⟨a,vs,e,ha,r⟩| ⟨a,vs,e,ha,r⟩
  ·simp only[fL]at r;obtain⟨k,v,r',_,q,_⟩:=r;simp only[yH]at q;cases k<;>cases q.1
  ·simp only[pW]at r;exact⟨a,vs,e,.inl ha,r.2⟩
end
theorem bI.nil{H:Hp}:bI H [] []:=by simp only[bI]
theorem bI.cons{H:Hp}{d:Qa}{ds:List Qa}{v:V}{vs:List V}(h:Rp H d v)(t:bI H ds vs):bI H (d::ds) (v::vs):=by simp only[bI];exact⟨v,vs,rfl,h,t⟩
theorem bI.nil_inv{H:Hp}{vs:List V}(h:bI H [] vs):vs=[]:=by simpa only[bI]using h
theorem bI.cons_inv{H:Hp}{d:Qa}{ds:List Qa}{vs:List V}(h:bI H (d::ds) vs):∃v r,vs=v::r/\Rp H d v/\bI H ds r:=by simpa only[bI]using h
theorem bI.length{H:Hp}:∀{ds:List Qa} {vs:List V},bI H ds vs->vs.length=ds.length
 | [],vs,h=>by rw[h.nil_inv];rfl
 |d::ds,vs,h=>by
  obtain⟨v,r,rfl,_,t⟩:=h.cons_inv;rw[List.length_cons,List.length_cons,bI.length t]
theorem bI.get{H:Hp}:∀{ds:List Qa} {vs:List V} {i:Nat} {d:Qa},bI H ds vs->ds[i]?=some d->∃v,vs[i]?=some v/\Rp H d v
 | [],vs,i,d,h,e=>by simp at e
 |d0::ds,vs,0,d,h,e=>by
  obtain⟨v,r,rfl,p,_⟩:=h.cons_inv;simp at e;subst e;exact⟨v,rfl,p⟩
 |d0::ds,vs,i+1,d,h,e=>by
  obtain⟨v,r,rfl,_,t⟩:=h.cons_inv;obtain⟨u,e1,p⟩:=bI.get (i:=i) t (by simpa using e);exact⟨u,by simpa using e1,p⟩
theorem bI.append{H:Hp}:∀{ds es:List Qa} {vs us:List V},bI H ds vs->bI H es us->bI H (ds++es) (vs++us)
 | [],es,vs,us,h,g=>by rw[h.nil_inv];exact g
 |d::ds,es,vs,us,h,g=>by
  obtain⟨v,r,rfl,p,t⟩:=h.cons_inv;exact bI.cons p (bI.append t g)
theorem bI.take{H:Hp}:∀{ds:List Qa} {vs:List V} (n:Nat),bI H ds vs->bI H (ds.take n) (vs.take n)
 |ds,vs,0,h=>by simp only[List.take_zero];exact bI.nil
 | [],vs,n+1,h=>by rw[h.nil_inv];exact bI.nil
 |d::ds,vs,n+1,h=>by
  obtain⟨v,r,rfl,p,t⟩:=h.cons_inv;exact bI.cons p (bI.take n t)
theorem bI.drop{H:Hp}:∀{ds:List Qa} {vs:List V} (n:Nat),bI H ds vs->bI H (ds.drop n) (vs.drop n)
 |ds,vs,0,h=>h
 | [],vs,n+1,h=>by rw[h.nil_inv];exact bI.nil
 |d::ds,vs,n+1,h=>by
  obtain⟨v,r,rfl,p,t⟩:=h.cons_inv;exact bI.drop n t
theorem bI.reverse{H:Hp}:∀{ds:List Qa} {vs:List V},bI H ds vs->bI H ds.reverse vs.reverse
 | [],vs,h=>by rw[h.nil_inv];exact bI.nil
 |d::ds,vs,h=>by
  obtain⟨v,r,rfl,p,t⟩:=h.cons_inv;rw[List.reverse_cons,List.reverse_cons];exact bI.append (bI.reverse t) (bI.cons p bI.nil)
theorem bI.rep{H:Hp}{ds:List Qa}{vs:List V}(h:bI H ds vs):∀k:Nat,bI H (Qi k ds).flatten (Qi k vs).flatten
 | 0=>bI.nil
 |k+1=>by rw[List.replicate_succ,List.replicate_succ,List.flatten_cons,List.flatten_cons];exact bI.append h (bI.rep h k)
theorem bI.ints{H:Hp}:∀ns:List Int,bI H (ns.map Qa.int) (ns.map V.int)
 | []=>bI.nil
 |n::ns=>bI.cons (by simp only[Rp]) (bI.ints ns)
theorem cQ{H:Hp}{p:Addr}(h:H p=none)(o:HO):aN H (dj H p o):=λb u q=>by rw[aD (bo q h)];exact q
theorem fQ{H:Hp}{p:Addr}{ds:List Qa}{vs:List V}(h:H p=none)(r:bI H ds vs):Rp (dj H p (.tup vs)) (.tuple ds) (.ref p):=by
 simp only[Rp];exact⟨p,vs,rfl,bh,r.mono (cQ h _)⟩
theorem dL{H:Hp}{p:Addr}{ds:List Qa}{vs:List V}(h:H p=none)(r:bI H ds vs):Br H (dj H p (.lst vs)) (.list ds) (.ref p):=by
 refine⟨?_,p,rfl,h⟩;simp only[iB];exact⟨p,vs,rfl,bh,r.mono (cQ h _)⟩
section
variable{P:Program}{w:World}{H:Hp}{h:Heap}
mutual
theorem wv(ok:iZ P w H h):∀(d:Qa) (v:V) (u:Value),d.canLay0=true->Rp H d v->cA v u->∃as,Reads h u d as
 |.none,v,u,_,r,e=>by simp only[Rp]at r;subst r;cases e;exact⟨_,.none⟩
 |.bool b,v,u,_,r,e=>by simp only[Rp]at r;subst r;cases e;exact⟨_,.bool b⟩
 |.int i,v,u,_,r,e=>by simp only[Rp]at r;subst r;obtain⟨t,rfl⟩:=e;exact⟨_,.int i t⟩
 |.str x,v,u,_,r,e=>by simp only[Rp]at r;subst r;obtain⟨t,rfl⟩:=e;exact⟨_,.str x t⟩
 |.tuple ds,v,u,c,r,e=>by
  simp only[Rp]at r;obtain⟨a,vs,rfl,ha,r⟩:=r;cases e;obtain⟨_,its,rv,o,h1,h2,⟨n,h3⟩,_⟩:=(show cD P w H h a (.tup vs)from ok a _ ha)
  obtain⟨as,q⟩:=iS ok ds vs its (by simpa only[Qa.canLay0]using c) r rv;exact⟨as,.tuple h1 h2 h3 (by simpa using q)⟩
 |.list ds,v,u,c,r,e=>by
  simp only[Rp]at r;obtain⟨a,ob,vs,rfl,ha,r⟩:=r;cases e;obtain⟨_,_,its,n,rv,h1⟩:=(show cD P w H h a (.frz ob (.lst vs))from ok a _ ha)
  obtain⟨as,q⟩:=iS ok ds vs its (by simpa only[Qa.canLay0]using c) r rv;exact⟨a::as,.list h1 rfl rfl (by simpa using q)⟩
 |.dict kvs,v,u,c,r,e=>by simp[Qa.canLay0]at c
theorem iS(ok:iZ P w H h):∀(ds:List Qa) (vs:List V) (us:List Value),Qa.canLayAll0 ds=true->bI H ds vs->bO vs us->∃as,ReadsAll h us ds as
 | [],vs,us,_,r,e=>by rw[r.nil_inv]at e;cases e;exact⟨_,.nil⟩
 |d::ds,vs,us,c,r,e=>by
  obtain⟨v,r',rfl,p,t⟩:=r.cons_inv;have c':d.canLay0=true/\Qa.canLayAll0 ds=true:=by simpa[Qa.canLayAll0]using c
  cases e with
  |cons e1 e2=>
   obtain⟨as,q1⟩:=wv ok d v _ c'.1 p e1;obtain⟨bs,q2⟩:=iS ok ds r' _ c'.2 t e2;exact⟨as++bs,.cons q1 q2⟩
end
theorem fE(ok:iZ P w H h){d:Qa}{v:V}{u:Value}(c:d.canLay0=true)(r:jn H d v)(e:cA v u):∃as,Reads h u d as:=by
 rcases r with r|r
 ·exact wv ok d v u c r e
 ·cases d<;>simp only[iB]at r
  ·rename_i ds;obtain⟨a,vs,rfl,ha,r⟩:=r;cases e;obtain⟨_,its,n,rv,h1⟩:=(show cD P w H h a (.lst vs)from ok a _ ha)
   obtain⟨as,q⟩:=iS ok ds vs its (by simpa only[Qa.canLay0]using c) r rv;exact⟨a::as,.list h1 rfl rfl (by simpa using q)⟩
  ·simp[Qa.canLay0]at c
end
def gQ:Qa->Option cI
 |.int i=>some (.inl i)
 |.str y=>some (.inr y)
 | _=>none
def iQ:Qa->Qa->Bool
 |.int i,.int j=>decide (i=j)
 |.str i,.str j=>decide (i=j)
 | _,_=>false
def yd(kvs:List (Qa×Qa))(k v:Qa):List (Qa×Qa):=
 if(kvs.any λkv=>iQ kv.1 k)=true then kvs.map (λkv=>if iQ kv.1 k=true then(kv.1,v)else kv)else kvs++[(k,v)]
theorem lF(κ κ':cI):iQ (fO κ) (fO κ')=decide (κ=κ'):=by
 cases κ with
 |inl i=>
  cases κ' with
  |inl j=>simp[fO,iQ]
  |inr j=>simp[fO,iQ]
 |inr i=>
  cases κ' with
  |inl j=>simp[fO,iQ]
  |inr j=>simp[fO,iQ]
theorem fL.cons{H:Hp}{k d:Qa}{kvs:List (Qa×Qa)}{κ:cI}{v:V}{ks:List (cI×V)}(e:k=fO κ)(h:Rp H d v)(t:fL H kvs ks):fL H ((k,d)::kvs) ((κ,v)::ks):=by
 simp only[fL,yH];exact⟨κ,v,ks,rfl,⟨e,h⟩,t⟩
theorem fL.cons_inv{H:Hp}{k d:Qa}{kvs:List (Qa×Qa)}{ks:List (cI×V)}(h:fL H ((k,d)::kvs) ks):∃κ v r,ks=(κ,v)::r/\k=fO κ/\Rp H d v/\fL H kvs r:=by
 simp only[fL,yH]at h;obtain⟨κ,v,r,e,⟨e1,p⟩,t⟩:=h;exact⟨κ,v,r,e,e1,p,t⟩
theorem fL.nil_inv{H:Hp}{ks:List (cI×V)}(h:fL H [] ks):ks=[]:=by simpa only[fL]using h
theorem fL.any{H:Hp}(κ:cI):∀{kvs:List (Qa×Qa)} {ks:List (cI×V)},fL H kvs ks->(kvs.any λkv=>iQ kv.1 (fO κ))=ks.any λkv=>decide (kv.1=κ)
 | [],ks,h=>by rw[h.nil_inv];rfl
 | (k,d)::kvs,ks,h=>by
  obtain⟨κ',v,r,rfl,rfl,p,t⟩:=h.cons_inv;rw[List.any_cons,List.any_cons,fL.any κ t,lF]
theorem fL.repl{H:Hp}(κ:cI){d:Qa}{v:V}(hv:Rp H d v):∀{kvs:List (Qa×Qa)} {ks:List (cI×V)},fL H kvs ks ->
  fL H (kvs.map λkv=>if iQ kv.1 (fO κ)=true then(kv.1,d)else kv) (ks.map λkv=>if kv.1=κ then(kv.1,v)else kv)
 | [],ks,h=>by rw[h.nil_inv];simp only[List.map_nil,fL]
 | (k,d')::kvs,ks,h=>by
  obtain⟨κ',v',r,rfl,rfl,p,t⟩:=h.cons_inv;rw[List.map_cons,List.map_cons];dsimp only;rw[lF];by_cases e:κ'=κ
  ·rw[if_pos (decide_eq_true e),if_pos e];exact fL.cons rfl hv (fL.repl κ hv t)
  ·rw[if_neg (by rw[decide_eq_false e];exact Bool.false_ne_true),if_neg e];exact fL.cons rfl p (fL.repl κ hv t)
theorem fL.snoc{H:Hp}{κ:cI}{d:Qa}{v:V}(hv:Rp H d v):∀{kvs:List (Qa×Qa)} {ks:List (cI×V)},fL H kvs ks->fL H (kvs++[(fO κ,d)]) (ks++[(κ,v)])
 | [],ks,h=>by rw[h.nil_inv];exact fL.cons rfl hv (by simp only[fL])
 | (k,d')::kvs,ks,h=>by
  obtain⟨κ',v',r,rfl,rfl,p,t⟩:=h.cons_inv;exact fL.cons rfl p (fL.snoc hv t)
theorem fL.put{H:Hp}(κ:cI){d:Qa}{v:V}(hv:Rp H d v){kvs:List (Qa×Qa)}{ks:List (cI×V)}(h:fL H kvs ks):fL H (yd kvs (fO κ) d) (lT ks κ v):=by
 unfold yd lT;rw[h.any κ];split
 ·exact h.repl κ hv
 ·exact h.snoc hv
def o9(kvs:List (Qa×Qa))(k:Qa):Option Qa:=(kvs.find? λkv=>iQ kv.1 k).map (·.2)
theorem fL.look{H:Hp}(κ:cI):∀{kvs:List (Qa×Qa)} {ks:List (cI×V)},fL H kvs ks->(o9 kvs (fO κ)=none/\jm ks κ=none)\/∃d v,o9 kvs (fO κ)=some d/\jm ks κ=some v/\Rp H d v
 | [],ks,h=>.inl (by rw[h.nil_inv];exact⟨rfl,rfl⟩)
 | (k,d)::kvs,ks,h=>by
  obtain⟨κ',v,r,rfl,rfl,p,t⟩:=h.cons_inv;unfold o9 jm;by_cases e:κ'=κ
  ·rw[List.find?_cons_of_pos (by rw[lF];exact decide_eq_true e),List.find?_cons_of_pos (by exact decide_eq_true e)];exact .inr ⟨d,v,rfl,rfl,p⟩
  ·rw[List.find?_cons_of_neg (by rw[lF,decide_eq_false e];exact Bool.false_ne_true),List.find?_cons_of_neg (by rw[decide_eq_false e];exact Bool.false_ne_true)];exact fL.look κ t
theorem wj{d:Qa}{κ:cI}(h:gQ d=some κ):d=fO κ:=by
 cases d<;>simp only[gQ]at h<;>cases h<;>rfl
theorem yR{H:Hp}{d:Qa}{x:V}{κ:cI}(h:jn H d x)(e:gQ d=some κ):x=kV κ:=by
 cases d<;>simp only[gQ]at e<;>cases e
 ·exact cP h
 ·exact iP h
theorem yZ{H:Hp}{a:Addr}{kvs:List (Qa×Qa)}{ks:List (cI×V)}{κ:cI}(h:Rd H a (.dK ks))(r:fL H kvs ks):∃o,pC H a (kV κ) o/\o.isSome=(o9 kvs (fO κ)).isSome/\∀d,o9 kvs (fO κ)=some d->∃v,o=some v/\Rp H d v:=by
 refine⟨jm ks κ,.inl ⟨ks,κ,h,rfl,rfl⟩,?_⟩;rcases r.look κ with⟨e1,e2⟩| ⟨d,v,e1,e2,p⟩
 ·rw[e1,e2];exact⟨rfl,λd z=>by cases z⟩
 ·rw[e1,e2];exact⟨rfl,λd z=>by cases z;exact⟨v,rfl,p⟩⟩
def mm:Qa->Qa->R Qa
 |.int i,.int j=>.ok (.int (i-j))
 | _,_=>.no
def dQ:Qa->Qa->R Qa
 |.int i,.int j=>if 0<j then .ok (.int (i%j))else .no
 | _,_=>.no
def jV:Qa->Qa->R Qa
 |.int i,.int j=>if 0<j/\j<1073741824 then .ok (.int (i / j))else .no
 | _,_=>.no
def hV(p:Int->Int->Bool):Qa->Qa->R Qa
 |.int i,.int j=>.ok (.bool (p i j))
 | _,_=>.no
def sv(x y:Qa):Bool:=x.canLay0&&y.canLay0&&decide (min x.depth y.depth<=60)
def jc(x y:Qa):R Qa:=if sv x y=true then .ok (.bool (Qa.eqv x y))else .no
def mL(x y:Qa):R Qa:=if sv x y=true then .ok (.bool (!Qa.eqv x y))else .no
def j7:Qa->Bool
 |.none=>true
 | _=>false
def nA(x y:Qa):R Qa:=if j7 y=true then .ok (.bool (j7 x))else .no
def kx(x y:Qa):R Qa:=if j7 y=true then .ok (.bool (!j7 x))else .no
def pQ(xs:List Qa)(d:Qa):Bool:=Qa.canLayAll0 xs&&d.canLay0&&decide (min (Qa.depthAll xs) d.depth<=60)
def pZ(neg:Bool)(d:Qa):Qa->R Qa
 |.list xs=>if pQ xs d=true then .ok (.bool (if neg then !(xs.any λy=>Qa.eqv y d)else xs.any λy=>Qa.eqv y d))else .no
 |.tuple xs=>if pQ xs d=true then .ok (.bool (if neg then !(xs.any λy=>Qa.eqv y d)else xs.any λy=>Qa.eqv y d))else .no
 |.dict kvs=>if il kvs=true then .no else match gQ d with
  |some _=>.ok (.bool (if neg then !(o9 kvs d).isSome else(o9 kvs d).isSome))
  |none=>.no
 | _=>.no
section
variable{X:Cx}{a b c:Expr}{fa fb fc:Fe}{pos:Pos}
theorem fF{H:Hp}{i:Int}:Rp H (.int i) (.int i):=by simp only[Rp]
theorem fR{H:Hp}{i:Bool}:Rp H (.bool i) (.bl i):=by simp only[Rp]
theorem Dh{H:Hp}{i:Str}:Rp H (.str i) (.str i):=by simp only[Rp]
theorem HR:cY X iM (DT λi j=>.int (i-j)) mm:=λH x y dx dy Q hx hy q=>by
 unfold mm at q;split at q
 ·exact⟨_,_,cP hx,cP hy,q _ H (aN.refl _) fF⟩
 ·exact q.elim
theorem HP:cY X iM (rI (λ_ j=>0<j) λi j=>.int (i%j)) dQ:=λH x y dx dy Q hx hy q=>by
 unfold dQ at q;split at q
 ·split at q
  ·rename_i h;exact⟨_,_,cP hx,cP hy,h,q _ H (aN.refl _) fF⟩
  ·exact q.elim
 ·exact q.elim
theorem HN:cY X iM (rI Id λi j=>.int (i / j)) jV:=λH x y dx dy Q hx hy q=>by
 unfold jV at q;split at q
 ·split at q
  ·rename_i h;exact⟨_,_,cP hx,cP hy,h,q _ H (aN.refl _) fF⟩
  ·exact q.elim
 ·exact q.elim
theorem mK{p:Int->Int->Bool}:cY X iM (DT λi j=>.bl (p i j)) (hV p):=λH x y dx dy Q hx hy q=>by
 unfold hV at q;split at q
 ·exact⟨_,_,cP hx,cP hy,q _ H (aN.refl _) fR⟩
 ·exact q.elim
theorem iH(ha:Z.ff X a fa)(hb:Z.ff X b fb):Z.dA X (.BinOp a .Sub b pos) (e2 mm fa fb):=⟨have ha:=ha.un;have hb:=hb.un;oq iK Hg HR ha hb⟩
theorem bP(ha:Z.ff X a fa)(hb:Z.ff X b fb):Z.dA X (.BinOp a .Mod b pos) (e2 dQ fa fb):=⟨have ha:=ha.un;have hb:=hb.un;oq iK Hd HP ha hb⟩
theorem fY(ha:Z.ff X a fa)(hb:Z.ff X b fb):Z.dA X (.BinOp a .FloorDiv b pos) (e2 jV fa fb):=⟨have ha:=ha.un;have hb:=hb.un;oq iK E3 HN ha hb⟩
abbrev LD:Int->Int->Bool:=λi j=>decide (i<j)
abbrev Kl:Int->Int->Bool:=λi j=>decide (i<=j)
abbrev rU:Int->Int->Bool:=λi j=>decide (j<i)
theorem D9(ha:Z.ff X a fa)(hb:Z.ff X b fb):Z.dA X (.Compare a [.Gt] [b] pos) (e2 (hV rU) fa fb):=⟨have ha:=ha.un;have hb:=hb.un;ou FX mK ha hb (jf _)⟩
theorem BE(ha:Z.ff X a fa)(hb:Z.ff X b fb):Z.pH X (.Compare a [.Lt] [b] pos) (tE (e2 (hV LD) fa fb)):=⟨have ha:=ha.un;have hb:=hb.un;ip Jg mK ha hb (jf _)⟩
theorem kR(ha:Z.ff X a fa)(hb:Z.ff X b fb):Z.pH X (.Compare a [.Gt] [b] pos) (tE (e2 (hV rU) fa fb)):=⟨have ha:=ha.un;have hb:=hb.un;ip FX mK ha hb (jf _)⟩
def Fj(X:Cx)(neg:Bool):R2:=λx y H Q=>∃dx dy,jn H dx x/\jn H dy y/\sv dx dy=true/\Q (.bl (if neg then !Qa.eqv dx dy else Qa.eqv dx dy)) H
theorem qL{x y:Qa}(h:sv x y=true):x.canLay0=true/\y.canLay0=true/\min x.depth y.depth<=60:=by
 unfold sv at h;rw[Bool.and_eq_true,Bool.and_eq_true,decide_eq_true_eq]at h;exact⟨h.1.1,h.1.2,h.2⟩
theorem CB(hu:X.A.units+64<cLine):kD X (compareOp .Eq) (Fj X false):=by
 intro pins s σ H x y v u Q I rx ry h;obtain⟨dx,dy,hx,hy,ho,q⟩:=h;obtain⟨c1,c2,c3⟩:=qL ho;obtain⟨as,r1⟩:=fE I.hok c1 hx rx;obtain⟨bs,r2⟩:=fE I.hok c2 hy ry;exact PySem.SeqAt.compareEq_reads r1 r2 c1 c2 (by omega) ⟨.bl _,H,I,rfl,q⟩
theorem CD(hu:X.A.units+64<cLine):kD X (compareOp .NotEq) (Fj X true):=by
 intro pins s σ H x y v u Q I rx ry h;obtain⟨dx,dy,hx,hy,ho,q⟩:=h;obtain⟨c1,c2,c3⟩:=qL ho;obtain⟨as,r1⟩:=fE I.hok c1 hx rx;obtain⟨bs,r2⟩:=fE I.hok c2 hy ry;exact PySem.SeqAt.compareNe_reads r1 r2 c1 c2 (by omega) ⟨.bl _,H,I,rfl,q⟩
theorem F8:cY X iM (Fj X false) jc:=λH x y dx dy Q hx hy q=>by
 unfold jc at q;split at q
 ·rename_i h;exact⟨dx,dy,hx,hy,h,q _ H (aN.refl _) fR⟩
 ·exact q.elim
theorem F9:cY X iM (Fj X true) mL:=λH x y dx dy Q hx hy q=>by
 unfold mL at q;split at q
 ·rename_i h;exact⟨dx,dy,hx,hy,h,q _ H (aN.refl _) fR⟩
 ·exact q.elim
theorem yJ(hu:X.A.units+64<cLine)(ha:Z.ff X a fa)(hb:Z.ff X b fb):Z.dA X (.Compare a [.Eq] [b] pos) (e2 jc fa fb):=⟨have ha:=ha.un;have hb:=hb.un;ou (CB hu) F8 ha hb (jf _)⟩
theorem yK(hu:X.A.units+64<cLine)(ha:Z.ff X a fa)(hb:Z.ff X b fb):Z.dA X (.Compare a [.NotEq] [b] pos) (e2 mL fa fb):=⟨have ha:=ha.un;have hb:=hb.un;ou (CD hu) F9 ha hb (jf _)⟩
theorem dO(hu:X.A.units+64<cLine)(ha:Z.ff X a fa)(hb:Z.ff X b fb):Z.pH X (.Compare a [.Eq] [b] pos) (tE (e2 jc fa fb)):=⟨have ha:=ha.un;have hb:=hb.un;ip (CB hu) F8 ha hb (jf _)⟩
theorem iI(hu:X.A.units+64<cLine)(ha:Z.ff X a fa)(hb:Z.ff X b fb):Z.pH X (.Compare a [.NotEq] [b] pos) (tE (e2 mL fa fb)):=⟨have ha:=ha.un;have hb:=hb.un;ip (CD hu) F9 ha hb (jf _)⟩
theorem zA{H:Hp}{d:Qa}{x:V}(h:jn H d x):decide (x=.non)=j7 d:=by
 cases d with
 |none=>rw[nu h];rfl
 |bool b=>rw[qB h];rfl
 |int i=>rw[cP h];rfl
 |str y=>rw[iP h];rfl
 |tuple ds=>obtain⟨a,vs,rfl,_⟩:=eX h;rfl
 |list ds=>obtain⟨a,vs,rfl,_⟩:=hR (K:=default) h;rfl
 |dict kvs=>obtain⟨a,rfl⟩:=BL h;rfl
theorem Dt:cY X iM (λx y H Q=>y=.non/\Q (.bl (decide (x=.non))) H) nA:=λH x y dx dy Q hx hy q=>by
 unfold nA at q;split at q
 ·rename_i h;cases dy<;>simp only[j7,Bool.false_eq_true]at h;exact⟨nu hy,by rw[zA hx];exact q _ H (aN.refl _) fR⟩
 ·exact q.elim
theorem FD:cY X iM (λx y H Q=>y=.non/\Q (.bl (!decide (x=.non))) H) kx:=λH x y dx dy Q hx hy q=>by
 unfold kx at q;split at q
 ·rename_i h;cases dy<;>simp only[j7,Bool.false_eq_true]at h;exact⟨nu hy,by rw[zA hx];exact q _ H (aN.refl _) fR⟩
 ·exact q.elim
theorem BA(ha:Z.ff X a fa)(hb:Z.ff X b fb):Z.dA X (.Compare a [.Is] [b] pos) (e2 nA fa fb):=⟨have ha:=ha.un;have hb:=hb.un;ou CC Dt ha hb (jf _)⟩
theorem n8(ha:Z.ff X a fa)(hb:Z.ff X b fb):Z.pH X (.Compare a [.Is] [b] pos) (tE (e2 nA fa fb)):=⟨have ha:=ha.un;have hb:=hb.un;ip CC Dt ha hb (jf _)⟩
theorem jS(ha:Z.ff X a fa)(hb:Z.ff X b fb):Z.pH X (.Compare a [.IsNot] [b] pos) (tE (e2 kx fa fb)):=⟨have ha:=ha.un;have hb:=hb.un;ip E4 FD ha hb (jf _)⟩
def K5(X:Cx)(neg:Bool):R2:=λx y H Q=>∃d xs,jn H d x/\(jn H (.list xs) y\/jn H (.tuple xs) y)/\pQ xs d=true/\Q (.bl (if neg then !(xs.any λz=>Qa.eqv z d)else xs.any λz=>Qa.eqv z d)) H
def Fk(X:Cx)(neg:Bool):R2:=λx y H Q=>K5 X neg x y H Q\/∃a o,y=.ref a/\pC H a x o/\Q (.bl (if neg then !o.isSome else o.isSome)) H
theorem qT{xs:List Qa}{d:Qa}(h:pQ xs d=true):Qa.canLayAll0 xs=true/\d.canLay0=true/\min (Qa.depthAll xs) d.depth<=60:=by
 unfold pQ at h;rw[Bool.and_eq_true,Bool.and_eq_true,decide_eq_true_eq]at h;exact⟨h.1.1,h.1.2,h.2⟩
theorem xY(hu:X.A.units+64<cLine):kD X (compareOp .In) (Fk X false):=by
 intro pins s σ H x y v u Q I rx ry h;rcases h with h| ⟨a,o,rfl,g,q⟩
 case inr=>
  cases ry;exact KN (by omega) I g rx λs' I'=>⟨.bl _,H,I',rfl,q⟩
 obtain⟨d,xs,hx,hy,ho,q⟩:=h;obtain⟨c1,c2,c3⟩:=qT ho;obtain⟨as,r1⟩:=fE I.hok c2 hx rx;rcases hy with hy|hy
 ·obtain⟨bs,r2⟩:=fE I.hok (d:=.list xs) (by simpa only[Qa.canLay0]using c1) hy ry;exact PySem.SeqAt.in_list_reads r2 r1 c1 c2 (by omega) ⟨.bl _,H,I,rfl,q⟩
 ·obtain⟨bs,r2⟩:=fE I.hok (d:=.tuple xs) (by simpa only[Qa.canLay0]using c1) hy ry;exact PySem.SeqAt.in_tuple_reads r2 r1 c1 c2 (by omega) ⟨.bl _,H,I,rfl,q⟩
theorem tw(hu:X.A.units+64<cLine):kD X (compareOp .NotIn) (Fk X true):=by
 intro pins s σ H x y v u Q I rx ry h;rcases h with h| ⟨a,o,rfl,g,q⟩
 case inr=>
  cases ry;exact Ep (by omega) I g rx λs' I'=>⟨.bl _,H,I',rfl,q⟩
 obtain⟨d,xs,hx,hy,ho,q⟩:=h;obtain⟨c1,c2,c3⟩:=qT ho;obtain⟨as,r1⟩:=fE I.hok c2 hx rx;rcases hy with hy|hy
 ·obtain⟨bs,r2⟩:=fE I.hok (d:=.list xs) (by simpa only[Qa.canLay0]using c1) hy ry;exact PySem.SeqAt.notIn_list_reads r2 r1 c1 c2 (by omega) ⟨.bl _,H,I,rfl,q⟩
 ·obtain⟨bs,r2⟩:=fE I.hok (d:=.tuple xs) (by simpa only[Qa.canLay0]using c1) hy ry;exact PySem.SeqAt.notIn_tuple_reads r2 r1 c1 c2 (by omega) ⟨.bl _,H,I,rfl,q⟩
theorem Dr{neg:Bool}:cY X iM (Fk X neg) (pZ neg):=λH x y dx dy Q hx hy q=>by
 unfold pZ at q;split at q
 ·split at q
  ·rename_i h;exact .inl ⟨dx,_,hx,.inl hy,h,q _ H (aN.refl _) fR⟩
  ·exact q.elim
 ·split at q
  ·rename_i h;exact .inl ⟨dx,_,hx,.inr hy,h,q _ H (aN.refl _) fR⟩
  ·exact q.elim
 ·split at q
  ·exact q.elim
  rename_i hi;split at q
  ·rename_i κ e;obtain⟨a,ks,rfl,h,r⟩:=nq (Bool.not_eq_true _▸hi) hy;obtain⟨o,g,e1,_⟩:=yZ (κ:=κ) h r;rw[<-yR hx e]at g;rw[<-wj e]at e1;exact .inr ⟨a,o,rfl,g,by rw[e1];exact q _ H (aN.refl _) fR⟩
  ·exact q.elim
 ·exact q.elim
theorem Ea(hu:X.A.units+64<cLine)(ha:Z.ff X a fa)(hb:Z.ff X b fb)(hm:behindInMarks .In b=false):Z.dA X (.Compare a [.In] [b] pos) (e2 (pZ false) fa fb):=⟨have ha:=ha.un;have hb:=hb.un;ou (xY hu) Dr ha hb hm⟩
theorem nh(hu:X.A.units+64<cLine)(ha:Z.ff X a fa)(hb:Z.ff X b fb)(hm:behindInMarks .In b=false):Z.pH X (.Compare a [.In] [b] pos) (tE (e2 (pZ false) fa fb)):=⟨have ha:=ha.un;have hb:=hb.un;ip (xY hu) Dr ha hb hm⟩
theorem oU(hu:X.A.units+64<cLine)(ha:Z.ff X a fa)(hb:Z.ff X b fb)(hm:behindInMarks .NotIn b=false):Z.pH X (.Compare a [.NotIn] [b] pos) (tE (e2 (pZ true) fa fb)):=⟨have ha:=ha.un;have hb:=hb.un;ip (tw hu) Dr ha hb hm⟩
end
inductive rS where
 |nx (ρ:aV)
 |rt (d:Qa)
 |bk (ρ:aV)
 |ct (ρ:aV)
abbrev Fs:=aV->R rS
structure iN(Fm H:Hp)(σ:St)(ρ:aV):Prop where
 fm:aN Fm H
 sl:Sl H σ ρ
 own:∀(i:Nat) (d:Qa) (a:Addr),ρ[i]?=some (.own d)->σ[i]?=some (some (.ref a))->Fm a=none
 apart:∀(i j:Nat) (d e:Qa) (a:Addr),ρ[i]?=some (.own d)->ρ[j]?=some (.own e)->σ[i]?=some (some (.ref a))->σ[j]?=some (some (.ref a))->i=j
theorem iN.mono{Fm H H':Hp}{σ:St}{ρ:aV}(h:iN Fm H σ ρ)(s:aN H H'):iN Fm H' σ ρ:=⟨h.fm.trans s,h.sl.mono s,h.own,h.apart⟩
def Dc(X:Cx)(Fm:Hp)(r:R rS)(D:r8):Prop:=
 match r with
 |.ok (.nx ρ)=>∀σ H,iN Fm H σ ρ->D.nx σ H
 |.ok (.rt d)=>∀v H,aN Fm H->Rp H d v->D.rt v H
 |.ok (.bk ρ)=>∀σ H,iN Fm H σ ρ->D.bk σ H
 |.ok (.ct ρ)=>∀σ H,iN Fm H σ ρ->D.ct σ H
 |.ex c=>Xw X c Fm/\Ia X c Fm
 |.no=>False
def F5(X:Cx)(Fm:Hp)(g:Fs):TS:=λD σ H=>∃ρ,iN Fm H σ ρ/\Dc X Fm (g ρ) D
def kG(X:Cx)(st:Stmt)(g:Fs):Prop:=∀Fm,PS X st (F5 X Fm g)
structure Z.kG(X:Cx)(st:Stmt)(g:Fs):Prop where
 un:D2.kG X st g
def nY(X:Cx)(st:List Stmt)(g:Fs):Prop:=∀Fm,rT X st (F5 X Fm g)
structure Z.nY(X:Cx)(st:List Stmt)(g:Fs):Prop where
 un:D2.nY X st g
theorem PS.imp{X:Cx}{e:Stmt}{t t':TS}(h:PS X e t)(i:∀D σ H,t' D σ H->t D σ H):PS X e t':=λpins s σ H D I q=>h pins s σ H D I (i D σ H q)
theorem rT.imp{X:Cx}{e:List Stmt}{t t':TS}(h:rT X e t)(i:∀D σ H,t' D σ H->t D σ H):rT X e t':=λpins s σ H D I q=>h pins s σ H D I (i D σ H q)
section
variable{X:Cx}{Fm:Hp}{σ:St}{H:Hp}{D:r8}
theorem me{P:Hp->Hp->Qa->V->Prop}{f:Fe}{k:aV->Qa->R rS}(h:F5 X Fm (λρ=>f ρ>>=k ρ) D σ H) :
  lH X P f σ H (λv H1=>∃ρ d,iN Fm H1 σ ρ/\aN H H1/\P H H1 d v/\Dc X Fm (k ρ d) D):=by
 obtain⟨ρ,sl,q⟩:=h;refine⟨ρ,sl.sl,?_⟩;dsimp only at q;cases e:f ρ with
 |ok d=>rw[e]at q;exact λv H1 s p=>⟨ρ,d,sl.mono s,s,p,q⟩
 |ex c=>rw[e]at q;exact q.1.mono sl.fm
 |no=>rw[e]at q;exact q
theorem yP{f:aV->R Bool}{k:aV->Bool->R rS}(h:F5 X Fm (λρ=>f ρ>>=k ρ) D σ H):Fl X f σ H (λb H1=>∃ρ,iN Fm H1 σ ρ/\aN H H1/\Dc X Fm (k ρ b) D):=by
 obtain⟨ρ,sl,q⟩:=h;refine⟨ρ,sl.sl,?_⟩;dsimp only at q;cases e:f ρ with
 |ok d=>rw[e]at q;exact λH1 s=>⟨ρ,sl.mono s,s,q⟩
 |ex c=>rw[e]at q;exact q.1.mono sl.fm
 |no=>rw[e]at q;exact q
end
def bU:Fs:=λρ=>.ok (.nx ρ)
def tL(h:Fs):rS->R rS
 |.nx ρ=>h ρ
 |o=>.ok o
def aO(g h:Fs):Fs:=λρ=>g ρ>>=tL h
def hW(t:aV->R Bool)(g h:Fs):Fs:=λρ=>t ρ>>=λb=>if b=true then g ρ else h ρ
def bQ(f:Fe):Fs:=λρ=>f ρ>>=λd=>.ok (.rt d)
def JE:Fs:=λ_=>.ok (.rt .none)
def JC(f:Fe):Fs:=λρ=>f ρ>>=λ_=>.ok (.nx ρ)
def HH:Fs:=λρ=>.ok (.bk ρ)
def Jz:Fs:=λρ=>.ok (.ct ρ)
def bZ(i:Nat)(f:Fe):Fs:=λρ=>f ρ>>=λd=>.ok (.nx (ρ.set i (.val d)))
def gP(i:Nat)(f:Fe):Fs:=λρ=>f ρ>>=λd=>.ok (.nx (ρ.set i (.own d)))
section
variable{X:Cx}{nl:Nat}{G:List Str}{st:Stmt}{sts:List Stmt}{g h:Fs}{f:Fe}{e:Expr}{pos pos':Pos}{x:Str}
theorem bt  : Z.nY X [] bU:=⟨λFm=>rT.imp Fg λD σ H ⟨ρ,sl,q⟩=>q σ H sl⟩
theorem am(h1:Z.kG X st g)(h2:Z.nY X sts h):Z.nY X (st::sts) (aO g h):=⟨have h1:=h1.un;have h2:=h2.un;λFm=>by
 refine rT.imp (nM (h1 Fm) (h2 Fm)) λD σ H ⟨ρ,sl,q⟩=>⟨ρ,sl,?_⟩
 unfold aO at q;cases e:g ρ with
 |ex c=>rw[e]at q;exact q
 |no=>rw[e]at q;exact q
 |ok o=>
  rw[e]at q;cases o with
  |nx ρ'=>exact λσ' H' s'=>⟨ρ',s',q⟩
  |rt d=>exact q
  |bk ρ'=>exact q
  |ct ρ'=>exact q⟩
theorem aq(h1:Z.kG X st g):Z.nY X [st] g:=⟨have h1:=h1.un;λFm=>uV (h1 Fm)⟩
theorem aA(he:Z.dA X e f):Z.kG X (.Return (some e) pos) (bQ f):=⟨have he:=he.un;λFm=>
 PS.imp (CU he) λD σ H h=>(me (P:=iM) (f:=f) (k:=λ_ d=>.ok (.rt d)) h).post λv H1 ⟨ρ,d,sl,_,p,q⟩=>q v H1 sl.fm p⟩
theorem bR{c:Expr}{a b:List Stmt}{t:aV->R Bool}(hc:Z.pH X c t)(ha:Z.nY X a g)(hb:Z.nY X b h):Z.kG X (.If c a b pos) (hW t g h):=⟨have hc:=hc.un;have ha:=ha.un;have hb:=hb.un;λFm=>
 PS.imp (Jn hc (ha Fm) (hb Fm)) λD σ H q=>(yP (f:=t) (k:=λρ b=>if b=true then g ρ else h ρ) q).post λb H1 ⟨ρ,sl,_,q⟩=>by
  cases b with
  |true=>exact⟨ρ,sl,q⟩
  |false=>exact⟨ρ,sl,q⟩⟩
theorem Sl.set{H:Hp}{σ:St}{ρ:aV}{c:ba}{o:Option V}(h:Sl H σ ρ)(i:Nat)(hc:kF H c o):Sl H (σ.set i o) (ρ.set i c):=by
 refine⟨by rw[List.length_set,List.length_set];exact h.1,λj c' o' h1 h2=>?_⟩;rw[List.getElem?_set]at h1 h2;by_cases hij:i=j
 ·rw[if_pos hij]at h1 h2;by_cases hi:i<ρ.length
  ·rw[if_pos hi]at h1;rw[if_pos (by rw[h.1];exact hi)]at h2;cases h1;cases h2;exact hc
  ·rw[if_neg hi]at h1;cases h1
 ·rw[if_neg hij]at h1 h2;exact h.2 j c' o' h1 h2
theorem eK{ρ:aV}{i j:Nat}{c:ba}{d:Qa}(hc:∀e,c≠.own e)(h:(ρ.set i c)[j]?=some (.own d)):i≠j/\ρ[j]?=some (.own d):=by
 rw[List.getElem?_set]at h;by_cases hij:i=j
 ·rw[if_pos hij]at h;split at h
  ·exact absurd (Option.some.inj h) (hc d)
  ·cases h
 ·rw[if_neg hij]at h;exact⟨hij,h⟩
theorem iN.set{Fm H:Hp}{σ:St}{ρ:aV}{c:ba}{o:Option V}(h:iN Fm H σ ρ)(i:Nat)(hn:∀e,c≠.own e)(hc:kF H c o):iN Fm H (σ.set i o) (ρ.set i c):=by
 refine⟨h.fm,h.sl.set i hc,λj d a h1 h2=>?_,λj k d e a h1 h2 h3 h4=>?_⟩
 ·obtain⟨ne,h1⟩:=eK hn h1;rw[List.getElem?_set,if_neg ne]at h2;exact h.own j d a h1 h2
 ·obtain⟨ne,h1⟩:=eK hn h1;obtain⟨ne',h2⟩:=eK hn h2;rw[List.getElem?_set,if_neg ne]at h3;rw[List.getElem?_set,if_neg ne']at h4;exact h.apart j k d e a h1 h2 h3 h4
theorem uS{H:Hp}{d:Qa}{v:V}(h:iB H d v):∃a o,v=.ref a/\H a=some o:=by
 cases d<;>simp only[iB]at h
 ·obtain⟨a,vs,e,ha,_⟩:=h;exact⟨a,_,e,ha⟩
 ·rcases h with⟨a,vs,e,ha,_⟩| ⟨a,vs,e,ha,_⟩<;>exact⟨a,_,e,ha⟩
theorem iN.setOwn{Fm H0 H:Hp}{σ:St}{ρ:aV}{d:Qa}{v:V}(h0:iN Fm H0 σ ρ)(h:iN Fm H σ ρ)(hs:aN H0 H)(i:Nat)(hn:Br H0 H d v):iN Fm H (σ.set i (some v)) (ρ.set i (.own d)):=by
 obtain⟨p,a,rfl,ha⟩:=hn;have old:∀(j:Nat) (e:Qa) (b:Addr),i≠j->(ρ.set i (.own d))[j]?=some (.own e)->(σ.set i (some (.ref a)))[j]?=some (some (.ref b))->ρ[j]?=some (.own e)/\σ[j]?=some (some (.ref b)):=λj e b ne h1 h2=>by
  rw[List.getElem?_set,if_neg ne]at h1 h2;exact⟨h1,h2⟩
 have notA:∀(j:Nat) (e:Qa),ρ[j]?=some (.own e)->σ[j]?=some (some (.ref a))->False:=λj e h1 h2=>by
  obtain⟨u,e1,q⟩:=h0.sl.2 j _ _ h1 h2;cases e1;obtain⟨b,o,e2,hb⟩:=uS q;cases e2;rw[ha]at hb;cases hb
 have here:∀(b:Addr),(σ.set i (some (.ref a)))[i]?=some (some (.ref b))->b=a:=λb h2=>by
  rw[List.getElem?_set,if_pos rfl]at h2;split at h2
  ·cases h2;rfl
  ·cases h2
 refine⟨h.fm,h.sl.set i ⟨_,rfl,p⟩,λj e b h1 h2=>?_,λj k e f b h1 h2 h3 h4=>?_⟩
 ·by_cases hij:i=j
  ·subst hij;rw[here b h2];exact(h0.fm).free ha
  ·obtain⟨h1,h2⟩:=old j e b hij h1 h2;exact h.own j e b h1 h2
 ·by_cases hij:i=j
  ·subst hij;have eb:=here b h3;by_cases hik:i=k
   ·exact hik
   ·obtain⟨h2,h4⟩:=old k f b hik h2 h4;rw[eb]at h4;exact(notA k f h2 h4).elim
  ·obtain⟨h1,h3⟩:=old j e b hij h1 h3;by_cases hik:i=k
   ·subst hik;have eb:=here b h4;rw[eb]at h3;exact(notA j e h1 h3).elim
   ·obtain⟨h2,h4⟩:=old k f b hik h2 h4;exact h.apart j k e f b h1 h2 h3 h4
theorem aP(T:Tb X nl G)(i:Nat)(hN:(X.N.take nl)[i]?=some x)(he:Z.dA X e f)(hs:swapsWith e (some (.Name x pos')) pos.line X.env=pure false:=by rfl):Z.kG X (.Assign [.Name x pos'] e pos) (bZ i f):=⟨have he:=he.un;λFm=>by
 have hm:=T.loc x (List.mem_of_getElem? hN);have hi:X.N[i]?=some x:=by
  rw[List.getElem?_take]at hN;split at hN
  ·exact hN
  ·cases hN
 exact PS.imp (yc T.nd hi hm.1 he hs hm.2) λD σ H h=>(me (P:=iM) (f:=f) (k:=λρ d=>.ok (.nx (ρ.set i (.val d)))) h).post λv H1 ⟨ρ,d,sl,_,p,q⟩=>
  q _ H1 (sl.set i (λe z=>by cases z) ⟨v,rfl,p⟩)⟩
theorem fM(T:Tb X nl G)(i:Nat)(hN:(X.N.take nl)[i]?=some x)(he:Z.mS X e f)(hs:swapsWith e (some (.Name x pos')) pos.line X.env=pure false:=by rfl):Z.kG X (.Assign [.Name x pos'] e pos) (gP i f):=⟨have he:=he.un;λFm=>by
 have hm:=T.loc x (List.mem_of_getElem? hN);have hi:X.N[i]?=some x:=by
  rw[List.getElem?_take]at hN;split at hN
  ·exact hN
  ·cases hN
 refine PS.imp (yc T.nd hi hm.1 he hs hm.2) λD σ H h=>?_
 obtain⟨ρ0,sl0,q0⟩:=h;refine⟨ρ0,sl0.sl,?_⟩;unfold gP at q0;cases ef:f ρ0 with
 |ex c=>rw[ef]at q0;exact q0.1.mono sl0.fm
 |no=>rw[ef]at q0;exact q0
 |ok d=>
  rw[ef]at q0;exact λv H1 s p=>q0 _ H1 (iN.setOwn sl0 (sl0.mono s) s i p)⟩
end
structure Bq(J:It)(Gd:Hp->Prop)(ds:List Qa):Prop where
 go:∀i H,Gd H->i<ds.length->J.go i H
 yld:∀i H x H' d,Gd H->ds[i]?=some d->J.yld i H x H'->aN H H'/\Rp H' d x
 stop:∀i H,Gd H->ds.length<=i->J.stop i H
def Kb(H0:Hp)(B:Addr->Prop)(Gd:Hp->Prop):Prop:=∀H,Kp H0 H->(∀b o,B b->H0 b=some o->H b=some o)->Gd H
def LF(X:Cx)(f:aV->R (List Qa)):TI:=λσ H Rk=>∃ρ,Sl H σ ρ/\match f ρ with
 |.ok ds=>∀J H',aN H H'->(∃Gd,Bq J Gd ds/\Kb H' (λ_=>False) Gd)->Rk J H'
 |.ex c=>Xw X c H
 |.no=>False
def vm(X:Cx)(tg iter:Expr)(f:aV->R (List Qa)):Prop:=PI X tg iter (LF X f)
structure Z.vm(X:Cx)(tg iter:Expr)(f:aV->R (List Qa)):Prop where
 un:D2.vm X tg iter f
def LE(X:Cx)(b:Qa->aV->Option aV):TG:=λv σ H Q=>∃ρ d,Sl H σ ρ/\Rp H d v/\match b d ρ with
 |some ρ'=>∀σ',Sl H σ' ρ'->(∀(i:Nat) (e:Qa),ρ'[i]?=some (.own e)->ρ[i]?=some (.own e)/\σ'[i]?=σ[i]?)->Q σ' H
 |none=>False
def wZ(X:Cx)(tg:Expr)(b:Qa->aV->Option aV):Prop:=PG X tg (LE X b)
structure Z.wZ(X:Cx)(tg:Expr)(b:Qa->aV->Option aV):Prop where
 un:D2.wZ X tg b
def aE(i:Nat):Qa->aV->Option aV:=λd ρ=>some (ρ.set i (.val d))
theorem PG.imp{X:Cx}{e:Expr}{t t':TG}(h:PG X e t)(i:∀v σ H Q,t' v σ H Q->t v σ H Q):PG X e t':=λpins s σ H v u Q I r q=>h pins s σ H v u Q I r (i v σ H Q q)
theorem PI.imp{X:Cx}{tg e:Expr}{t t':TI}(h:PI X tg e t)(i:∀σ H Q,t' σ H Q->t σ H Q):PI X tg e t':=λpins s σ H Q I q=>h pins s σ H Q I (i σ H Q q)
section
variable{X:Cx}{nl:Nat}{G:List Str}{x:Str}{pos:Pos}
theorem Tb.nm(T:Tb X nl G){i:Nat}(hN:(X.N.take nl)[i]?=some x):X.N[i]?=some x/\FN X.env.scope x/\(X.fn x=true\/X.env.scope.names.lookup x=some .local):=by
 have hm:=T.loc x (List.mem_of_getElem? hN);have hi:X.N[i]?=some x:=by
  rw[List.getElem?_take]at hN;split at hN
  ·exact hN
  ·cases hN
 exact⟨hi,hm⟩
theorem aI(T:Tb X nl G)(i:Nat)(hN:(X.N.take nl)[i]?=some x):Z.wZ X (.Name x pos) (aE i):=⟨by
 obtain⟨hi,h1,h2⟩:=T.nm hN;refine PG.imp (uU T.nd hi h1 h2) λv σ H Q zq0=>?_
 obtain⟨ρ,d,sl,p,q⟩:=zq0;refine q _ (sl.set i ⟨v,rfl,p⟩) λj e h=>?_
 obtain⟨ne,h⟩:=eK (λe z=>by cases z) h;exact⟨h,by rw[List.getElem?_set,if_neg ne]⟩⟩
end
def gc(b:Qa->aV->Option aV)(g:Fs):List Qa->Fs
 | [],ρ=>.ok (.nx ρ)
 |d::ds,ρ=>match b d ρ with
  |none=>.no
  |some ρ1=>g ρ1>>=λo=>match o with
   |.nx ρ2=>gc b g ds ρ2
   |.ct ρ2=>gc b g ds ρ2
   |.bk ρ2=>.ok (.nx ρ2)
   |.rt r=>.ok (.rt r)
def gO(it:aV->R (List Qa))(b:Qa->aV->Option aV)(g:Fs):Fs:=λρ=>it ρ>>=λds=>gc b g ds ρ
def stab(Fm H:Hp):Hp:=λb=>match H b with
 |some (.tup xs)=>some (.tup xs)
 |some (.frz o u)=>some (.frz o u)
 | _=>Fm b
theorem Bb{Fm H:Hp}(h:aN Fm H):aN (stab Fm H) H:=λb o e=>by
 unfold stab at e;split at e
 ·rename_i q;rw[q];exact e
 ·rename_i q;rw[q];exact e
 ·exact h b o e
theorem FA{Fm H:Hp}:Kp H (stab Fm H):=⟨λb xs e=>by unfold stab;rw[e],λb o u e=>by unfold stab;rw[e]⟩
theorem Fz{Fm H:Hp}(h:aN Fm H):aN Fm (stab Fm H):=λb o e=>by
 have:=h b o e;unfold stab;split
 ·rename_i q;rw[this]at q;exact q.symm
 ·rename_i q;rw[this]at q;exact q.symm
 ·exact e
theorem iN.stab{Fm H:Hp}{σ:St}{ρ:aV}(h:iN Fm H σ ρ):iN (stab Fm H) H σ ρ:=by
 refine⟨Bb h.fm,h.sl,λi d a h1 h2=>?_,h.apart⟩;have f:=h.own i d a h1 h2;obtain⟨u,e1,q⟩:=h.sl.2 i _ _ h1 h2;cases e1;unfold D2.stab;cases d<;>simp only[iB]at q
 ·obtain⟨b,vs,e,hb,_⟩:=q;cases e;rw[hb];exact f
 ·rcases q with⟨b,vs,e,hb,_⟩| ⟨b,vs,e,hb,_⟩<;>(cases e;rw[hb];exact f)
theorem iN.unstab{Fm F H:Hp}{σ:St}{ρ:aV}(hF:aN Fm F)(h:iN F H σ ρ):iN Fm H σ ρ:=⟨hF.trans h.fm,h.sl,λi d a h1 h2=>hF.free (h.own i d a h1 h2),h.apart⟩
theorem dc{X:Cx}{tg iter:Expr}{body:List Stmt}{it:aV->R (List Qa)}{b:Qa->aV->Option aV}{g:Fs}{pos:Pos}(hp:PassesOwn (model X.prog X.w) X.A X.env X.xe)(hc:X.calm=true)(hi:Z.vm X tg iter it)(hg:Z.wZ X tg b)(hb:Z.nY X body g)(hs:∀x,foldedSetIterable iter X.env x=pure x:=by intro _;rfl):Z.kG X (.For tg iter body [] pos) (gO it b g):=⟨have hi:=hi.un;have hg:=hg.un;have hb:=hb.un;λFm=>by
 intro pins s σ H D I h;obtain⟨ρ,sl,q⟩:=h;unfold gO at q
 -- the frame: what is stable at the loop's kC is only known behind the iterator's making: the body is taken at every frame
 refine Hz (wi:=LF X it) (g:=LE X b) (tb:=λD' σ' H'=>∃F,F5 X F g D' σ' H') hp hc hi hg (λpins' s' σ' H' D' I' ⟨F,q'⟩=>hb F pins' s' σ' H' D' I' q') hs pins s σ H D I ?_;refine⟨ρ,sl.sl,?_⟩;cases ei:it ρ with
 |ex c=>rw[ei]at q;exact q.1.mono sl.fm
 |no=>rw[ei]at q;exact q
 |ok ds=>
  rw[ei]at q;intro J H1 s1 ⟨Gd,idt,sta⟩;have sl1:=sl.mono s1;let F:=stab Fm H1
  have hF:aN Fm F:=Fz sl1.fm
  -- the word: so many items are taken,and the ge gives what the whole gives
  refine⟨λi m σ' H'=>m=ds.length-i/\i<=ds.length/\∃ρ',iN F H' σ' ρ'/\Dc X Fm (gc b g (ds.drop i) ρ') D,⟨ds.length,by simp,Nat.zero_le _,ρ,sl1.stab,by simpa using q⟩,?_⟩;rintro i m σ2 H2 ⟨rfl,hi',ρ2,sl2,q2⟩;have gd:Gd H2:=sta H2 (Kp.trans FA (Kp.of sl2.fm)) λ_ _ z=>z.elim
  by_cases hlt:i<ds.length
  ·refine .inr ⟨idt.go i H2 gd hlt,λσ' H'=>i+1<=ds.length/\∃ρ',iN F H' σ' ρ'/\Dc X Fm (gc b g (ds.drop (i+1)) ρ') D,λσ' H' ⟨z,p⟩=>⟨ds.length-(i+1),by omega,rfl,z,p⟩,λx H3 y=>?_⟩;obtain⟨d,hd⟩:∃d,ds[i]?=some d:=⟨ds[i],List.getElem?_eq_getElem hlt⟩
   obtain⟨s3,p3⟩:=idt.yld i H2 x H3 d gd hd y;have hdrop:ds.drop i=d::ds.drop (i+1):=by
    rw[List.drop_eq_getElem_cons hlt];congr 1;exact Option.some.inj ((List.getElem?_eq_getElem hlt).symm.trans hd)
   rw[hdrop]at q2;unfold gc at q2;have sl3:=sl2.mono s3;refine⟨ρ2,d,sl3.sl,p3,?_⟩;cases eb:b d ρ2 with
   |none=>rw[eb]at q2;exact q2
   |some ρ3=>
    rw[eb]at q2;intro σ4 sl4 hown;refine⟨F,ρ3,⟨sl3.fm,sl4,λj e a h1 h2=>?_,λj k e f a h1 h2 h3 h4=>?_⟩,?_⟩
    ·obtain⟨z1,z2⟩:=hown j e h1;exact sl3.own j e a z1 (by rw[<-z2];exact h2)
    ·obtain⟨z1,z2⟩:=hown j e h1;obtain⟨z3,z4⟩:=hown k f h2;exact sl3.apart j k e f a z1 z3 (by rw[<-z2];exact h3) (by rw[<-z4];exact h4)
    ·have q3:Dc X Fm (g ρ3>>=λo=>match o with
      |.nx ρ2=>gc b g (ds.drop (i+1)) ρ2
      |.ct ρ2=>gc b g (ds.drop (i+1)) ρ2
      |.bk ρ2=>.ok (.nx ρ2)
      |.rt r=>.ok (.rt r)) D:=q2
     cases eg:g ρ3 with
     |ex c=>rw[eg]at q3;exact⟨q3.1.mono hF,q3.2.mono hF⟩
     |no=>rw[eg]at q3;exact q3
     |ok o=>
      rw[eg]at q3;cases o with
      |nx ρ4=>exact λσ' H' s'=>⟨hlt,ρ4,s',q3⟩
      |ct ρ4=>exact λσ' H' s'=>⟨hlt,ρ4,s',q3⟩
      |bk ρ4=>exact λσ' H' s'=>q3 σ' H' (s'.unstab hF)
      |rt r=>exact λv H' s' p'=>q3 v H' (hF.trans s') p'
  ·have e:i=ds.length:=by omega
   subst e;refine .inl ⟨idt.stop _ H2 gd (Nat.le_refl _),?_⟩;rw[List.drop_length]at q2;exact q2 σ2 H2 (sl2.unstab hF)⟩
def dS(n:Nat)(g:Fs):List Qa->R Qa:=λds=>g (ds.map ba.val++Qi (n-ds.length) .non)>>=λo=>match o with
 |.rt d=>.ok d
 |.nx _=>.ok .none
 | _=>.no
def dN(F:List Qa->R Qa)(n:Nat):Sp:=λvs H Q E=>∃ds,bI H ds vs/\ds.length=n/\match F ds with
 |.ok d=>∀v H',aN H H'->Rp H' d v->Q v H'
 |.ex c=>∀H',aN H H'->E (.str c 0) none H'
 |.no=>False
theorem wF{H:Hp}{N:List Str}:∀{ds:List Qa} {vs:List V},bI H ds vs->Sl H (L2.kC N vs) (ds.map ba.val++Qi (N.length-ds.length) .non):=λ{ds vs} r=>by
 have hl:=r.length;refine⟨by unfold L2.kC;rw[List.length_append,List.length_append,Qd,Qd,List.length_replicate,List.length_replicate,hl],λi c o h1 h2=>?_⟩;by_cases hi:i<ds.length
 ·rw[List.getElem?_append_left (by simpa using hi),List.getElem?_map]at h1;cases e:ds[i]? with
  |none=>rw[e]at h1;cases h1
  |some d=>
   rw[e]at h1;cases h1;obtain⟨v,e1,p⟩:=r.get e;unfold L2.kC at h2;rw[List.getElem?_append_left (by rw[Qd,hl];exact hi),List.getElem?_map,e1]at h2;cases h2;exact⟨v,rfl,p⟩
 ·rw[List.getElem?_append_right (by simpa using hi),List.getElem?_replicate]at h1;split at h1
  ·cases h1;exact True.intro
  ·cases h1
section
variable{P:Program}{w:World}{H:Hp}{h:Heap}{a:Addr}
theorem uR:∀{o:HO},cD P w H h a o->∃u,h.get? a=some u
 |.lst xs,x=>by obtain⟨_,_,_,_,e⟩:=x;exact⟨_,e⟩
 |.tup xs,x=>by obtain⟨_,_,_,o,e,_⟩:=x;exact⟨_,e⟩
 |.dK kvs,x=>by obtain⟨_,_,_,_,o,_,_,e,_⟩:=x;exact⟨_,e⟩
 |.dT kvs,x=>by obtain⟨_,_,_,_,o,_,_,e,_⟩:=x;exact⟨_,e⟩
 |.set S n,x=>by obtain⟨o,_,_,_,e,_⟩:=x;exact⟨_,e⟩
 |.ins C dx fs,x=>by obtain⟨_,_,_,e,_⟩:=x;exact⟨_,e⟩
 |.own y,x=>by obtain⟨_,e⟩:=x;exact⟨_,e⟩
 |.xd fs,x=>by obtain⟨_,⟨_,_,_,e,_⟩,_⟩:=x;exact⟨_,e⟩
 |.rng lo hi,x=>by obtain⟨_,_,_,e⟩:=x;exact⟨_,e⟩
 |.frz ob u,x=>by obtain⟨e,_⟩:=x;exact⟨_,e⟩
 |.tbl ps,x=>⟨_,(show h.get? a=some _ from x)⟩
 |.met f y,x=>⟨_,(show h.get? a=some _ from x)⟩
 |.ext φ,x=>by obtain⟨_,⟨_,e⟩,_⟩:=x;exact⟨_,e⟩
end
theorem t9.un{P:Program}{w:World}{outer:List Env}{H H':Hp}{s s':Shared}{C:Addr}{e:Value}(f:t9 P w outer H s C H' e s'):Un (mO outer) [] H H' s.heap s'.heap:=by
 obtain⟨p,a0,B,_,fl,ok,_,cov⟩:=f.ex;refine⟨λb o q n hb _=>fl.1 _ _ (cov b o q n hb).1,λb o q n hb _=>(f.slot b o q n hb).1,λb o q n _=>?_,λb o q _=>?_,λb xs q=>f.same _ _ q,λb o u q=>f.same _ _ q,λb ps q=>⟨#[],by rw[f.same _ _ q];simp⟩⟩
 ·by_cases hb:b∈mO outer
  ·exact(f.slot b o q n hb).2
  ·exact(cov b o q n hb).2
 ·cases n:H b with
  |none=>
   by_cases hb:b∈mO outer
   ·obtain⟨sl,z⟩:=(f.slot b o q n hb).1;exact⟨_,z⟩
   ·exact⟨o,fl.1 _ _ (cov b o q n hb).1⟩
  |some u=>
   obtain⟨o',z⟩:=uR (ok b u (f.same _ _ n));exact⟨o',fl.1 _ _ z⟩
theorem t9.hok{P:Program}{w:World}{outer:List Env}{H H':Hp}{s s':Shared}{C:Addr}{e:Value}(f:t9 P w outer H s C H' e s'):iZ P w H' s'.heap:=by
 obtain⟨p,a0,B,_,fl,ok,_,_⟩:=f.ex;exact ok.kept λb u q=>fl.1 b u q
theorem oS.un{P:Program}{w:World}{outer:List Env}{H H':Hp}{s s':Shared}{C:Addr}{e:Value}(f:oS P w outer H s C H' e s'):Un (mO outer) [] H H' s.heap s'.heap:=f.hld.un
theorem oS.hok{P:Program}{w:World}{outer:List Env}{H H':Hp}{s s':Shared}{C:Addr}{e:Value}(f:oS P w outer H s C H' e s'):iZ P w H' s'.heap:=f.hld.hok
theorem t9.inv{X:Cx}{pins:List (Addr×Obj)}{σ:St}{Hc H1:Hp}{sc s':Shared}{C:Addr}{e:Value}(f:t9 X.prog X.w X.stack Hc sc C H1 e s')(I:aT X pins σ Hc sc):aT X pins σ H1 s':=
 I.call' f.os f.un f.hok f.bare λb z=>absurd z (by simp)
section
variable{P:Program}{w:World}{l:List Env}{H H':Hp}{s s':Shared}{C p:Addr}{e:Value}
theorem t9.again{a0:Value}{B h':Heap}(f:t9 P w l H s C H' e s')(t:vA B l p (.ref C) a0 s'.heap)(t':vA B l p (.ref C) a0 h')(up:s'.heap.UpToSlots h')(okB:iZ P w H' B)(hp:H' p=none)
  (cov:∀b o,s.heap.get? b=some o->H b=none->b∉mO l->B.get? b=some o/\H' b=none):t9 P w l H s C H' (.ref p) { s' with heap:=h' }:=by
 refine⟨f.os,f.bare,f.same,⟨p,a0,B,rfl,t',okB,hp,cov⟩,λb o q n hb=>?_⟩;obtain⟨⟨sl,q2⟩,n2⟩:=f.slot b o q n hb;obtain⟨_,o3,q3,nf⟩:=t.2.2.1.mem hb;rw[q2]at q3;cases q3;obtain⟨sl3,q4⟩:=up b _ q2 nf;exact⟨⟨sl3,q4⟩,n2⟩
theorem Cv{x:Value}{env env0:Env}(h:env.frame=env0.frame):noteFrame x env=noteFrame x env0:=by
 unfold noteFrame PySem.frameOf;rw[h]
theorem t9.note{M:Model}{A:Around}{E:Value->Shared->Prop}{Q:Unit->Shared->Prop}{env env0:Env}{outer:List Env}{L:Addr}(f:t9 P w l H s C H' e s')(hl:l=env0::outer)(hfr:A.frames=some l)(h0:env0.frame=some L)(h1:env.frame=some L)
  (k:∀h',t9 P w l H s C H' e { s' with heap:=h' }->s'.heap.UpToSlots h'->Q () { s' with heap:=h' }):wpAny M A (noteFrame e env) Q E s':=by
 subst hl;obtain⟨p,a0,B,rfl,t,okB,hp,cov⟩:=f.ex;rw[Cv (h1.trans h0.symm)];exact wH hfr h0 t λh' t' up=>k h' (f.again t t' up okB hp cov) up
theorem t9.pass{α:Type}{M:Model}{A:Around}{E:Value->Shared->Prop}{Q:α->Shared->Prop}{env:Env}{what:String}(f:t9 P w l H s C H' e s')(k:∀h',t9 P w l H s C H' e { s' with heap:=h' }->E e { s' with heap:=h' }):wpAny M A (PySem.passOn what e env:Sem α) Q E s':=by
 obtain⟨p,a0,B,rfl,t,okB,hp,cov⟩:=f.ex;exact DA t λh' t' up=>k h' (f.again t t' up okB hp cov)
end
section
variable{P:Program}{w:World}{K:PySem.W.Frag}{mg:Str->Option Value}{base:Heap}{N:List Str}{qual:Str}{sc:Scope}{f:Addr}{cdv:Value}{A:Around}{outer:List Env}{s:Shared}{H:Hp}{E:XK}{c:Str}
theorem DK(h:∀H',aN H H'->E (.str c 0) none H'):Xw (gK (cX P w mg) P w K mg base N qual sc f cdv A outer s H E) c H:=by
 intro H1 s1 C hm pins σ Hc sc' e s' I fl;obtain⟨p,a0,B,rfl,fly,okB,hp,cov⟩:=fl.ex;have old:∀b o,s.heap.get? b=some o->b≠s.heap.objs.size:=λb o q=>Nat.ne_of_lt (Heap.lt_size q)
 refine Be I.ok.frames rfl fly λh' fl' up=>⟨c,C,H1,hm,⟨fl.os.trans I.os,fl.bare,s1,⟨p,a0,B,rfl,fl',okB,hp,λb o q n hb=>?_⟩,λb o q n hb=>?_⟩,h H1 s1⟩
 ·have q1:=I.base.keep b o q n hb (by simp[gK]);have n1:=I.base.free b o q n (by simp[gK]);refine cov b o q1 n1 λz=>?_
  have z':b∈(s.heap.objs.size::mO outer):=z;rcases List.mem_cons.mp z' with z2|z2
  ·exact old b o q z2
  ·exact hb z2
 ·obtain⟨sl,q1⟩:=I.base.slot b o q n hb (by simp[gK]);have n1:=I.base.free b o q n (by simp[gK]);have hb':b∈mO (gK (cX P w mg) P w K mg base N qual sc f cdv A outer s H E).stack:=Qf _ hb;obtain⟨⟨sl',q2⟩,n2⟩:=fl.slot b _ q1 n1 hb';obtain⟨_,o3,q3,nf⟩:=fly.2.2.1.mem hb';rw[q2]at q3;cases q3;obtain⟨sl3,q4⟩:=up b _ q2 nf;exact⟨⟨sl3,q4⟩,n2⟩
theorem Ac(h:∀H',aN H H'->E (.str c 0) none H'):Ia (gK (cX P w mg) P w K mg base N qual sc f cdv A outer s H E) c H:=by
 intro C hm pins σ Hm sm sH I h' p vs hx;have hin:∀env∈(gK (cX P w mg) P w K mg base N qual sc f cdv A outer s H E).stack,∀b,env.frame=some b->b∈mO (gK (cX P w mg) P w K mg base N qual sc f cdv A outer s H E).stack:=λenv he b hb=>List.mem_filterMap.mpr ⟨env,he,hb⟩
 have old:∀b o,s.heap.get? b=some o->b≠s.heap.objs.size:=λb o q=>Nat.ne_of_lt (Heap.lt_size q)
 refine wpAny_leaves_madeW (s:={ sm with heap:=h' }) (base:=PySem.W.hideAll sm.heap (mO (gK (cX P w mg) P w K mg base N qual sc f cdv A outer s H E).stack)) I.ok.frames rfl (λb o q=>PySem.W.of_hideAll _ q) (PySem.W.funFrames_hide I.stack hin) hx λh'' t fl' _ _ up=>
  ⟨c,C,Hm,hm,⟨I.os,I.bare,sH,⟨p,.ref t,_,rfl,fl',λb u q=>?_,?_,λb o q n hb=>?_⟩,λb o q n hb=>?_⟩,h Hm sH⟩
 ·refine(I.hok b u q).stay (λc' v hc z=>PySem.W.hideAll_get _ z λm=>?_) (λ_ z=>z) λ_ _ z=>z
  have hn:=I.stkFree c' m;rcases hc with rfl|hc
  ·rw[hn]at q;cases q
  ·rw[hn]at hc;cases hc
 ·cases q:Hm p with
  |none=>rfl
  |some u=>
   obtain⟨o',z⟩:=uR (I.hok p u q);rw[hx.new]at z;cases z
 ·have q1:=I.base.keep b o q n hb (by simp[gK]);have n1:=I.base.free b o q n (by simp[gK]);refine⟨PySem.W.hideAll_get _ q1 λz=>?_,n1⟩;have z':b∈(s.heap.objs.size::mO outer):=z;rcases List.mem_cons.mp z' with z2|z2
  ·exact old b o q z2
  ·exact hb z2
 ·obtain⟨sl,q1⟩:=I.base.slot b o q n hb (by simp[gK]);have n1:=I.base.free b o q n (by simp[gK]);have hb':b∈mO (gK (cX P w mg) P w K mg base N qual sc f cdv A outer s H E).stack:=Qf _ hb;obtain⟨_,o3,q3,nf⟩:=I.stack.mem hb';rw[q1]at q3;cases q3;obtain⟨sl3,q4⟩:=up b _ (hx.keeps _ _ q1) nf;exact⟨⟨sl3,q4⟩,n1⟩
end
theorem ED{P:Program}{w:World}{K:PySem.W.Frag}{mg:Str->Option Value}{base:Heap}{x qual:Str}{st:Stmt}{f:Addr}{fd:Qh}{N ps:List Str}{k:Nat}{g:Fs}(F:gq K x qual st f fd)(S:aR N ps (ao st))
  (body:∀(cdv:Value) (A:Around) (outer:List Env) (s:Shared) (H:Hp) (E:XK),fW k (A.deeper (envOfC qual (ao st) s.heap.objs.size f cdv)) ->
   nY (gK (cX P w mg) P w K mg base N qual (ao st) f cdv A outer s H E) (cZ st) g):bc P w K mg base (cX P w mg) (k+1) f fd ps (dN (dS N.length g) ps.length):=by
 obtain⟨oc,od,kV,doc,pm,an,cdv,ct,osl,rfl,lk,hcd⟩:=F.ex;refine zd lk hcd S (λvs H Q E ⟨ds,r,hl,_⟩=>by rw[r.length];exact hl) λA outer s H vs Q E hr h=>?_
 obtain⟨ds,r,hl,q⟩:=h;have noOwn:∀(i:Nat) (d:Qa),(ds.map ba.val++Qi (N.length-ds.length) ba.non)[i]?=some (.own d)->False:=λi d h1=>by
  by_cases hi:i<ds.length
  ·rw[List.getElem?_append_left (by simpa using hi),List.getElem?_map]at h1;cases e:ds[i]? with
   |none=>rw[e]at h1;cases h1
   |some d=>rw[e]at h1;cases h1
  ·rw[List.getElem?_append_right (by simpa using hi),List.getElem?_replicate]at h1;split at h1
   ·cases h1
   ·cases h1
 refine⟨_,body cdv A outer s H E hr H,_,⟨aN.refl _,wF r,λi d a h1 h2=>(noOwn i d h1).elim,λi j d e a h1 h2 h3 h4=>(noOwn i d h1).elim⟩,?_⟩;unfold dS at q;cases eg:g (ds.map ba.val++Qi (N.length-ds.length) .non)with
 |ex c=>rw[eg]at q;exact⟨DK q,Ac q⟩
 |no=>rw[eg]at q;exact q.elim
 |ok o=>
  rw[eg]at q;cases o with
  |rt d=>exact λv H' s' p=>q v H' s' p
  |nx ρ=>exact λσ' H' s'=>q .non H' s'.fm (by simp only[Rp])
  |bk ρ=>exact q.elim
  |ct ρ=>exact q.elim
def aC(F:List Qa->R Qa)(fs:aV->R (List Qa)):Fe:=λρ=>fs ρ>>=F
theorem Ez{X:Cx}{k n:Nat}{f:Addr}{fd:Qh}{ps:List Str}{F:List Qa->R Qa}{x:Str}{p pos:Pos}{e:Expr}{es:List Expr}{fs:aV->R (List Qa)}{nl:Nat}{G:List Str}
  (C:bc X.prog X.w X.K X.mg X.base (cX X.prog X.w X.mg) k f fd ps (dN F n)) (hr:fW k X.A) (T:Tb X nl G) (j:Nat) (hG:G[j]?=some x) (hm:X.mg x=some (.ref f)) (hk:PySem.W.keepIn X.K (.ref f)=true) (hb:bx X.K fd ps []) (ha:tZ X (e::es) fs)
  (hlen:(e::es).length=n) (hfs:∀ρ ds,fs ρ=.ok ds->ds.length=n)
  (he:(e::es).all bn=true:=by rfl):dA X (.Call (.Name x p) (e::es) [] pos) (aC F fs):=by
 rw[List.all_cons,Bool.and_eq_true]at he;have g:=T.gl x (List.mem_of_getElem? hG);refine PE.imp (zH C hr g.1 hm hk hb .nil uT ha g.2.1 (bC he.1) (ls he.2)) λσ H Q zq0=>?_
 obtain⟨ρ,sl,q⟩:=zq0;refine⟨ρ,sl,?_⟩;unfold aC at q;cases e1:fs ρ with
 |ex c=>rw[e1]at q;exact q
 |no=>rw[e1]at q;exact q
 |ok ds=>
  rw[e1]at q;intro vs H1 s1 r1;rw[List.append_nil];refine⟨ds,my.mp r1,hfs ρ ds e1,?_⟩;have q':yg X iM (F ds) H Q:=q;cases e2:F ds with
  |ok d=>rw[e2]at q';exact λv H' s' p'=>q' v H' (s1.trans s') p'
  |ex c=>rw[e2]at q';exact λH' s'=>Xw.ex q' H' (s1.trans s')
  |no=>rw[e2]at q';exact q'
theorem ar:∀ρ ds,az ρ=.ok ds->ds.length=0:=λρ ds e=>by cases e;rfl
theorem ah{f:Fe}{g:aV->R (List Qa)}{n:Nat}(h:∀ρ ds,g ρ=.ok ds->ds.length=n):∀ρ ds,ai f g ρ=.ok ds->ds.length=n+1:=λρ ds e=>by
 unfold ai at e;cases e1:f ρ with
 |ex c=>rw[e1]at e;cases e
 |no=>rw[e1]at e;cases e
 |ok d=>
  rw[e1]at e;cases e2:g ρ with
  |ex c=>rw[e2]at e;cases e
  |no=>rw[e2]at e;cases e
  |ok ds'=>rw[e2]at e;cases e;rw[List.length_cons,h ρ ds' e2]
theorem xt{scope:Scope}{env:Env}(h:∀x∈scope.names,x.2=.free->∃c,env.cells.lookup x.1=some c) :
  ∃cl,closureFor scope env=pure cl/\(∀x c,cl.lookup x=some c->env.cells.lookup x=some c)/\∀x∈scope.names,x.2=.free->∃c,cl.lookup x.1=some c:=by
 suffices gen:∀(names:List (Str×NameKind)) (acc:List (Str×Addr)),(∀x∈names,x.2=.free->∃c,env.cells.lookup x.1=some c)->(∀x c,acc.lookup x=some c->env.cells.lookup x=some c) ->
   ∃cl,(forIn names acc λx r=>if(x.snd==NameKind.free)=true then do let a <-cellOf env x.fst;pure (ForInStep.yield ((x.fst,a)::r))else pure (ForInStep.yield r):Sem (List (Str×Addr)))=pure cl /\
    (∀x c,cl.lookup x=some c->env.cells.lookup x=some c)/\(∀x c,acc.lookup x=some c->∃c',cl.lookup x=some c')/\∀x∈names,x.2=.free->∃c,cl.lookup x.1=some c by
  obtain⟨cl,h1,h2,_,h4⟩:=gen scope.names [] h λx c e=>by simp at e
  refine⟨cl,?_,h2,h4⟩;simp only[closureFor];rw[h1];rfl
 intro names;induction names with
 |nil=>intro acc _ ha;exact⟨acc,rfl,ha,λx c e=>⟨c,e⟩,λx hx=>by cases hx⟩
 |cons y r ih=>
  intro acc hn ha;obtain⟨n,k⟩:=y;by_cases hk:k=.free
  ·subst hk;obtain⟨c,hc⟩:=hn (n,.free) List.mem_cons_self rfl;obtain⟨cl,e1,e2,e3,e4⟩:=ih ((n,c)::acc) (λx hx=>hn x (Qf _ hx)) (λx c' e=>by
    rw[List.lookup_cons]at e;split at e
    ·rename_i q;have:x=n:=by simpa using q
     subst this;cases e;exact hc
    ·exact ha x c' e)
   refine⟨cl,?_,e2,λx c' e=>?_,λx hx hf=>?_⟩
   ·rw[List.forIn_cons];have:cellOf env n=pure c:=by unfold cellOf;rw[hc]
    simp only[beq_self_eq_true,if_true,this,pure_bind];exact e1
   ·by_cases hx:x=n
    ·subst hx;exact e3 x c (by rw[List.lookup_cons];simp)
    ·have hb:(x==n)=false:=by simpa using hx
     exact e3 x c' (by rw[List.lookup_cons,hb];exact e)
   ·rcases List.mem_cons.mp hx with rfl|hx
    ·exact e3 n c (by rw[List.lookup_cons];simp)
    ·exact e4 x hx hf
  ·obtain⟨cl,e1,e2,e3,e4⟩:=ih acc (λx hx=>hn x (Qf _ hx)) ha;refine⟨cl,?_,e2,e3,λx hx hf=>?_⟩
   ·rw[List.forIn_cons];have:(k==NameKind.free)=false:=by simpa using hk
    simp only[this,Bool.false_eq_true,if_false,pure_bind];exact e1
   ·rcases List.mem_cons.mp hx with rfl|hx
    ·exact absurd hf hk
    ·exact e4 x hx hf
def Jv(env:Env)(p:Str×NameKind):NameKind:=if(p.2==.free&&env.scope.kind==.function&&env.kindOf p.1==some .cell)=true then .cell else p.2
theorem sA(scope:Scope)(env:Env):(relabel scope env).names=scope.names.map λp=>(p.1,Jv env p):=by
 unfold relabel;refine List.map_congr_left λp _=>?_
 obtain⟨n,k⟩:=p;unfold Jv;dsimp only;split<;>rfl
theorem pd(g:Str×NameKind->NameKind)(x:Str):∀l:List (Str×NameKind),(l.map λp=>(p.1,g p)).lookup x=(l.lookup x).map λk=>g (x,k)
 | []=>rfl
 | (n,k)::r=>by
  rw[List.map_cons];cases hx:x==n with
  |true=>
   have e:x=n:=by simpa using hx
   subst e;simp
  |false=>
   have ne:¬x=n:=by simpa using hx
   simp only[List.lookup_cons,hx];exact pd g x r
theorem mC(scope:Scope)(env:Env)(x:Str):(relabel scope env).names.lookup x=(scope.names.lookup x).map λk=>Jv env (x,k):=by
 rw[sA];exact pd _ _ _
theorem gC{scope:Scope}{env:Env}{x:Str}{k:NameKind}(h:scope.names.lookup x=some k)(hk:k≠.free):(relabel scope env).names.lookup x=some k:=by
 rw[mC,h];have:(k==NameKind.free)=false:=by simpa using hk
 simp only[Jv,this,Bool.false_and,Bool.false_eq_true,if_false,Option.map_some]
theorem nO{scope:Scope}{env:Env}{x:Str}(h:scope.names.lookup x=some .free):(relabel scope env).names.lookup x=some .free\/(relabel scope env).names.lookup x=some .cell:=by
 rw[mC,h];unfold Jv;dsimp only[Option.map_some];split
 ·exact .inr rfl
 ·exact .inl rfl
theorem ww{scope:Scope}{env:Env}{x:Str}(hc:∀y∈scope.names,y.2≠.cell)(h:(relabel scope env).names.lookup x=some .free\/(relabel scope env).names.lookup x=some .cell):(x,NameKind.free)∈scope.names:=by
 cases e:scope.names.lookup x with
 |none=>
  rw[mC,e]at h;rcases h with h|h<;>cases h
 |some k=>
  by_cases hk:k=.free
  ·subst hk;exact PySem.mem_of_lookup e
  ·exfalso;have:=gC (env:=env) e hk;rw[this]at h;rcases h with h|h
   ·cases h;exact hk rfl
   ·cases h;exact hc _ (PySem.mem_of_lookup e) rfl
def bE(X:Cx)(N:List Str)(scope:Scope)(cl:List (Str×Addr))(C:Addr)(s:Shared)(H:Hp)(fp:List Addr)(E:Value->Shared->Prop:=λ_ _=>False):Cx:=
 { X with N:=N,s₀:=s,H₀:=H,env:=compEnvC scope cl C X.env,outer:=X.stack,stack:=X.stack,ex:=fp,fn:=λ_=>false,pn:=[],xe:=E }
def gT(sc:Scope)(N:List Str)(own:Nat)(G:List Str)(oN:List Str)(fr:List Nat):Prop:=
 sc.kind=.function/\(∀y∈sc.names,y.2≠.cell)/\(∀y∈sc.names,y.2=.local->sc.names.lookup y.1=some .local)/\N.Nodup/\(∀x∈N.take own,sc.names.lookup x=some .local)/\(∀x∈N.drop own,sc.names.lookup x=some .free) /\
 (∀x∈N,(x==("__debug__" : Str))=false/\(x==("__classdict__" : Str))=false)/\(∀x∈G,sc.names.lookup x=some .globalImplicit/\(x==("__debug__" : Str))=false/\x≠("__name__" : Str)) /\
 own<=N.length/\(N.drop own).map some=fr.map λi=>oN[i]?
instance {sc:Scope} {N:List Str} {own:Nat} {G oN:List Str} {fr:List Nat}:Decidable (gT sc N own G oN fr):=by unfold gT;infer_instance
theorem Ek{X:Cx}{nl:Nat}{G0:List Str}(T:Tb X nl G0){sc:Scope}{N:List Str}{own:Nat}{G oN:List Str}{fr:List Nat}(ck:gT sc N own G oN fr)(cl:List (Str×Addr))(C:Addr)(s:Shared)(H:Hp)(fp:List Addr) :
  Tb (bE X N sc cl C s H fp) own G:=by
 obtain⟨_,_,_,nd,l,f,db,g,_,_⟩:=ck;refine⟨T.hu,T.calm,nd,λx hx=>?_,λx hx=>?_,λx hx=>?_⟩
 ·refine⟨?_,db x hx⟩;have hx':x∈N.take own++N.drop own:=by rw[List.take_append_drop];exact hx
  rcases List.mem_append.mp hx' with z|z
  ·exact .inl (gC (l x z) (by decide))
  ·rcases nO (env:=X.env) (f x z)with q|q
   ·exact .inr (.inr q)
   ·exact .inr (.inl q)
 ·have q:=gC (env:=X.env) (l x hx) (by decide);exact⟨.inl q,.inr q⟩
 ·obtain⟨g1,g2,g3⟩:=g x hx;exact⟨gC (env:=X.env) g1 (by decide),g2,g3⟩
theorem BR{X:Cx}{nl:Nat}{G0:List Str}(T:Tb X nl G0){sc:Scope}{N:List Str}{own:Nat}{G oN:List Str}{fr:List Nat}(ck:gT sc N own G oN fr)(cl:List (Str×Addr))(C:Addr)(s:Shared)(H:Hp)(fp:List Addr)(E:Value->Shared->Prop) :
  Tb (bE X N sc cl C s H fp E) own G:=let T1:=Ek T ck cl C s H fp;⟨T1.hu,T1.calm,T1.nd,T1.vis,T1.loc,T1.gl⟩
def LJ(X:Cx)(ifs:List Expr)(t:TT):Prop:=
 ∀(pins:List (Addr×Obj)) (s:Shared) (σ:St) (H:Hp) (Q:Bool->Hp->Prop),aT X pins σ H s->t σ H Q->wpAny (model X.prog X.w) X.A (forIn ifs true λc r=>if r=true then do let ok <-isTrue c X.env (eval c X.env);pure (ForInStep.yield ok)else pure (ForInStep.yield r))
  (TP X pins σ Q) X.xe s
def Ag(X:Cx)(ifs:List Expr)(t:aV->R Bool):Prop:=LJ X ifs (Fl X t)
structure Z.Ag(X:Cx)(ifs:List Expr)(t:aV->R Bool):Prop where
 un:D2.Ag X ifs t
theorem cs{X:Cx}:Z.Ag X [] (λ_=>.ok true):=⟨λpins s σ H Q I ⟨ρ,sl,q⟩=>wpAny_tests_nil ⟨H,I,q H (aN.refl _)⟩⟩
theorem ft{X:Cx}{c:Expr}{t:aV->R Bool}(h:Z.pH X c t):Z.Ag X [c] t:=⟨have h:=h.un;λpins s σ H Q I q=>wpAny_tests_one (h pins s σ H Q I q)⟩
def bJ(b:Qa->aV->Option aV)(t:aV->R Bool)(f:Fe)(ρ:aV):List Qa->R (List Qa)
 | []=>.ok []
 |d::ds=>match b d ρ with
  |none=>.no
  |some ρ1=>t ρ1>>=λk=>if k=true then f ρ1>>=λx=>bJ b t f ρ ds>>=λxs=>.ok (x::xs)else bJ b t f ρ ds
def aB(own:Nat)(fr:List Nat)(ρ:aV):aV:=Qi own .non++fr.map λi=>ρ.getD i .non
def jG{α:Type}:R α->R α
 |.ex _=>.no
 |r=>r
def bD(it:aV->R (List Qa))(own:Nat)(fr:List Nat)(b:Qa->aV->Option aV)(t:aV->R Bool)(f:Fe):Fe:=λρ=>
 jG (it ρ)>>=λds=>if ds.length<=sizeLine then match bJ b t f (aB own fr ρ) ds with
  |.ok xs=>.ok (.list xs)
  |.ex c=>.ex c
  |.no=>.no
 else .no
def jb(own:Nat)(fr:List Nat)(σ:St):St:=Qi own none++fr.map λi=>(σ[i]?).join
theorem Ej{H:Hp}{σ:St}{ρ:aV}(h:Sl H σ ρ)(own:Nat)(fr:List Nat)(hin:∀i∈fr,i<ρ.length):Sl H (jb own fr σ) (aB own fr ρ):=by
 refine⟨by simp[jb,aB],λi c o h1 h2=>?_⟩;unfold aB at h1;unfold jb at h2;by_cases hi:i<own
 ·rw[List.getElem?_append_left (by simpa using hi),List.getElem?_replicate,if_pos hi]at h1;cases h1;exact True.intro
 ·rw[List.getElem?_append_right (by simpa using hi),List.getElem?_map,List.length_replicate]at h1 h2;cases e:fr[i-own]? with
  |none=>rw[e]at h1;cases h1
  |some j=>
   rw[e]at h1 h2;have hj:=hin j (List.mem_of_getElem? e);have hj':j<σ.length:=by rw[h.1];exact hj
   cases h1;cases h2;refine h.2 j _ _ ?_ ?_
   ·show ρ[j]?=some (ρ.getD j .non);rw[List.getD_eq_getElem?_getD,List.getElem?_eq_getElem hj];rfl
   ·show σ[j]?=some ((σ[j]?).join);rw[List.getElem?_eq_getElem hj'];rfl
section
variable{X:Cx}{pins:List (Addr×Obj)}{σ:St}{H:Hp}{s:Shared}{nl:Nat}{G0:List Str}{sc:Scope}{N:List Str}{own:Nat}{G:List Str}{fr:List Nat}{cl:List (Str×Addr)}{fp:List Addr}{a C:Addr}{h4:Heap}{t4:Nat}{m:Str->Option Value}
theorem Cb(I:aT X pins σ H s)(ck:gT sc N own G X.N fr)(hf:∀b∈fp,pJ X pins H b)(hob:∀b∈fp,b<s.heap.objs.size)(hcl1:∀x c,cl.lookup x=some c->X.env.cells.lookup x=some c)(hcl2:∀x∈sc.names,x.2=.free->∃c,cl.lookup x.1=some c)
  (vis:∀x∈X.N,Gu X.env.scope x) (hout:∀y∈sc.names,y.2=.free->X.env.kindOf y.1=some .cell\/X.env.kindOf y.1=some .free)
  (ha:s.heap.objs.size<=a) (hC:s.heap.objs.size<=C) (hac:a≠C) (keep:∀b o,s.heap.get? b=some o->h4.get? b=some o) (hl:h4.get? a=some { cls:=.type "list",data:=.seq #[] 0 }) (hn:h4.Ns C m) :
  aT (bE X N sc cl C s H fp) [] (jb own fr σ) (dj H a (.lst [])) { s with heap:=h4,toks:=t4 }:=by
 obtain⟨ck1,ck2,ck3,nd,l,f,db,g,ol,ofr⟩:=ck;have hHa:H a=none:=I.hok.fresh ha;have hHC:H C=none:=I.hok.fresh hC;have lt:∀{b:Addr} {o:Obj},s.heap.get? b=some o->b<s.heap.objs.size:=λe=>Heap.lt_size e
 have cellLt:∀x c,cl.lookup x=some c->c<s.heap.objs.size:=λx c e=>by
  obtain⟨v,q⟩:=I.cell x c (hcl1 x c e);exact q.lt
 refine⟨⟨I.ok.mod,ck1,I.ok.glob,I.ok.blt,hC,λx y c h1 h2=>I.ok.inj x y c (hcl1 x c h1) (hcl1 y c h2),λx hx=>?_,λx c hx=>(Bool.false_ne_true hx).elim,I.ok.hd,I.ok.frames,.inl rfl,λb hb=>⟨?_,λx c e=>?_⟩,I.bs,Nat.le_trans I.ok.bsz I.sz,λb o e hb=>?_,λb hb hs=>?_,I.stack,I.stkFree⟩,
  rfl,I.bare,Un.laid keep ha hHa,⟨m,hn,λi x v h1 h2 h3=>?_⟩,λx c e=>?_,?_,λx c e=>?_,λp hp=>?_,?_,?_⟩
 ·have q:=ww (env:=X.env) ck2 (show(relabel sc X.env).names.lookup x=some .free\/(relabel sc X.env).names.lookup x=some .cell from hx.elim .inr .inl);exact hcl2 _ q rfl
 ·exact Nat.ne_of_lt (Nat.lt_of_lt_of_le (hob b hb) hC)
 ·exact(hf b hb).2.2.2.2.1 x c (hcl1 x c e)
 ·rcases(hf b hb).2.2.2.1 with z|z
  ·exact I.ok.noex b o e z
  ·exact absurd (Nat.lt_of_lt_of_le (Heap.lt_size e) I.ok.bsz) (Nat.not_lt.mpr z)
 ·rcases List.mem_cons.mp (I.stkSub b hs)with z|z
  ·exact(hf b hb).2.1 z
  ·exact(hf b hb).2.2.1 z
 ·-- a captured name
  have hi:¬i<own:=λhi=>by
   unfold jb at h2;rw[List.getElem?_append_left (by simpa using hi),List.getElem?_replicate,if_pos hi]at h2;cases h2
  unfold jb at h2;rw[List.getElem?_append_right (by simpa using hi),List.getElem?_map,List.length_replicate]at h2;cases e:fr[i-own]? with
  |none=>rw[e]at h2;cases h2
  |some j=>
   rw[e]at h2;have h2':(σ[j]?).join=some v:=Option.some.inj h2;have hσ:σ[j]?=some (some v):=by
    cases q:σ[j]? with
    |none=>rw[q]at h2';cases h2'
    |some o=>rw[q]at h2';exact congrArg some h2'
   have hx:(N.drop own)[i-own]?=some x:=by
    rw[List.getElem?_drop];have:own+(i-own)=i:=by omega
    rw[this];exact h1
   have hj:X.N[j]?=some x:=by
    have q:=congrArg (λl=>l[i-own]?) ofr;simp only[List.getElem?_map,hx,e,Option.map_some]at q;exact(Option.some.inj q).symm
   have hfree:=f x (List.mem_of_getElem? hx);obtain⟨c,hc⟩:=hcl2 _ (PySem.mem_of_lookup hfree) rfl;have hXc:=hcl1 x c hc;obtain⟨m0,hn0,hl0⟩:=I.loc;obtain⟨u,ru,lk⟩:=hl0 j x v hj hσ (vis x (List.mem_of_getElem? hj));have ko:=hout _ (PySem.mem_of_lookup hfree) rfl;refine⟨u,ru,.inr ⟨(nO (env:=X.env) hfree).symm,c,hc,?_⟩⟩;rcases lk with⟨k1,_⟩| ⟨_,c',e1,ob,q1,q2⟩
   ·exfalso;rcases ko with k|k<;>(rw[k]at k1;cases k1)
   ·rw[hXc]at e1;cases e1;exact⟨ob,keep _ _ q1,q2⟩
 ·obtain⟨v,o,q,d⟩:=I.cell x c (hcl1 x c e);exact⟨v,o,keep _ _ q,d⟩
 ·show dj H a (.lst []) C=none;rw[aD (Ne.symm hac)];exact hHC
 ·have q:=I.freeC x c (hcl1 x c e);show dj H a (.lst []) c=none;rw[aD (Nat.ne_of_lt (Nat.lt_of_lt_of_le (cellLt x c e) ha))];exact q
 ·exact absurd (show p∈([]:List (Addr×Obj))from hp) (by simp)
 ·exact I.hok.laid keep ha ⟨Nat.zero_le _,[],0,.nil,hl⟩
 ·show(jb own fr σ).length=N.length;have q:=congrArg List.length ofr;rw[Qd,Qd,List.length_drop]at q;unfold jb;rw[List.length_append,List.length_replicate,Qd];omega
end
def pI(ρ0 ρ1:aV):Prop:=ρ1.length=ρ0.length/\∀(i:Nat) (c:ba),ρ0[i]?=some c->c=.non\/ρ1[i]?=some c
theorem Sl.unfit{H:Hp}{σ:St}{ρ0 ρ1:aV}(h:Sl H σ ρ1)(f:pI ρ0 ρ1):Sl H σ ρ0:=by
 refine⟨h.1.trans f.1,λi c o h1 h2=>?_⟩;rcases f.2 i c h1 with rfl|q
 ·exact True.intro
 ·exact h.2 i c o q h2
def Bs(H0:Hp)(σ:St)(ρ:aV):Prop:=∀(i:Nat) (e:Qa),ρ[i]?=some (.own e)->∃v,σ[i]?=some (some v)/\iB H0 e v
inductive LG(X:Cx)(tn:Nat->Heap->Prop)(fp:List Addr)(a:Addr)(b:Qa->aV->Option aV)(t:aV->R Bool)(f:Fe)(ds:List Qa)(r:R (List Qa))(H0:Hp)(ρ0:aV)(n:Nat)(s:Shared):Prop
 |mk (i:Nat) (acc:List Qa) (σ:St) (H:Hp) (vs:List V) (hn:n=ds.length-i) (hi:i<=ds.length) (hal:acc.length<=i) (I:aT X [] σ H s) (st:tn i s.heap) (fr:∀b∈fp,H b=none) (s0:aN H0 H) (hla:H a=some (.lst vs)) (ra:bI H acc vs) (hc:(bJ b t f ρ0 (ds.drop i)>>=λge=>.ok (acc++ge))=r) (sl:Sl H σ ρ0) (ow:Bs H0 σ ρ0)
theorem Ay{X:Cx}{J:It}{tn:Nat->Heap->Prop}{it a:Addr}{fp:List Addr}{tg iter elt:Expr}{ifs:List Expr}{scope:Scope}{pos:Pos}{b:Qa->aV->Option aV}{t:aV->R Bool}{f:Fe}{ds:List Qa}{r:R (List Qa)}{Gd:Hp->Prop}{H0:Hp}{ρ0:aV}
  {Rk:Result->Shared->Prop} (T:uo X.prog X.w X.K tg J fp it tn) (calm:X.calm=true) (hfp:∀H:Hp,(∀b∈fp,H b=none)->∀b∈fp,pJ X [] H b) (hxe:∀e s',X.xe e s'->notedBy (model X.prog X.w) X.A X.env (λx s'=>Rk (.error x) s') e s') (hX:∀c,r=.ex c->Xw X c H0) (hno:r≠.no) (hg:wZ X tg b) (ht:Ag X ifs t) (hf:dA X elt f)
  (idt:Bq J Gd ds) (sta:Kb H0 (λ_=>False) Gd) (hsz:ds.length<=sizeLine) (ha0:H0 a=none) (hb0:∀d ρ1,b d ρ0=some ρ1->pI ρ0 ρ1)
  (fin:∀xs s' σ' H' vs,r=.ok xs->aT X [] σ' H' s'->aN H0 H'->H' a=some (.lst vs)->bI H' xs vs->Rk (.ok .next) s') :
  ∀{s:Shared} {σ:St} {H:Hp},aT X [] σ H s->tn 0 s.heap->(∀b∈fp,H b=none)->aN H0 H->H a=some (.lst [])->bJ b t f ρ0 ds=r->Sl H σ ρ0->Bs H0 σ ρ0 ->
   codeAny (model X.prog X.w) X.A (.compLoop (.ListComp elt [⟨tg,iter,ifs,0⟩] scope pos) 0 (.ref it) (.ref a) X.env) Rk s:=by
 intro s σ H I st fr s0 hla hc sl ow;refine codeAny_loop rfl (LG X tn fp a b t f ds r H0 ρ0) (λn s hI=>?_) ds.length ⟨0,[],σ,H,[],by simp,Nat.zero_le _,Nat.le_refl _,I,st,fr,s0,hla,bI.nil,by rw[List.drop_zero,hc];cases r<;>rfl,sl,ow⟩;clear I st fr s0 hla hc sl ow;obtain⟨i,acc,σ,H,vs,rfl,hi,hal,I,st,fr,s0,hla,ra,hc,sl,ow⟩:=hI;show wpAny _ X.A ((compTurn (.ListComp elt [⟨tg,iter,ifs,0⟩] scope pos) 0 (.ref it) (.ref a) X.env).onRaise (λx=>do noteFrame x X.env;theTreesLotGoes x)) _ _ s;refine wpAny_noted ?_;rw[compTurn_list];have gd:Gd H:=sta H (Kp.of s0) λ_ _ z=>z.elim
 have noex:∀{α:Type} {m:Sem α} {Q Q':α->Shared->Prop} {s:Shared},wpAny (model X.prog X.w) X.A m Q X.xe s->(∀v s,Q v s->Q' v s)->wpAny (model X.prog X.w) X.A m Q' (notedBy (model X.prog X.w) X.A X.env (λx s'=>Rk (.error x) s')) s:=λh k=>
  wpAny_mono h k hxe
 by_cases hlt:i<ds.length
 ·obtain⟨d,hd⟩:∃d,ds[i]?=some d:=⟨ds[i],List.getElem?_eq_getElem hlt⟩
  have hdrop:ds.drop i=d::ds.drop (i+1):=by
   rw[List.drop_eq_getElem_cons hlt];congr 1;exact Option.some.inj ((List.getElem?_eq_getElem hlt).symm.trans hd)
  rw[hdrop]at hc;unfold bJ at hc;refine Qb (wpAny_standAt (Qb (eR (T.item X rfl rfl rfl calm i [] s σ H _ I (hfp H fr) st (idt.go i H gd hlt)) λr s1 zq0=>?_)));obtain⟨u,hr,h1⟩:=zq0;subst hr;refine Qb (eR h1 λ_ s2 zq0=>?_);obtain⟨x,H2,I2,r2,y2,st2,fr2⟩:=zq0;obtain⟨s02,p2⟩:=idt.yld i H x H2 d gd hd y2;have I2':=I2.pinned (hfp H2 fr2) (T.obj _ _ st2);have back:∀{σ':St} {H':Hp} {s':Shared},aT X ([]++rB fp s2.heap) σ' H' s'->aT X [] σ' H' s'/\tn (i+1) s'.heap/\∀b∈fp,H' b=none:=λ{σ' H' s'} J'=>
   ⟨J'.unpinned,T.keep _ _ _ st2 λb hb o e=>(J'.pin (b,o) (List.mem_append_right _ (List.mem_append_right _ (kb hb e)))).1,λb hb=>by
    obtain⟨o,e,_⟩:=T.obj _ _ st2 b hb;exact(J'.pin (b,o) (List.mem_append_right _ (List.mem_append_right _ (kb hb e)))).2.1⟩
  cases eb:b d ρ0 with
  |none=>rw[eb]at hc;exact absurd hc.symm hno
  |some ρ1=>
   rw[eb]at hc;dsimp only at hc;have hfit:=hb0 d ρ1 eb;refine Qb (noex (hg _ s2 σ H2 x u (λσ' H'=>H'=H2/\Sl H2 σ' ρ1/\∀(i:Nat) (e:Qa),ρ1[i]?=some (.own e)->ρ0[i]?=some (.own e)/\σ'[i]?=σ[i]?) I2' r2 ⟨ρ0,d,sl.mono s02,p2,by rw[eb];exact λσ' sl' w'=>⟨rfl,sl',w'⟩⟩) λ_ s3 ⟨σ3,H3,I3,e3,sl3,w3⟩=>?_);subst e3;have ow3:Bs H0 σ3 ρ0:=λj e h=>by
    obtain⟨v,z1,z2⟩:=ow j e h;rcases hfit.2 j _ h with z|z
    ·cases z
    ·exact⟨v,by rw[(w3 j e z).2];exact z1,z2⟩
   cases et:t ρ1 with
   |no=>rw[et]at hc;exact absurd hc.symm hno
   |ex c=>
    rw[et]at hc;exact Qb (noex (ht _ s3 σ3 H3 (λ_ _=>False) I3 ⟨ρ1,sl3,by rw[et];exact(hX c hc.symm).mono (s0.trans s02)⟩) λok s4 ⟨H4,I4,z⟩=>z.elim)
   |ok k=>
    rw[et]at hc;refine Qb (noex (ht _ s3 σ3 H3 (λb' H'=>b'=k/\aN H3 H') I3 ⟨ρ1,sl3,by rw[et];exact λH' s'=>⟨rfl,s'⟩⟩) λok s4 ⟨H4,I4,e4,s34⟩=>?_);subst e4;have s04:=(s0.trans s02).trans s34;have hla4:H4 a=some (.lst vs):=s34 _ _ (s02 _ _ hla);have ra4:bI H4 acc vs:=(ra.mono s02).mono s34;cases ok with
    |false=>
     obtain⟨J1,J2,J3⟩:=back I4;have hc':(bJ b t f ρ0 (ds.drop (i+1))>>=λge=>.ok (acc++ge))=r:=hc;exact Qg ⟨rfl,ds.length-(i+1),by omega,i+1,acc,σ3,H4,vs,rfl,hlt,by omega,J1,J2,J3,s04,hla4,ra4,hc',(sl3.unfit hfit).mono s34,ow3⟩
    |true=>
     have hc':((f ρ1>>=λx=>bJ b t f ρ0 (ds.drop (i+1))>>=λxs=>.ok (x::xs))>>=λge=>.ok (acc++ge))=r:=hc;cases ef:f ρ1 with
     |no=>rw[ef]at hc';exact absurd hc'.symm hno
     |ex c=>
      rw[ef]at hc';exact Qb (Qb (noex (hf _ s4 σ3 H4 (λ_ _=>False) I4 ⟨ρ1,sl3.mono s34,by rw[ef];exact(hX c hc'.symm).mono s04⟩) λyv s5 ⟨v5,H5,I5,r5,z⟩=>z.elim))
     |ok y=>
       rw[ef,R.ok_bind]at hc';have hc2:(bJ b t f ρ0 (ds.drop (i+1))>>=λge=>.ok ((acc++[y])++ge))=r:=by
        rw[<-hc'];cases bJ b t f ρ0 (ds.drop (i+1))with
        |ok ge=>simp only[R.ok_bind,List.append_assoc,List.singleton_append]
        |ex c=>rfl
        |no=>rfl
       refine Qb (Qb (noex (hf _ s4 σ3 H4 (λv H'=>aN H4 H'/\Rp H' y v) I4 ⟨ρ1,sl3.mono s34,by rw[ef];exact λv H' s' p'=>⟨s',p'⟩⟩) λyv s5 ⟨v5,H5,I5,r5,s45,p5⟩=>?_));have hla5:H5 a=some (.lst vs):=s45 _ _ hla4;have hlen:vs.length<sizeLine:=by
        rw[ra.length];omega
       refine Qb (noex (tq _ s5 σ3 H5 (.ref a) [v5] (.ref a) [yv] (λ_ H'=>H'=dj H5 a (.lst (vs++[v5]))) I5 rfl (.cons r5 .nil) ⟨a,vs,v5,rfl,rfl,hla5,hlen,rfl⟩) λ_ s6 zq0=>?_);obtain⟨v6,H6,I6,r6,e6⟩:=zq0;subst e6;obtain⟨J1,J2,J3⟩:=back I6;have kp:Kp H5 (dj H5 a (.lst (vs++[v5]))):=gA hla5 (.inl ⟨_,rfl⟩);have s06:aN H0 (dj H5 a (.lst (vs++[v5]))):=λb o e=>by
        rw[aD (bo e ha0)];exact(s04.trans s45) b o e
       refine Qg (Qg ⟨rfl,ds.length-(i+1),by omega,i+1,acc++[y],σ3,_,vs++[v5],rfl,hlt,by rw[List.length_append,List.length_singleton];omega,J1,J2,J3,s06,bh,?_,hc2,?_,ow3⟩)
       ·exact bI.append (bI.kp kp _ _ (ra4.mono s45)) (bI.cons (Rp.kp kp _ _ p5) bI.nil)
       ·have sl5:Sl H5 σ3 ρ0:=((sl3.unfit hfit).mono s34).mono s45;refine⟨sl5.1,λj c o h1 h2=>?_⟩;cases c with
        |exc p=>exact sl5.2 j _ o h1 h2
        |non=>exact True.intro
        |val d'=>
         obtain⟨v',z1,z2⟩:=sl5.2 j _ o h1 h2;exact⟨v',z1,Rp.kp kp _ _ z2⟩
        |own e'=>
         obtain⟨v',z1,z2⟩:=ow3 j e' h1;rw[z1]at h2;cases h2;exact⟨v',rfl,z2.mono s06⟩
 ·have e:i=ds.length:=by omega
  subst e;rw[List.drop_length]at hc;have hr':r=.ok acc:=by rw[<-hc];simp only[bJ,R.ok_bind,List.append_nil]
  refine Qb (wpAny_standAt (Qb (eR (T.done X rfl rfl rfl calm _ [] s σ H _ I (hfp H fr) st (idt.stop _ H gd (Nat.le_refl _))) λr s1 zq0=>?_)));obtain⟨hr,I1⟩:=zq0;subst hr;exact Qg (fin acc s1 σ H vs hr' I1 s0 hla ra)
theorem iZ.but{P:Program}{w:World}{H:Hp}{h1 h2:Heap}{C:Addr}(ok:iZ P w H h1)(hC:H C=none)(sb:∀b o,b≠C->h1.get? b=some o->h2.get? b=some o):iZ P w H h2:=λa o e=>
 (ok a o e).stay (λb u hb q=>sb b u (by
  rcases hb with rfl|hb
  ·exact bo e hC
  ·exact bo hb hC) q) (λ_ q=>q) λ_ _ q=>q
theorem lW{h h' base:Heap}{C:Addr}(tp:∀b o,b≠C->h.get? b=some o->h'.get? b=some o):∀{l:List Env},C∉mO l->h.FunFrames base l->h'.FunFrames base l
 | [],_,_=>trivial
 |env::l,hC,⟨hk,⟨L,o,hf,hn,ho,hd⟩,hr⟩=>⟨hk,⟨L,o,hf,hn,tp L o (λz=>hC (List.mem_filterMap.mpr ⟨env,List.mem_cons_self,by rw[hf,z]⟩)) ho,hd⟩,lW tp (λz=>hC (by
  obtain⟨e,he,hz⟩:=List.mem_filterMap.mp z;exact List.mem_filterMap.mpr ⟨e,Qf _ he,hz⟩)) hr⟩
theorem nz{X:Cx}{tg iter elt:Expr}{ifs:List Expr}{sc:Scope}{pos pos':Pos}{it:aV->R (List Qa)}{b:Qa->aV->Option aV}{t:aV->R Bool}{f:Fe}{N:List Str}{own:Nat}{G G0:List Str}{fr:List Nat}{nl:Nat}
  (T:Tb X nl G0) (ck:gT sc N own G X.N fr) (hout:∀y∈sc.names,y.2=.free->X.env.kindOf y.1=some .cell\/X.env.kindOf y.1=some .free) (hi:vm X tg iter it)
  (hb0:∀ρ d ρ1,b d (aB own fr ρ)=some ρ1->pI (aB own fr ρ) ρ1)
  (hbody:∀cl C s H fp E,Tb (bE X N sc cl C s H fp E) own G->wZ (bE X N sc cl C s H fp E) tg b/\Ag (bE X N sc cl C s H fp E) ifs t/\dA (bE X N sc cl C s H fp E) elt f)
  (hs:∀x,foldedSetIterable iter X.env x=pure x) {use:Option (Value->Sem Unit)} {Qc:Value->Shared->Prop} {pins:List (Addr×Obj)} {s:Shared} {σ:St} {H:Hp} (I:aT X pins σ H s) {ρ:aV} {ds:List Qa} {r:R (List Qa)} (sl:Sl H σ ρ) (ei:it ρ=.ok ds)
  (hsz:ds.length<=sizeLine) (ec:bJ b t f (aB own fr ρ) ds=r) (hX:∀c,r=.ex c->Xw X c H) (hno:r≠.no) (hstk:∃env0 outer0 L,X.stack=env0::outer0/\env0.frame=some L/\X.env.frame=some L)
  (fin:∀(xs:List Qa) (a C:Addr) (H':Hp) (s':Shared) (m:Str->Option Value) (vs:List V),r=.ok xs->aT X pins σ H' s'->pJ X pins H' C->s'.heap.Ns C m->aN H H'->H a=none->H' a=some (.lst vs)->bI H' xs vs->compPost (model X.prog X.w) X.A X.xe use Qc (.ref a) C (.ok .next) s') :
  wpAny (model X.prog X.w) X.A (comprehension (.ListComp elt [⟨tg,iter,ifs,0⟩] sc pos) sc X.env pos' (newList []) false (eval iter X.env) use) Qc X.xe s:=by
 obtain⟨cl,hcl,hcl1,hcl2⟩:=xt (scope:=sc) (env:=X.env) λx hx hf=>I.ok.has _ (hout x hx hf)
 have ck':=ck;obtain⟨ck1,ck2,ck3,_,_,_,_,_,_,ofr⟩:=ck';have hin:∀i∈fr,i<ρ.length:=λi hi=>by
  have e1:ρ.length=X.N.length:=by rw[<-sl.1];exact I.len
  rw[e1];obtain⟨k,hk⟩:=List.getElem?_of_mem hi;have q:=congrArg (λl=>l[k]?) ofr;simp only[List.getElem?_map,hk,Option.map_some]at q;cases z:(N.drop own)[k]? with
  |none=>rw[z]at q;cases q
  |some y=>
   rw[z]at q;have q':some y=X.N[i]?:=Option.some.inj q;exact(List.getElem?_eq_some_iff.mp q'.symm).1
 refine wpAny_comprehension_free (use:=use) rfl hs hcl ck1 ck3 ?_;refine eR (hi pins s σ H (λJ H1=>aN H H1/\∃Gd,Bq J Gd ds/\Kb H1 (λ_=>False) Gd) I ⟨ρ,sl,by rw[ei];exact λJ H1 s1 z=>⟨s1,z⟩⟩) λxv s1 h1=>eR h1 λitv s2 h2=>?_
 obtain⟨itA,fp,tn,J,H2,e,I2,T2,st2,f2,s02,Gd,idt,sta⟩:=h2;subst e;refine wpAny_newObj_type (wpAny_newFunctionEnv ck2 (by intro y hy;simp at hy) (λh₁ hns₁ hsb₁=>?_) ck1);dsimp only at hns₁ hsb₁ ⊢;generalize hHp:s2.heap.push { cls:=.type "list",dict:=none,data:=.seq ([]:List Value).toArray }=Hp2 at hns₁ hsb₁ ⊢;have hC:Hp2.objs.size=s2.heap.objs.size+1:=by rw[<-hHp,Heap.size_push]
 have hDC:s2.heap.objs.size≠Hp2.objs.size:=by rw[hC];exact Nat.ne_of_lt (Nat.lt_succ_self _)
 have hCle:s2.heap.objs.size<=Hp2.objs.size:=by rw[hC];exact Nat.le_succ _
 have below:∀b,b<s2.heap.objs.size->b≠Hp2.objs.size:=λb hb=>by rw[hC];exact Nat.ne_of_lt (Nat.lt_succ_of_lt hb)
 have old:∀b o,s2.heap.get? b=some o->h₁.get? b=some o:=λb o e=>hsb₁.extBut b o (below b (Heap.lt_size e)) (Qe _ (hHp▸Qe _ e))
 have hacc:h₁.get? s2.heap.objs.size=some { cls:=.type "list",dict:=none,data:=.seq ([]:List Value).toArray }:=hsb₁.extBut _ _ hDC (Qe _ (hHp▸Heap.get?_push_size _ rfl));have hob:∀b∈fp,b<s2.heap.objs.size:=λb hb=>by
  obtain⟨o,e,_⟩:=T2.obj _ _ st2 b hb;exact Heap.lt_size e
 have sl2:Sl H2 σ ρ:=sl.mono s02;have IC:aT (bE X N sc cl Hp2.objs.size s2 H2 fp) [] (jb own fr σ) (dj H2 s2.heap.objs.size (.lst [])) { s2 with heap:=h₁,toks:=s2.toks+([]:List (Str×Value)).length }:=
  Cb I2 ck f2 hob hcl1 hcl2 (λx hx=>(T.vis x hx).1) hout (Nat.le_refl _) hCle hDC old hacc hns₁
 let E:Value->Shared->Prop:=λe s'=>∃c Ce pins' σ' H' s1 H1,r=.ex c/\X.mg c=some (.ref Ce)/\aT (bE X N sc cl Hp2.objs.size s2 H2 fp) pins' σ' H' s1/\aN H2 H1/\t9 X.prog X.w X.stack H' s1 Ce H1 e s'
 obtain⟨hg,ht,hf⟩:=hbody cl Hp2.objs.size s2 H2 fp E (BR T ck cl Hp2.objs.size s2 H2 fp E);have ha0:H2 s2.heap.objs.size=none:=I2.hok.fresh (Nat.le_refl _);have hfp:∀H':Hp,(∀b∈fp,H' b=none)->∀b∈fp,pJ (bE X N sc cl Hp2.objs.size s2 H2 fp E) [] H' b:=λH' hn b hb=>
  ⟨hn b hb,below b (hob b hb),λz=>by
   rcases List.mem_cons.mp (I2.stkSub b z)with y|y
   ·exact(f2 b hb).2.1 y
   ·exact(f2 b hb).2.2.1 y,.inl hb,λx c e=>(f2 b hb).2.2.2.2.1 x c (hcl1 x c e),λp hp=>absurd (show p∈([]:List (Addr×Obj))from hp) (by simp)⟩
 have st3:tn 0 h₁:=T2.keep _ _ _ st2 λb _ o e=>old b o e
 have slC:Sl H2 (jb own fr σ) (aB own fr ρ):=Ej sl2 own fr hin;have fin':∀xs s' σ' H' vs,r=.ok xs->aT (bE X N sc cl Hp2.objs.size s2 H2 fp E) [] σ' H' s'->aN H2 H'->H' s2.heap.objs.size=some (.lst vs)->bI H' xs vs ->
   compPost (model X.prog X.w) X.A X.xe use Qc (.ref s2.heap.objs.size) Hp2.objs.size (.ok .next) s':=λxs s' σ' H' vs hr J' s2' hv rv=>by
  obtain⟨m,hn,_⟩:=J'.loc;exact fin xs _ _ H' s' m vs hr (I2.call' (s':=s') (ch:=fp) J'.os J'.base J'.hok J'.bare (λb hb=>⟨(f2 b hb).2.2.2.1,(f2 b hb).2.1,(f2 b hb).2.2.2.2.1,(f2 b hb).2.2.2.2.2⟩)) (I2.fpOk hCle J'.free) hn (s02.trans s2') (s02.free ha0) hv rv
 have hXc:∀c,r=.ex c->Xw (bE X N sc cl Hp2.objs.size s2 H2 fp E) c H2:=λc hr H1 s1 Ce hm pins' σ' H' s1' e s' J f=>
  ⟨c,Ce,pins',σ',H',s1',H1,hr,hm,J.unwish,s1,f⟩
 have hxe:∀e s',E e s'->notedBy (model X.prog X.w) X.A (compEnvC sc cl Hp2.objs.size X.env) (λx s'=>compPost (model X.prog X.w) X.A X.xe use Qc (.ref s2.heap.objs.size) Hp2.objs.size (.error x) s') e s':=λe s' hE=>by
  obtain⟨c,Ce,pins',σ',H',s1,H1,hr,hm,J,same1,f⟩:=hE;obtain⟨env0,outer0,L,k1,k2,k3⟩:=hstk;refine f.note k1 I.ok.frames k2 k3 λh4 f4 up=>?_
  obtain⟨m,hn,_⟩:=(f4.inv (X:=bE X N sc cl Hp2.objs.size s2 H2 fp) J).loc;refine⟨m,hn,λh5 sb cenv _=>?_⟩;have fC:=I2.fpOk hCle J.free;have fC1:H1 Hp2.objs.size=none:=(f4.inv (X:=bE X N sc cl Hp2.objs.size s2 H2 fp) J).free;have nfr:Hp2.objs.size∉mO X.stack:=λz=>by
   rcases List.mem_cons.mp (I2.stkSub _ z)with y|y
   ·exact fC.2.1 y
   ·exact fC.2.2.1 y
  have Io:=I2.call' (s':=s1) (ch:=fp) J.os J.base J.hok J.bare (λb hb=>⟨(f2 b hb).2.2.2.1,(f2 b hb).2.1,(f2 b hb).2.2.2.2.1,(f2 b hb).2.2.2.2.2⟩);have Io2:aT X pins σ H' { s1 with heap:=PySem.W.hideAll s1.heap [Hp2.objs.size],toks:=s1.toks }:=by
   obtain⟨g0,g1,g2,g3,g4,g5⟩:=fC;exact Io.turned (t':=s1.toks) (λb o hb q=>PySem.W.hideAll_get _ q (by simpa using hb)) g0 g1 g3 g4 g5
  obtain⟨p,a0,B,rfl,t,okB,hp,cov⟩:=f4.ex;have stB:(PySem.W.hideAll B [Hp2.objs.size]).StaysIn B:=λb o q=>PySem.W.of_hideAll _ q
  have hid:∀{h:Heap} {b:Addr} {o:Obj},(PySem.W.hideAll h [Hp2.objs.size]).get? b=some o->b≠Hp2.objs.size:=λ{h b o} q z=>by
   rw[PySem.W.hideAll_none _ (by rw[z];exact List.mem_singleton.mpr rfl)]at q;cases q
  have tp:∀b o,b≠Hp2.objs.size->h4.get? b=some o->h5.get? b=some o:=λb o hb q=>(sb.2 b hb).trans q
  have ne_e:p≠Hp2.objs.size:=λz=>by
   obtain⟨oe,vs,q1,_,q2,_⟩:=t.first;obtain⟨o,es,ep,q3,q4,_⟩:=hn;have q3':h4.get? Hp2.objs.size=some o:=q3;rw[<-z,q1]at q3';cases q3';rw[q2]at q4;cases q4
  have f5:t9 X.prog X.w X.stack H' { s1 with heap:=PySem.W.hideAll s1.heap [Hp2.objs.size],toks:=s1.toks } Ce H1 (.ref p) { s' with heap:=h5 }:=by
   refine⟨f4.os,f4.bare,f4.same,⟨p,a0,PySem.W.hideAll B [Hp2.objs.size],rfl,?_,?_,hp,λb o q n hb=>?_⟩,λb o q n hb=>?_⟩
   ·obtain⟨t1,t2,t3,fl,oe,vs,T',oT,ts,a1,a2,a3,a4,a5,a6,a7,a8,a9⟩:=t;refine⟨λb o q=>tp b o (hid q) (t1 b o (stB b o q)),PySem.W.fresh_of_stays stB t2,lW tp nfr (PySem.W.funFrames_base stB t3),fl,oe,vs,T',oT,ts,tp _ _ ne_e a1,a2,a3,a4,PySem.W.fresh_of_stays stB a5,a6,tp _ _ ?_ a7,a8,a9⟩;intro z;obtain⟨o,es,ep,q3,q4,_⟩:=hn;have q3':h4.get? Hp2.objs.size=some o:=q3;have a7':h4.get? T'=some oT:=a7;rw[<-z,a7']at q3';cases q3';rw[a8]at q4;cases q4
   ·exact iZ.but okB fC1 λb o hb q=>PySem.W.hideAll_get _ q (by simpa using hb)
   ·obtain⟨z1,z2⟩:=cov b o (PySem.W.of_hideAll _ q) n hb;exact⟨PySem.W.hideAll_get _ z1 (by simpa using hid q),z2⟩
   ·obtain⟨⟨sl',z1⟩,z2⟩:=f4.slot b o (PySem.W.of_hideAll _ q) n hb;exact⟨⟨sl',tp b _ (hid q) z1⟩,z2⟩
  refine f5.pass λh6 f6=>?_
  exact hX c hr H1 (s02.trans same1) Ce hm pins σ H' _ _ _ Io2 f6
 have loop:=Ay (X:=bE X N sc cl Hp2.objs.size s2 H2 fp E) (iter:=iter) (scope:=sc) (pos:=pos) T2 T.calm hfp hxe hXc hno hg ht hf idt sta hsz ha0 (λd ρ1 e=>hb0 ρ d ρ1 e) fin' (IC.wish E) st3 (λb hb=>by
   show dj H2 s2.heap.objs.size (.lst []) b=none;rw[aD (Nat.ne_of_lt (hob b hb))];exact(f2 b hb).1) (cQ ha0 _) bh ec (slC.mono (cQ ha0 _)) (λi e h=>by
   obtain⟨o,z1,v,rfl,z2⟩:=slC.at h;exact⟨v,z1,z2⟩)
 exact codeAny_compStart_list loop (T2.self _ 0 _ _ _ st3 loop)
theorem vX{X:Cx}{tg iter elt:Expr}{ifs:List Expr}{sc:Scope}{pos:Pos}{it:aV->R (List Qa)}{b:Qa->aV->Option aV}{t:aV->R Bool}{f:Fe}{N:List Str}{own:Nat}{G G0:List Str}{fr:List Nat}{nl:Nat}
  (T:Tb X nl G0) (ck:gT sc N own G X.N fr) (hout:∀y∈sc.names,y.2=.free->X.env.kindOf y.1=some .cell\/X.env.kindOf y.1=some .free) (hi:vm X tg iter it)
  (hb0:∀ρ d ρ1,b d (aB own fr ρ)=some ρ1->pI (aB own fr ρ) ρ1)
  (hbody:∀cl C s H fp E,Tb (bE X N sc cl C s H fp E) own G->wZ (bE X N sc cl C s H fp E) tg b/\Ag (bE X N sc cl C s H fp E) ifs t/\dA (bE X N sc cl C s H fp E) elt f)
  (hs:∀x,foldedSetIterable iter X.env x=pure x:=by intro _;rfl) (hstk:∃env0 outer0 L,X.stack=env0::outer0/\env0.frame=some L/\X.env.frame=some L:=by exact⟨_,_,_,rfl,rfl,rfl⟩):mS X (.ListComp elt [⟨tg,iter,ifs,0⟩] sc pos) (bD it own fr b t f):=by
 intro pins s σ H Q I h;obtain⟨ρ,sl,q⟩:=h;unfold bD at q;rw[eval_ListComp];cases ei:it ρ with
 |ex c=>rw[ei]at q;exact q.elim
 |no=>rw[ei]at q;exact q.elim
 |ok ds=>
  rw[ei]at q;simp only[jG,R.ok_bind]at q;split at q
  ·rename_i hsz;cases ec:bJ b t f (aB own fr ρ) ds with
   |no=>rw[ec]at q;exact q.elim
   |ex c=>
    rw[ec]at q;exact nz (use:=none) T ck hout hi hb0 hbody hs I sl ei hsz ec (λc' hr=>by cases hr;exact q) (λz=>nomatch z) hstk λxs a C H' s' m vs hr=>by cases hr
   |ok xs=>
    rw[ec]at q;refine nz (use:=none) T ck hout hi hb0 hbody hs I sl ei hsz ec (λc' hr=>by cases hr) (λz=>nomatch z) hstk λxs' a C H' s' m vs hr I' fC hn s2' ha hv rv=>?_
    cases hr;obtain⟨f0,f1,f2,f3,f4,f5⟩:=fC;refine⟨m,hn,λh' sb=>⟨.ref a,H',I'.turned (t':=s'.toks) (λb o hb e=>sb.extBut b o hb e) f0 f1 f3 f4 f5,rfl,?_⟩⟩;refine q _ H' s2' ⟨?_,_,rfl,ha⟩;simp only[iB];exact⟨_,vs,rfl,hv,rv⟩
  ·exact q.elim
theorem Gv{X:Cx}{tg iter elt:Expr}{ifs:List Expr}{sc:Scope}{pos:Pos}{it:aV->R (List Qa)}{b:Qa->aV->Option aV}{t:aV->R Bool}{f:Fe}{N:List Str}{own:Nat}{G G0:List Str}{fr:List Nat}{nl:Nat}(T:Tb X nl G0)(ck:gT sc N own G X.N fr)(hout:∀y∈sc.names,y.2=.free->X.env.kindOf y.1=some .cell\/X.env.kindOf y.1=some .free)(hi:Z.vm X tg iter it)(hb0:∀ρ d ρ1,b d (aB own fr ρ)=some ρ1->pI (aB own fr ρ) ρ1)(hbody:∀cl C s H fp E,Tb (bE X N sc cl C s H fp E) own G->Z.wZ (bE X N sc cl C s H fp E) tg b/\Z.Ag (bE X N sc cl C s H fp E) ifs t/\Z.dA (bE X N sc cl C s H fp E) elt f)(hs:∀x,foldedSetIterable iter X.env x=pure x:=by intro _;rfl)(hstk:∃env0 outer0 L,X.stack=env0::outer0/\env0.frame=some L/\X.env.frame=some L:=by exact⟨_,_,_,rfl,rfl,rfl⟩):Z.mS X (.ListComp elt [⟨tg,iter,ifs,0⟩] sc pos) (bD it own fr b t f):=
 ⟨D2.vX T ck hout hi.un hb0 (λcl C s H fp E T=>let ⟨q1,q2,q3⟩:=hbody cl C s H fp E T;⟨q1.un,q2.un,q3.un⟩) hs hstk⟩
theorem Ex{X:Cx}{tg iter elt:Expr}{ifs:List Expr}{sc:Scope}{pos py spos:Pos}{it:aV->R (List Qa)}{b:Qa->aV->Option aV}{t:aV->R Bool}{f:Fe}{N:List Str}{own:Nat}{G G0:List Str}{fr:List Nat}{nl:Nat}{y:Str}{i:Nat}
  (T:Tb X nl G0) (ck:gT sc N own G X.N fr) (hout:∀y∈sc.names,y.2=.free->X.env.kindOf y.1=some .cell\/X.env.kindOf y.1=some .free) (hi:vm X tg iter it)
  (hb0:∀ρ d ρ1,b d (aB own fr ρ)=some ρ1->pI (aB own fr ρ) ρ1)
  (hbody:∀cl C s H fp E,Tb (bE X N sc cl C s H fp E) own G->wZ (bE X N sc cl C s H fp E) tg b/\Ag (bE X N sc cl C s H fp E) ifs t/\dA (bE X N sc cl C s H fp E) elt f)
  (hN:(X.N.take nl)[i]?=some y) (hsw:swapsWith (.ListComp elt [⟨tg,iter,ifs,0⟩] sc pos) (some (.Name y py)) spos.line X.env=pure true)
  (hs:∀x,foldedSetIterable iter X.env x=pure x:=by intro _;rfl) (hstk:∃env0 outer0 L,X.stack=env0::outer0/\env0.frame=some L/\X.env.frame=some L:=by exact⟨_,_,_,rfl,rfl,rfl⟩):kG X (.Assign [.Name y py] (.ListComp elt [⟨tg,iter,ifs,0⟩] sc pos) spos) (gP i (bD it own fr b t f)):=λFm=>by
 intro pins s σ H D I h;obtain⟨ρ,sl,q⟩:=h;unfold gP bD at q;obtain⟨hNi,hl,hf⟩:=T.nm hN;cases ei:it ρ with
 |ex c=>rw[ei]at q;exact q.elim
 |no=>rw[ei]at q;exact q.elim
 |ok ds=>
  rw[ei]at q;simp only[jG,R.ok_bind]at q;by_cases hsz:ds.length<=sizeLine
  ·rw[if_pos hsz]at q;cases ec:bJ b t f (aB own fr ρ) ds with
   |no=>rw[ec]at q;exact q.elim
   |ex c=>
    rw[ec]at q;rw[exec_Assign_Name_used _ _ _ _ hsw];refine Qb (wpAny_standAt (Qb ?_));show wpAny _ X.A (do let _ <-comprehension (.ListComp elt [⟨tg,iter,ifs,0⟩] sc pos) sc X.env _ (newList []) false (eval iter X.env) (some (assign (.Name y py) X.env))) _ _ s;exact Qb (eR (nz (use:=some (assign (.Name y py) X.env)) (Qc:=λ_ s'=>False) T ck hout hi hb0 hbody hs I sl.sl ei hsz ec (λc' hr=>by cases hr;exact q.1.mono sl.fm) (λz=>nomatch z) hstk λxs a C H' s' m vs hr=>by cases hr) λ_ s' hq=>hq.elim)
   |ok xs=>
    rw[ec]at q;rw[exec_Assign_Name_used _ _ _ _ hsw];refine Qb (wpAny_standAt (Qb ?_));show wpAny _ X.A (do let _ <-comprehension (.ListComp elt [⟨tg,iter,ifs,0⟩] sc pos) sc X.env _ (newList []) false (eval iter X.env) (some (assign (.Name y py) X.env))) _ _ s;refine Qb (eR (nz (use:=some (assign (.Name y py) X.env)) (Qc:=λ_ s'=>SP X pins D .next s') T ck hout hi hb0 hbody hs I sl.sl ei hsz ec (λc' hr=>by cases hr) (λz=>nomatch z) hstk λxs' a C H' s' m vs hr I' fC hn s2' ha hv rv=>?_) λ_ s' hq=>Qg (Qg hq));cases hr;obtain⟨f0,f1,f2,f3,f4,f5⟩:=fC;show wpAny _ X.A (assign (.Name y py) X.env (.ref a)) _ _ _;refine wpAny_assign_Name (tJ I' T.nd hNi hl (v:=.ref a) rfl (λs'' I'' k=>?_) hf);have sls:iN Fm H' (σ.set i (some (.ref a))) (ρ.set i (.own (.list xs))):=iN.setOwn sl (sl.mono s2') s2' i ⟨by simp only[iB];exact⟨a,vs,rfl,hv,rv⟩,a,rfl,ha⟩;refine⟨m,?_,λh' sb=>⟨_,H',I''.turned (t':=s''.toks) (λb o hb e=>sb.extBut b o hb e) f0 f1 f3 f4 f5,q _ H' sls⟩⟩;obtain⟨a',sb',ha'⟩:=k;refine hn.sameBut sb' ?_;rcases ha' with rfl|ha'
    ·exact f1
    ·exact Ne.symm (f4 y a' ha')
  ·rw[if_neg hsz]at q;exact q.elim
theorem iN.freeze{Fm H:Hp}{σ:St}{ρ:aV}{i:Nat}{d:Qa}{a:Addr}{u:HO}{o:Obj}(h:iN Fm H σ ρ)(h1:ρ[i]?=some (.own d))(h2:σ[i]?=some (some (.ref a)))(hu:H a=some u)(kp:Kp H (dj H a (.frz o u)))
  (hr:Rp (dj H a (.frz o u)) d (.ref a)):iN Fm (dj H a (.frz o u)) σ (ρ.set i (.val d)):=by
 have hFa:=h.own i d a h1 h2;refine⟨λb x e=>?_,⟨by rw[List.length_set];exact h.sl.1,λj c w' e1 e2=>?_⟩,λj e b e1 e2=>?_,λj k e f b e1 e2 e3 e4=>?_⟩
 ·rw[aD (bo e hFa)];exact h.fm b x e
 ·rw[List.getElem?_set]at e1;by_cases hij:i=j
  ·subst hij;rw[if_pos rfl]at e1;split at e1
   ·cases e1;rw[h2]at e2;cases e2;exact⟨_,rfl,hr⟩
   ·cases e1
  ·rw[if_neg hij]at e1;have q:=h.sl.2 j c w' e1 e2;cases c with
   |exc p=>exact q
   |non=>exact True.intro
   |val d'=>obtain⟨v,z1,z2⟩:=q;exact⟨v,z1,Rp.kp kp _ _ z2⟩
   |own d'=>
    obtain⟨v,z1,z2⟩:=q;subst z1;obtain⟨b,ob,rfl,hb⟩:=uS z2;have nb:b≠a:=λz=>hij (by subst z;exact h.apart i j d d' b h1 e1 h2 e2)
    refine⟨_,rfl,?_⟩;cases d'<;>simp only[iB]at z2 ⊢
    ·obtain⟨b',vs,e,hb',r⟩:=z2;cases e;exact⟨b,vs,rfl,by rw[aD nb];exact hb',bI.kp kp _ _ r⟩
    ·rcases z2 with⟨b',vs,e,hb',r⟩| ⟨b',vs,e,hb',r⟩
     ·cases e;exact .inl ⟨b,vs,rfl,by rw[aD nb];exact hb',fL.kp kp _ _ r⟩
     ·cases e;exact .inr ⟨b,vs,rfl,by rw[aD nb];exact hb',pW.kp kp _ _ r⟩
 ·obtain⟨ne,e1⟩:=eK (λe z=>by cases z) e1;exact h.own j e b e1 e2
 ·obtain⟨ne,e1⟩:=eK (λe z=>by cases z) e1;obtain⟨ne',e2⟩:=eK (λe z=>by cases z) e2;exact h.apart j k e f b e1 e2 e3 e4
theorem FR{X:Cx}{pins:List (Addr×Obj)}{s:Shared}{Fm H:Hp}{σ:St}{ρ:aV}{i:Nat}{d:Qa}(I:aT X pins σ H s)(h:iN Fm H σ ρ)(h1:ρ[i]?=some (.own d)) :
  ∃H' v,aT X pins σ H' s/\iN Fm H' σ (ρ.set i (.val d))/\σ[i]?=some (some v)/\Rp H' d v:=by
 obtain⟨w',h2,v,rfl,q⟩:=h.sl.at h1;cases d<;>simp only[iB]at q
 ·rename_i ds;obtain⟨a,vs,rfl,ha,r⟩:=q;obtain⟨o,J⟩:=iL I ha (.inl ⟨_,rfl⟩);have hr:Rp (dj H a (.frz o (.lst vs))) (.list ds) (.ref a):=by
   simp only[Rp];exact⟨a,o,vs,rfl,bh,bI.kp (gA ha (.inl ⟨_,rfl⟩)) _ _ r⟩
  exact⟨_,_,J,h.freeze h1 h2 ha (gA ha (.inl ⟨_,rfl⟩)) hr,h2,hr⟩
 ·rename_i ds;rcases q with⟨a,vs,rfl,ha,r⟩| ⟨a,vs,rfl,ha,r⟩
  ·obtain⟨o,J⟩:=iL I ha (.inr ⟨_,rfl⟩);have hr:Rp (dj H a (.frz o (.dK vs))) (.dict ds) (.ref a):=by
    simp only[Rp];exact .inl ⟨a,o,vs,rfl,bh,fL.kp (gA ha (.inr ⟨_,rfl⟩)) _ _ r⟩
   exact⟨_,_,J,h.freeze h1 h2 ha (gA ha (.inr ⟨_,rfl⟩)) hr,h2,hr⟩
  ·obtain⟨o,J⟩:=k9 I ha;have hr:Rp (dj H a (.frz o (.dT vs))) (.dict ds) (.ref a):=by
    simp only[Rp];exact .inr (.inr ⟨a,o,vs,rfl,bh,pW.kp (lG ha) _ _ r⟩)
   exact⟨_,_,J,h.freeze h1 h2 ha (lG ha) hr,h2,hr⟩
theorem kG.fz{X:Cx}{st:Stmt}{i:Nat}{f:Fe}(h:kG X st (gP i f))(hi:i<X.N.length):kG X st (bZ i f):=λFm=>by
 intro pins s σ H D I ⟨ρ,sl,q⟩;unfold bZ at q;cases ef:f ρ with
 |ex c=>rw[ef]at q;exact h Fm pins s σ H D I ⟨ρ,sl,by unfold gP;rw[ef];exact q⟩
 |no=>rw[ef]at q;exact q.elim
 |ok d=>
  rw[ef]at q;have hr:F5 X Fm (gP i f) { nx:=λσ' H'=>iN Fm H' σ' (ρ.set i (.own d)),rt:=λ_ _=>False } σ H:=⟨ρ,sl,by unfold gP;rw[ef];exact λσ' H' s'=>s'⟩
  refine eR (h Fm pins s σ H _ I hr) λfl s' z=>?_
  cases fl with
  |next=>
   obtain⟨σ',H',I',sls⟩:=z;have hi':i<ρ.length:=by rw[<-sl.sl.1,I.len];exact hi
   obtain⟨H2,v,I2,sl2,_,_⟩:=FR I' sls (i:=i) (d:=d) (by rw[List.getElem?_set,if_pos rfl,if_pos hi']);rw[List.set_set]at sl2;exact⟨σ',H2,I2,q σ' H2 sl2⟩
  |brk=>obtain⟨_,_,_,z⟩:=z;exact z.elim
  |cont=>obtain⟨_,_,_,z⟩:=z;exact z.elim
  |ret u=>obtain⟨_,_,_,_,_,z⟩:=z;exact z.elim
theorem gx{X:Cx}{st:Stmt}{i:Nat}{f:Fe}(h:Z.kG X st (gP i f))(hi:i<X.N.length):Z.kG X st (bZ i f):=
 ⟨D2.kG.fz h.un hi⟩
theorem AD{X:Cx}{tg iter elt:Expr}{ifs:List Expr}{sc:Scope}{pos:Pos}{it:aV->R (List Qa)}{b:Qa->aV->Option aV}{t:aV->R Bool}{f:Fe}{N:List Str}{own:Nat}{G G0:List Str}{fr:List Nat}{nl:Nat}
  (T:Tb X nl G0) {oN:List Str} {on:List (Str×NameKind)} (hoN:X.N=oN) (hon:X.env.scope.names=on)
  (ck:gT sc N own G oN fr/\∀y∈sc.names,y.2=.free->on.lookup y.1=some .cell\/on.lookup y.1=some .free) (hi:vm X tg iter it)
  (hb0:∀ρ d ρ1,b d (aB own fr ρ)=some ρ1->pI (aB own fr ρ) ρ1)
  (hbody:∀cl C s H fp E,Tb (bE X N sc cl C s H fp E) own G->wZ (bE X N sc cl C s H fp E) tg b/\Ag (bE X N sc cl C s H fp E) ifs t/\dA (bE X N sc cl C s H fp E) elt f)
  (hs:∀x,foldedSetIterable iter X.env x=pure x:=by intro _;rfl) (hstk:∃env0 outer0 L,X.stack=env0::outer0/\env0.frame=some L/\X.env.frame=some L:=by exact⟨_,_,_,rfl,rfl,rfl⟩):mS X (.ListComp elt [⟨tg,iter,ifs,0⟩] sc pos) (bD it own fr b t f):=
 vX T (by rw[hoN];exact ck.1) (λy hy hf=>by unfold Env.kindOf;rw[hon];exact ck.2 y hy hf) hi hb0 hbody hs hstk
theorem bd{X:Cx}{tg iter elt:Expr}{ifs:List Expr}{sc:Scope}{pos:Pos}{it:aV->R (List Qa)}{b:Qa->aV->Option aV}{t:aV->R Bool}{f:Fe}{N:List Str}{own:Nat}{G G0:List Str}{fr:List Nat}{nl:Nat}(T:Tb X nl G0){oN:List Str}{on:List (Str×NameKind)}(hoN:X.N=oN)(hon:X.env.scope.names=on)(ck:gT sc N own G oN fr/\∀y∈sc.names,y.2=.free->on.lookup y.1=some .cell\/on.lookup y.1=some .free)(hi:Z.vm X tg iter it)(hb0:∀ρ d ρ1,b d (aB own fr ρ)=some ρ1->pI (aB own fr ρ) ρ1)(hbody:∀cl C s H fp E,Tb (bE X N sc cl C s H fp E) own G->Z.wZ (bE X N sc cl C s H fp E) tg b/\Z.Ag (bE X N sc cl C s H fp E) ifs t/\Z.dA (bE X N sc cl C s H fp E) elt f)(hs:∀x,foldedSetIterable iter X.env x=pure x:=by intro _;rfl)(hstk:∃env0 outer0 L,X.stack=env0::outer0/\env0.frame=some L/\X.env.frame=some L:=by exact⟨_,_,_,rfl,rfl,rfl⟩):Z.mS X (.ListComp elt [⟨tg,iter,ifs,0⟩] sc pos) (bD it own fr b t f):=
 ⟨D2.AD T hoN hon ck hi.un hb0 (λcl C s H fp E T=>let ⟨q1,q2,q3⟩:=hbody cl C s H fp E T;⟨q1.un,q2.un,q3.un⟩) hs hstk⟩
theorem Ey{X:Cx}{tg iter elt:Expr}{ifs:List Expr}{sc:Scope}{pos py spos:Pos}{it:aV->R (List Qa)}{b:Qa->aV->Option aV}{t:aV->R Bool}{f:Fe}{N:List Str}{own:Nat}{G G0:List Str}{fr:List Nat}{nl:Nat}{y:Str}(i:Nat)
  (hN:(X.N.take nl)[i]?=some y) (T:Tb X nl G0) {oN:List Str} {on:List (Str×NameKind)} (hoN:X.N=oN) (hon:X.env.scope.names=on)
  (ck:gT sc N own G oN fr/\∀y∈sc.names,y.2=.free->on.lookup y.1=some .cell\/on.lookup y.1=some .free) (hi:vm X tg iter it)
  (hb0:∀ρ d ρ1,b d (aB own fr ρ)=some ρ1->pI (aB own fr ρ) ρ1)
  (hbody:∀cl C s H fp E,Tb (bE X N sc cl C s H fp E) own G->wZ (bE X N sc cl C s H fp E) tg b/\Ag (bE X N sc cl C s H fp E) ifs t/\dA (bE X N sc cl C s H fp E) elt f)
  (hsw:swapsWith (.ListComp elt [⟨tg,iter,ifs,0⟩] sc pos) (some (.Name y py)) spos.line X.env=pure true:=by rfl)
  (hs:∀x,foldedSetIterable iter X.env x=pure x:=by intro _;rfl) (hstk:∃env0 outer0 L,X.stack=env0::outer0/\env0.frame=some L/\X.env.frame=some L:=by exact⟨_,_,_,rfl,rfl,rfl⟩):kG X (.Assign [.Name y py] (.ListComp elt [⟨tg,iter,ifs,0⟩] sc pos) spos) (gP i (bD it own fr b t f)):=
 Ex T (by rw[hoN];exact ck.1) (λy hy hf=>by unfold Env.kindOf;rw[hon];exact ck.2 y hy hf) hi hb0 hbody hN hsw hs hstk
theorem eU{X:Cx}{tg iter elt:Expr}{ifs:List Expr}{sc:Scope}{pos py spos:Pos}{it:aV->R (List Qa)}{b:Qa->aV->Option aV}{t:aV->R Bool}{f:Fe}{N:List Str}{own:Nat}{G G0:List Str}{fr:List Nat}{nl:Nat}{y:Str}(i:Nat)(hN:(X.N.take nl)[i]?=some y)(T:Tb X nl G0){oN:List Str}{on:List (Str×NameKind)}(hoN:X.N=oN)(hon:X.env.scope.names=on)(ck:gT sc N own G oN fr/\∀y∈sc.names,y.2=.free->on.lookup y.1=some .cell\/on.lookup y.1=some .free)(hi:Z.vm X tg iter it)(hb0:∀ρ d ρ1,b d (aB own fr ρ)=some ρ1->pI (aB own fr ρ) ρ1)(hbody:∀cl C s H fp E,Tb (bE X N sc cl C s H fp E) own G->Z.wZ (bE X N sc cl C s H fp E) tg b/\Z.Ag (bE X N sc cl C s H fp E) ifs t/\Z.dA (bE X N sc cl C s H fp E) elt f)(hsw:swapsWith (.ListComp elt [⟨tg,iter,ifs,0⟩] sc pos) (some (.Name y py)) spos.line X.env=pure true:=by rfl)(hs:∀x,foldedSetIterable iter X.env x=pure x:=by intro _;rfl)(hstk:∃env0 outer0 L,X.stack=env0::outer0/\env0.frame=some L/\X.env.frame=some L:=by exact⟨_,_,_,rfl,rfl,rfl⟩):Z.kG X (.Assign [.Name y py] (.ListComp elt [⟨tg,iter,ifs,0⟩] sc pos) spos) (gP i (bD it own fr b t f)):=
 ⟨D2.Ey i hN T hoN hon ck hi.un hb0 (λcl C s H fp E T=>let ⟨q1,q2,q3⟩:=hbody cl C s H fp E T;⟨q1.un,q2.un,q3.un⟩) hsw hs hstk⟩
theorem bi{own:Nat}{fr:List Nat}{i:Nat}(h:i<own):∀ρ d ρ1,aE i d (aB own fr ρ)=some ρ1->pI (aB own fr ρ) ρ1:=λρ d ρ1 e=>by
 have e':ρ1=(aB own fr ρ).set i (.val d):=(Option.some.inj e).symm;subst e';refine⟨by rw[List.length_set],λj c hj=>?_⟩;by_cases hij:i=j
 ·subst hij;left;unfold aB at hj;rw[List.getElem?_append_left (by simpa using h),List.getElem?_replicate,if_pos h]at hj;exact(Option.some.inj hj).symm
 ·right;rw[List.getElem?_set,if_neg hij];exact hj
def vk(sc:Scope)(N G:List Str):Prop:=
 N.Nodup/\(∀x∈N,(sc.names.lookup x=some .local\/sc.names.lookup x=some .cell)/\(x==("__debug__" : Str))=false/\(x==("__classdict__" : Str))=false)/\∀x∈G,sc.names.lookup x=some .globalImplicit/\(x==("__debug__" : Str))=false/\x≠("__name__" : Str)
instance {sc:Scope} {N G:List Str}:Decidable (vk sc N G):=by unfold vk;infer_instance
theorem xz{P:Program}{w:World}{K:PySem.W.Frag}{mg:Str->Option Value}{base:Heap}{N:List Str}{qual:Str}{sc:Scope}{f:Addr}{cdv:Value}{A:Around}{outer:List Env}{s:Shared}{H:Hp}{E:XK}{G:List Str}{k:Nat}
  (hr:fW k (A.deeper (envOfC qual sc s.heap.objs.size f cdv))) (ck:vk sc N G):Tb (gK (cX P w mg) P w K mg base N qual sc f cdv A outer s H E) N.length G:=by
 obtain⟨nd,l,g⟩:=ck;refine⟨hr.units,rfl,nd,λx hx=>⟨?_,(l x hx).2⟩,λx hx=>⟨?_,.inl rfl⟩,λx hx=>?_⟩
 ·rcases(l x hx).1 with q|q
  ·exact .inl q
  ·exact .inr (.inl q)
 ·exact(l x (List.mem_of_mem_take hx)).1
 ·exact g x hx
section
variable{X:Cx}{a b c:Expr}{fa fb fc:Fe}{pos:Pos}
def KI:Qa->R Qa
 |.int i=>.ok (.int (-i))
 | _=>.no
def qI(g g':Qa->Qa->R Qa)(fa fb fc:Fe):Fe:=λρ=>fa ρ>>=λx=>fb ρ>>=λy=>g x y>>=λd=>vL d>>=λk=>if k=true then fc ρ>>=λz=>g' y z else .ok (.bool false)
theorem BQ{r r':R2}{g g':Qa->Qa->R Qa}(hg:cY X iM r g)(hg':cY X iM r' g')(σ:St)(H:Hp)(Q:VK)(h:lH X iM (qI g g' fa fb fc) σ H Q) :
  Dw r r' (lH X Ai fa) (lH X Ai fb) (lH X Ai fc) σ H Q:=
 (fX (P:=Ai) (k:=λρ x=>fb ρ>>=λy=>g x y>>=λd=>vL d>>=λk=>if k=true then fc ρ>>=λz=>g' y z else .ok (.bool false)) (gJ (X:=X) iK Q) h).post λv H1 ⟨ρ1,d1,sl1,_,p1,q1⟩=>
  (fX (P:=Ai) (f:=fb) (k:=λρ y=>g d1 y>>=λd=>vL d>>=λk=>if k=true then fc ρ>>=λz=>g' y z else .ok (.bool false)) (gJ (X:=X) iK Q) ⟨ρ1,sl1,q1⟩).post λu H2 ⟨ρ2,d2,sl2,s2,p2,q2⟩=>by
   refine hg H2 v u d1 d2 _ (jn.mono p1 s2) p2 ?_;cases e:g d1 d2 with
   |ex c=>rw[e]at q2;exact q2
   |no=>rw[e]at q2;exact q2
   |ok d=>
    rw[e]at q2;intro w' H3 s3 p3;have q3:yg X iM (vL d>>=λk=>if k=true then fc ρ2>>=λz=>g' d2 z else .ok (.bool false)) H2 Q:=q2;cases d with
    |bool k=>
     have e3:w'=.bl k:=by simpa only[Rp]using p3
     refine⟨k,e3,?_⟩;cases k with
     |false=>exact q3 _ H3 s3 fR
     |true=>
      have q4:yg X iM (fc ρ2>>=λz=>g' d2 z) H2 Q:=q3;exact(fX (P:=Ai) (f:=fc) (k:=λ_ z=>g' d2 z) (gJ (X:=X) iK Q) ⟨ρ2,sl2.mono s3,(gJ (X:=X) iK Q).mono _ _ _ q4 s3⟩).post λz H4 ⟨_,d4,_,s4,p4,q5⟩=>hg' H4 u z d2 d4 Q (jn.mono p2 (s3.trans s4)) p4 q5
    |none=>exact q3.elim
    |int i=>exact q3.elim
    |str i=>exact q3.elim
    |list i=>exact q3.elim
    |tuple i=>exact q3.elim
    |dict i=>exact q3.elim
theorem qt{op op':CmpOp}{r r':R2}{g g':Qa->Qa->R Qa}(ho:kD X (compareOp op) r)(hg:cY X iM r g)(ho':kD X (compareOp op') r')(hg':cY X iM r' g')(ha:Z.ff X a fa)(hb:Z.ff X b fb)(hc:Z.ff X c fc)(hm:lastMarks [op,op'] [b,c]=false:=by with_unfolding_all rfl):Z.dA X (.Compare a [op,op'] [b,c] pos) (qI g g' fa fb fc):=⟨have ha:=ha.un;have hb:=hb.un;have hc:=hc.un;PE.imp (CJ ho ho' ha hb hc hm) (BQ hg hg')⟩
variable{es:List Expr}{fs:aV->R (List Qa)}
def gM(fs:aV->R (List Qa)):Fe:=λρ=>fs ρ>>=λds=>if ds.length<=sizeLine then .ok (.tuple ds)else .no
def kE(fs:aV->R (List Qa)):Fe:=λρ=>fs ρ>>=λds=>if ds.length<=sizeLine then .ok (.list ds)else .no
theorem du{x1}(h:Z.tZ X es fs):Z.dA X (.Tuple es x1 pos) (gM fs):=⟨have h:=h.un;PE.imp (Hu h) λσ H Q q=>(qx (I:=Rp) (f:=fs) (k:=λ_ ds=>if ds.length<=sizeLine then .ok (.tuple ds)else .no) (gJ (X:=X) iK Q) q).post λvs H1 ⟨_,ds,_,_,p,q1⟩=>by
  have p:=my.mp p;split at q1
  ·rename_i hz;exact⟨by rw[p.length];exact hz,λa ha=>q1 _ _ (cQ ha _) (fQ ha p)⟩
  ·exact q1.elim⟩
theorem eW(h:Z.tZ X es fs):Z.mS X (.List es pos) (kE fs):=⟨have h:=h.un;PE.imp (Hn h) λσ H Q q=>(qx (I:=Rp) (f:=fs) (k:=λ_ ds=>if ds.length<=sizeLine then .ok (.list ds)else .no) (gJ (X:=X) vT Q) q).post λvs H1 ⟨_,ds,_,_,p,q1⟩=>by
  have p:=my.mp p;split at q1
  ·rename_i hz;exact⟨by rw[p.length];exact hz,λa ha=>q1 _ _ (cQ ha _) (dL ha p)⟩
  ·exact q1.elim⟩
theorem vF  : Z.mS X (.Dict [] [] pos) (eC (.dict [])):=⟨PE.imp CK λσ H Q ⟨ρ,sl,q⟩ p hp=>q _ _ (cQ hp _) ⟨by simp only[iB];exact .inl ⟨p,[],rfl,bh,by simp only[fL]⟩,p,rfl,hp⟩⟩
def aX:Qa->Qa->R Qa
 |.list ds,.int i=>match atI ds i with
  |some d=>.ok d
  |none=>.no
 |.tuple ds,.int i=>match atI ds i with
  |some d=>.ok d
  |none=>.no
 |.str z,.int i=>if z.length<=sizeLine then match atI z.cps.toList i with
  |some c=>.ok (.str ⟨#[c]⟩)
  |none=>.no else .no
 |.dict kvs,k=>if il kvs=true then .no else match gQ k with
  |some _=>match o9 kvs k with
   |some d=>.ok d
   |none=>.no
  |none=>.no
 | _,_=>.no
theorem bI.atI{H:Hp}{ds:List Qa}{vs:List V}{i:Int}{d:Qa}(r:bI H ds vs)(e:L2.atI ds i=some d):∃v,L2.atI vs i=some v/\Rp H d v:=by
 unfold L2.atI at e ⊢;rw[r.length];cases h:zo ds.length i with
 |none=>rw[h]at e;cases e
 |some j=>
  rw[h]at e;obtain⟨v,e1,p⟩:=r.get (show ds[j]?=some d from e);exact⟨v,e1,p⟩
def Jp:R2:=λx y H Q=>∃a v,x=.ref a/\pC H a y (some v)/\Q v H
theorem EM(hu:X.A.units+1<cLine):D0 X Jp:=by
 intro value slice pins s σ H x y v u Q I rx ry h hs;obtain⟨a,z,rfl,g,q⟩:=h;cases rx;exact tail_any (vS I g) PySem.F.slot_dict_getitem.lookup (Az hu I g ry λw' s3 I3 rw'=>⟨z,H,I3,rw',q⟩) hs
theorem JH:cY X iM (λx y H Q=>Jq X.K x y H Q\/Js X.K x y H Q\/Jr x y H Q\/Jp x y H Q) aX:=λH x y dx dy Q hx hy q=>by
 unfold aX at q;split at q
 ·rename_i ds i;split at q
  ·rename_i d e;obtain⟨a,vs,rfl,hq,r⟩:=hR (K:=X.K) hx;obtain⟨v,e1,p⟩:=r.atI e;exact .inl ⟨a,vs,i,v,rfl,cP hy,hq,e1,q v H (aN.refl _) p⟩
  ·exact q.elim
 ·rename_i ds i;split at q
  ·rename_i d e;obtain⟨a,vs,rfl,hq,r⟩:=eX hx;obtain⟨v,e1,p⟩:=r.atI e;exact .inr (.inl ⟨a,vs,i,v,rfl,cP hy,jQ.of hq,e1,q v H (aN.refl _) p⟩)
  ·exact q.elim
 ·rename_i z i;split at q
  ·rename_i hz;split at q
   ·rename_i c e;exact .inr (.inr (.inl ⟨z,i,c,iP hx,cP hy,hz,e,q _ H (aN.refl _) Dh⟩))
   ·exact q.elim
  ·exact q.elim
 ·rename_i kvs k;split at q
  ·exact q.elim
  rename_i hi;split at q
  ·rename_i κ e;split at q
   ·rename_i d e1;obtain⟨a,ks,rfl,h,r⟩:=nq (Bool.not_eq_true _▸hi) hx;obtain⟨o,g,_,e2⟩:=yZ (κ:=κ) h r;rw[wj e]at e1;obtain⟨v,rfl,p⟩:=e2 d e1;rw[<-yR hy e]at g;exact .inr (.inr (.inr ⟨a,v,rfl,g,q v H (aN.refl _) p⟩))
   ·exact q.elim
  ·exact q.elim
 ·exact q.elim
theorem ax(hu:X.A.units+64<cLine)(ha:Z.ff X a fa)(hb:Z.ff X b fb)(hs:yF b):Z.dA X (.Subscript a b pos) (e2 aX fa fb):=⟨have ha:=ha.un;have hb:=hb.un;PE.imp (Jk (EN.or (GX.or (GW.or (EM (by omega))))) ha hb hs) (two iK JH)⟩
variable{nl:Nat}{G:List Str}{x:Str}{p:Pos}
def um(X:Cx)(P:Hp->Hp->Qa->V->Prop)(r:List V->Hp->VK->Prop)(g:List Qa->R Qa):Prop:=∀H xs ds Q,RA jn H ds xs->yg X P (g ds) H Q->r xs H Q
theorem BM{P:Hp->Hp->Qa->V->Prop}{r:List V->Hp->VK->Prop}{g:List Qa->R Qa}(hP:Dn P)(hg:um X P r g)(σ:St)(H:Hp)(Q:VK)(h:lH X P (λρ=>fs ρ>>=g) σ H Q):Lh r (Db X jn fs) σ H Q:=
 (qx (I:=jn) (k:=λ_=>g) (gJ (X:=X) hP Q) h).post λvs H1 ⟨_,ds,_,_,p1,q1⟩=>hg H1 vs ds Q p1 q1
def one(g:Qa->R Qa):List Qa->R Qa
 | [d]=>g d
 | _=>.no
def HZ(g:Qa->Qa->R Qa):List Qa->R Qa
 | [d,e]=>g d e
 | _=>.no
theorem Cz(g:Qa->R Qa)(fa:Fe):(λρ=>ai fa az ρ>>=one g)=e1 g fa:=by
 funext ρ;unfold ai az e1;cases fa ρ<;>rfl
theorem H8(g:Qa->Qa->R Qa)(fa fb:Fe):(λρ=>ai fa (ai fb az) ρ>>=HZ g)=e2 g fa fb:=by
 funext ρ;unfold ai az e2;cases fa ρ with
 |ok a=>cases fb ρ<;>rfl
 |ex c=>rfl
 |no=>rfl
theorem Du{P:Hp->Hp->Qa->V->Prop}{r:List V->Hp->VK->Prop}{g:Qa->R Qa}(h:∀H x d Q,jn H d x->yg X P (g d) H Q->r [x] H Q):um X P r (one g):=λH xs ds Q ra q=>by
 unfold one at q;split at q
 ·rename_i d;simp only[RA]at ra;obtain⟨v,r',e,p,e2⟩:=ra;subst e2;subst e;exact h H v d Q p q
 ·exact q.elim
theorem HS{P:Hp->Hp->Qa->V->Prop}{r:List V->Hp->VK->Prop}{g:Qa->Qa->R Qa}(h:∀H x y d e Q,jn H d x->jn H e y->yg X P (g d e) H Q->r [x,y] H Q):um X P r (HZ g):=λH xs ds Q ra q=>by
 unfold HZ at q;split at q
 ·rename_i d e;simp only[RA]at ra;obtain⟨v,r',e1,p,v',r'',e2,p',e3⟩:=ra;subst e3;subst e2;subst e1;exact h H v v' d e Q p p' q
 ·exact q.elim
section
variable{P:Hp->Hp->Qa->V->Prop}{r:List V->Hp->VK->Prop}{g:Qa->R Qa}{g2:Qa->Qa->R Qa}{id ty:String}
theorem GB(T:Tb X nl G)(j:Nat)(hG:G[j]?=some x)(hm:X.mg x=none)(hP:Dn P)(hv:bootBuiltins x=some (.builtin id))(hc:fI X (.builtin id) r)(hg:∀H x d Q,jn H d x->yg X P (g d) H Q->r [x] H Q)(ha:ff X a fa)
  (he:bn a=true:=by rfl):PE X (.Call (.Name x p) [a] [] pos) (lH X P (e1 g fa)):=by
 have q:=T.gl x (List.mem_of_getElem? hG);rw[<-Cz];exact PE.imp (nK hc q.1 hm hv (p0 ha xB he) q.2.2 q.2.1 (bC he)) (BM hP (Du hg))
theorem FI(T:Tb X nl G)(j:Nat)(hG:G[j]?=some x)(hm:X.mg x=none)(hP:Dn P)(hv:bootBuiltins x=some (.type ty))(hc:fI X (.type ty) r)(hg:∀H x d Q,jn H d x->yg X P (g d) H Q->r [x] H Q)(ha:ff X a fa)
  (he:bn a=true:=by rfl):PE X (.Call (.Name x p) [a] [] pos) (lH X P (e1 g fa)):=by
 have q:=T.gl x (List.mem_of_getElem? hG);rw[<-Cz];exact PE.imp (AV hc q.1 hm hv (p0 ha xB he) q.2.2 q.2.1 (bC he)) (BM hP (Du hg))
theorem Iw(T:Tb X nl G)(j:Nat)(hG:G[j]?=some x)(hm:X.mg x=none)(hP:Dn P)(hv:bootBuiltins x=some (.builtin id))(hc:fI X (.builtin id) r)(hg:∀H x y d e Q,jn H d x->jn H e y->yg X P (g2 d e) H Q->r [x,y] H Q)(ha:ff X a fa)(hb:ff X b fb)
  (he:bn a=true:=by rfl) (he2:bn b=true:=by rfl):PE X (.Call (.Name x p) [a,b] [] pos) (lH X P (e2 g2 fa fb)):=by
 have q:=T.gl x (List.mem_of_getElem? hG);rw[<-H8];exact PE.imp (nK hc q.1 hm hv (p0 ha (p0 hb xB he2) he) q.2.2 q.2.1 (bC he) (ls (by rw[List.all_cons,he2];rfl))) (BM hP (HS hg))
end
end
theorem oE:fillsNumberSlot (.type "tuple") "mul" = pure false:=
 PySem.fillsNumberSlot_seq (id := "tuple.__mul__") (r:=some (.builtin "tuple.__rmul__")) F.slot_tuple_mul.lookup (by decide +kernel) F.slot_tuple_rmul.lookup (by decide +kernel)
theorem uW:seqRepeat? (.type "tuple")=pure (some (.builtin "tuple.__mul__")):=by
 unfold seqRepeat?;rw[PySem.seqSlot_of (T := "tuple") (name := "__mul__") (id := "tuple.__mul__") F.slot_tuple_mul.lookup (by decide +kernel),PySem.seqSlot_of (T := "tuple") (name := "__rmul__") (id := "tuple.__rmul__") F.slot_tuple_rmul.lookup (by decide +kernel)];rfl
theorem qU(a:Int)(t:Tok)(l:Addr)(items:Array Value)(n:Nat)(dd:Option Addr)(sl:Array (Option Value)) :
  Meets (Builtin.«int.__rmul__» ⟨[.int a t,.ref l],[]⟩) (λ_ R s=>s.heap.get? l=some { cls:=.type "tuple",dict:=dd,data:=.seq items n,slots:=sl }/\R (.ok (.ret Value.notImplemented)) s):=
 .of_wp λprog w A R s h=>by obtain⟨hp,g,d,tk,os⟩:=s;obtain⟨hl,h⟩:=h;wp_walk;exact⟨_,rfl,h⟩
theorem yw(l:Addr)(items:Array Value)(n:Nat)(dd:Option Addr)(sl:Array (Option Value))(x:Int)(u:Tok)(h1:2<=x)(h2:x<2 ^ 63)(h0:¬items.isEmpty=true)(hc1:¬(items.size:Int)*x>(2 ^ 63-1) / 8)(hbig:Builtin.Tuple.tupleTooMany ((items.size:Int)*x)=false)(hsz:¬(List.foldl (λx1 x2=>x1++x2) #[] (Qi x.toNat items)).size>sizeLine) :
  Meets (Builtin.«tuple.__mul__» ⟨[.ref l,.int x u],[]⟩) (λ_ R s=>s.heap.get? l=some { cls:=.type "tuple",dict:=dd,data:=.seq items n,slots:=sl }/\R (.ok (.ret (Value.ref s.heap.objs.size))) { s with heap:=s.heap.push { cls:=Value.type "tuple",data:=Data.seq (List.foldl (λx1 x2=>x1++x2) #[] (Qi x.toNat items)) },toks:=s.toks }):=
 .of_wp λprog w A R s h=>by
  obtain⟨hp,g,d,tk,os⟩:=s;obtain⟨hl,h⟩:=h;have f1:=AutoSeq1.idx_int;have f2:=AutoSeq1.sub_tuple_tuple;have f3:=AutoSeq1.sub_list_list;have f4:=AutoSeq1.sub_tuple_list;have f5:=AutoSeq1.sub_list_tuple;have e0:(decide (x < -2 ^ 63)||decide (x>=2 ^ 63))=false:=by
   rw[decide_eq_false (by omega),decide_eq_false (by omega)];rfl
  have e1:(items.isEmpty||x==1)=false:=by
   have:(x==1)=false:=by simp;omega
   rw[this,Bool.or_false];exact Bool.eq_false_iff.mpr h0
  have e2:(decide (x<=0)||items.isEmpty)=false:=by
   rw[decide_eq_false (by omega),Bool.false_or];exact Bool.eq_false_iff.mpr h0
  have e3:decide ((items.size:Int)*x>(2 ^ 63-1) / 8)=false:=decide_eq_false hc1;have e4:Builtin.Tuple.tupleTooMany ((items.size:Int)*x)=false:=hbig
  wp_walk using wpAny_loadPart' hl
  refine wpAny_ite_false (decide_eq_false (by rw[e0];exact Bool.false_ne_true)) ?_
  wp_walk using wpAny_loadPart' hl
  refine wpAny_ite_false (decide_eq_false (by rw[e1];exact Bool.false_ne_true)) ?_
  wp_walk using wpAny_loadPart' hl
  refine wpAny_ite_false (decide_eq_false (by rw[e2];exact Bool.false_ne_true)) ?_
  wp_walk using wpAny_loadPart' hl
  refine wpAny_ite_false e3 ?_
  wp_walk using wpAny_loadPart' hl
  exact⟨_,rfl,h⟩
section
variable{X:Cx}{a b c:Expr}{fa fb fc:Fe}{pos:Pos}{nl:Nat}{G:List Str}{x:Str}{p:Pos}
def F4(K:PySem.W.Frag):R2:=λx y H Q=>∃l k xs,x=.ref l/\y=.int k/\jQ K H l xs/\xs≠[]/\2<=k/\k<2 ^ 63/\xs.length*k.toNat<=sizeLine/\∀p,H p=none->Q (.ref p) (dj H p (.tup (Qi k.toNat xs).flatten))
theorem E5:kD X (binaryOp .Mult) (F4 X.K):=by
 intro pins s σ H x y v u Q I rx ry h;obtain⟨l,k,xs,rfl,rfl,hH,hne,h1,h2,hz,q⟩:=h;cases rx;obtain⟨t,rfl⟩:=ry;obtain⟨its,r,pl,hz0⟩:=I.tuple hH;obtain⟨⟨cls,dd,data,sl⟩,e,hc,n,hd⟩:=id pl;simp only at hc hd;subst hc hd;have hl:=r.length;have hnew:List.foldl (λx1 x2=>x1++x2) #[] (Qi k.toNat its.toArray)=(Qi k.toNat its).flatten.toArray:=by
  have:=ox its k.toNat [];rw[List.nil_append]at this;exact this
 have hlen:(Qi k.toNat its).flatten.length<=sizeLine:=by rw[uO,<-hl,Nat.mul_comm];exact hz
 have hprod:(its.length:Int)*k<=(sizeLine:Int):=by
  have h3:((its.length*k.toNat:Nat):Int)<=(sizeLine:Int):=by rw[<-hl];exact Int.ofNat_le.mpr hz
  have h4:((k.toNat:Nat):Int)=k:=Int.toNat_of_nonneg (by omega);rw[Int.natCast_mul,h4]at h3;exact h3
 have hcap:¬(its.toArray.size:Int)*k>(2 ^ 63-1) / 8:=by
  rw[List.size_toArray];have hs:sizeLine=16777216:=sizeLine_eq;omega
 have hbig:Builtin.Tuple.tupleTooMany ((its.toArray.size:Int)*k)=false:=by
  unfold Builtin.Tuple.tupleTooMany;rw[List.size_toArray];exact decide_eq_false (by omega)
 refine wpAny_binaryOp_repeat_ref (T := "tuple") (U := "int") (by decide) ⟨_,e,rfl⟩ (λs'=>typeIs_int s' k t) oE F.fills_int_mul F.slot_int_rmul uW F.slot_int_index.lookup
  (call_meets F.slot_int_rmul (typeIs_int s k t) F.entry_int_rmul (F.args_int_rmul_2 _ _) (qU k t l its.toArray n dd sl)
   ⟨e,rfl,⟨_,e,rfl⟩,call_meets F.slot_tuple_mul ⟨_,e,rfl⟩ F.entry_tuple_mul (F.args_tuple_mul_2 _ _) (yw l its.toArray n dd sl k t h1 h2 (by
    intro z;apply hne;have:its=[]:=by simpa using z
    rw[this]at hl;exact List.length_eq_zero_iff.mp hl) hcap hbig (by rw[hnew,List.size_toArray];omega)) ⟨e,?_⟩⟩)
 rw[hnew];refine⟨.ref s.heap.objs.size,_,I.laid (t':=s.toks) (o:=.tup (Qi k.toNat xs).flatten) (λb ob q=>Qe _ q) (Nat.le_refl _) ?_,rfl,q _ (I.hok.fresh (Nat.le_refl _))⟩;exact⟨by rw[uO,Nat.mul_comm];exact hz,_,r.rep k.toNat,iF.new _ _⟩
def eY:Qa->Qa->R Qa
 |.int i,.int j=>if(-(2 ^ 64)<i/\i<2 ^ 64)\/(-(2 ^ 64)<j/\j<2 ^ 64)then .ok (.int (i*j))else .no
 |.tuple xs,.int k=>if xs≠[]/\2<=k/\k<2 ^ 63/\xs.length*k.toNat<=sizeLine then .ok (.tuple (Qi k.toNat xs).flatten)else .no
 | _,_=>.no
theorem HQ:cY X iM (λx y H Q=>rI DU (λi j=>.int (i*j)) x y H Q\/F4 X.K x y H Q) eY:=λH x y dx dy Q hx hy q=>by
 cases dx with
 |int i=>
  cases dy with
  |int j=>
   simp only[eY]at q;split at q
   ·rename_i h;exact .inl ⟨_,_,cP hx,cP hy,h,q _ H (aN.refl _) fF⟩
   ·exact q.elim
  | _=>exact q.elim
 |tuple xs=>
  cases dy with
  |int k=>
   simp only[eY]at q;split at q
   ·rename_i h;obtain⟨a,vs,rfl,ha,r⟩:=eX hx;have hl:=r.length;refine .inr ⟨a,k,vs,rfl,cP hy,jQ.of ha,λz=>h.1 ?_,h.2.1,h.2.2.1,by rw[hl];exact h.2.2.2,λp hp=>q _ _ (cQ hp _) (fQ hp (r.rep _))⟩;rw[z]at hl;exact List.length_eq_zero_iff.mp hl.symm
   ·exact q.elim
  | _=>exact q.elim
 | _=>exact q.elim
theorem eF(ha:Z.ff X a fa)(hb:Z.ff X b fb):Z.dA X (.BinOp a .Mult b pos) (e2 eY fa fb):=⟨have ha:=ha.un;have hb:=hb.un;oq iK (He.or E5) HQ ha hb⟩
theorem E1:kD X (binaryOp .Add) (λx y H Q=>∃i j,x=.str i/\y=.str j/\i.length+j.length<=sizeLine/\Q (.str (i++j)) H):=by
 intro pins s σ H x y v u Q I rx ry h;obtain⟨i,j,rfl,rfl,hz,q⟩:=h;obtain⟨t,rfl⟩:=rx;obtain⟨t',rfl⟩:=ry;exact PyProof.Rows.add_str (λt' tk=>⟨.str (i++j),H,I.tok _,⟨_,rfl⟩,q⟩) hz
def CZ(K:PySem.W.Frag):R2:=λx y H Q=>∃a b ys,x=.ref a/\y=.ref b/\jQ K H a []/\jQ K H b ys/\Q (.ref b) H
theorem CA:kD X (binaryOp .Add) (CZ X.K):=by
 intro pins s σ H x y v u Q I rx ry h;obtain⟨a,b,ys,rfl,rfl,ha,hb,q⟩:=h;cases rx;cases ry;obtain⟨its,r1,p1,_⟩:=I.tuple ha;obtain⟨its2,r2,p2,_⟩:=I.tuple hb;cases r1;obtain⟨⟨cls,dd,data,sl⟩,ho,hc,n,hd⟩:=id p1;obtain⟨⟨cls2,dd2,data2,sl2⟩,ho2,hc2,n2,hd2⟩:=id p2;simp only at hc hd hc2 hd2;subst hc hd hc2 hd2;exact concat_meets ⟨_,ho,rfl⟩ ⟨_,ho2,rfl⟩ noFill_tuple_add seq_tuple_add PySem.F.slot_tuple_add PySem.F.entry_tuple_add (PySem.F.args_tuple_add_2 _ _)
  (tuple_addW0 a b _ its2.toArray n n2 dd dd2 sl sl2 (by rfl)) ⟨ho,ho2,⟨.ref b,H,I,rfl,q⟩⟩
def CY(K:PySem.W.Frag):R2:=λx y H Q=>∃l b xs zs,x=.ref l/\y=.ref b/\Rd H l (.lst xs)/\Rd H b (.lst zs)/\xs.length+zs.length<=sizeLine/\∀p,H p=none->Q (.ref p) (dj H p (.lst (xs++zs)))
theorem zE:kD X (binaryOp .Add) (CY X.K):=by
 intro pins s σ H x y v u Q I rx ry h;obtain⟨l,b,xs,zs,rfl,rfl,hH,hB,hz,q⟩:=h;cases rx;cases ry;obtain⟨z,its,n,r,e⟩:=hH.ok I.hok;obtain⟨z2,its2,n2,r2,e2⟩:=hB.ok I.hok;have hl:=r.length;have hl2:=r2.length;refine PySem.P.add_list e e2 ?_ (by rw[List.size_toArray,List.size_toArray];omega);have ea:its.toArray++its2.toArray=(its++its2).toArray:=by simp
 rw[ea];exact⟨.ref _,_,I.lnew (t':=s.toks) (r.append r2) (by rw[List.length_append];omega),rfl,q _ I.fresh⟩
def eG:Qa->Qa->R Qa
 |.int i,.int j=>.ok (.int (i+j))
 |.str x,.str y=>if x.length+y.length<=sizeLine then .ok (.str (x++y))else .no
 |.tuple xs,.tuple ys=>if xs.length+ys.length<=sizeLine then .ok (.tuple (xs++ys))else .no
 |.list xs,.list ys=>if xs.length+ys.length<=sizeLine then .ok (.list (xs++ys))else .no
 | _,_=>.no
theorem nr{H:Hp}{ds:List Qa}{x:V}(h:jn H (.list ds) x):∃a vs,x=.ref a/\Rd H a (.lst vs)/\bI H ds vs:=by
 rcases h with h|h
 ·simp only[Rp]at h;obtain⟨a,o,vs,e,ha,r⟩:=h;exact⟨a,vs,e,.inr ⟨o,ha⟩,r⟩
 ·simp only[iB]at h;obtain⟨a,vs,e,ha,r⟩:=h;exact⟨a,vs,e,.inl ha,r⟩
theorem HM:cY X J9 (λx y H Q=>DT (λi j=>.int (i+j)) x y H Q\/(∃i j,x=.str i/\y=.str j/\i.length+j.length<=sizeLine/\Q (.str (i++j)) H)\/F3 X.K x y H Q\/CZ X.K x y H Q\/CY X.K x y H Q) eG:=λH x y dx dy Q hx hy q=>by
 cases dx with
 |int i=>
  cases dy with
  |int j=>exact .inl ⟨_,_,cP hx,cP hy,q _ H (aN.refl _) (.inl fF)⟩
  | _=>exact q.elim
 |str i=>
  cases dy with
  |str j=>
   simp only[eG]at q;split at q
   ·rename_i h;exact .inr (.inl ⟨_,_,iP hx,iP hy,h,q _ H (aN.refl _) (.inl Dh)⟩)
   ·exact q.elim
  | _=>exact q.elim
 |tuple xs=>
  cases dy with
  |tuple ys=>
   simp only[eG]at q;split at q
   ·rename_i h;have hx':=hx;obtain⟨a,vs,rfl,ha,r⟩:=eX hx;obtain⟨b,us,rfl,hb,r2⟩:=eX hy;cases xs with
    |nil=>
     have:=r.nil_inv;subst this;refine .inr (.inr (.inr (.inl ⟨a,b,us,rfl,rfl,jQ.of ha,jQ.of hb,q _ H (aN.refl _) (.inl ?_)⟩)));simp only[Rp,List.nil_append];exact⟨b,us,rfl,hb,r2⟩
    |cons d ds=>
     refine .inr (.inr (.inl ⟨a,b,vs,us,rfl,rfl,jQ.of ha,jQ.of hb,λz=>?_,by rw[r.length,r2.length];exact h,λz=>?_,λ_ p hp=>q _ _ (cQ hp _) (.inl (fQ hp (r.append r2)))⟩))
     ·rw[z]at r;obtain⟨_,_,e,_⟩:=r.cons_inv;cases e
     ·have hy0:ys=[]:=by
       have:=r2.length;rw[z]at this;exact List.length_eq_zero_iff.mp this.symm
      refine q _ H (aN.refl _) (.inl ?_);rw[hy0,List.append_nil];simp only[Rp];exact⟨a,vs,rfl,ha,r⟩
   ·exact q.elim
  | _=>exact q.elim
 |list xs=>
  cases dy with
  |list ys=>
   simp only[eG]at q;split at q
   ·rename_i h;obtain⟨a,vs,rfl,ha,r⟩:=nr hx;obtain⟨b,us,rfl,hb,r2⟩:=nr hy;exact .inr (.inr (.inr (.inr ⟨a,b,vs,us,rfl,rfl,ha,hb,by rw[r.length,r2.length];exact h,λp hp=>q _ _ (cQ hp _) (.inr (dL hp (r.append r2)))⟩)))
   ·exact q.elim
  | _=>exact q.elim
 | _=>exact q.elim
theorem cu(ha:Z.ff X a fa)(hb:Z.ff X b fb):Z.dA X (.BinOp a .Add b pos) (e2 eG fa fb):=⟨have ha:=ha.un;have hb:=hb.un;DY.e (oq Es (Hb.or (E1.or (E2.or (CA.or zE)))) HM ha hb)⟩
end
section
variable{prog:Program}{w:World}{A:Around}{E:Value->Shared->Prop}{s:Shared}
theorem lS{t sl:Addr}{items:Array Value}{vl vu:Value}{lo hi:Option Int}{Q:Value->Shared->Prop}(ht:IsTup s.heap t items)(hs:s.heap.IsSliceOf sl vl vu .none)(pl:IsPart vl lo)(pu:IsPart vu hi)
  (hw:HT.sIx items.size 0 lo=0/\HT.sIx items.size items.size hi=items.size) (h:Q (.ref t) s):wpAny (model prog w) A (getItem (.ref t) (.ref sl)) Q E s:=by
 obtain⟨os,hos,hcs,hds⟩:=id hs;have hTs:s.TypeIs (.ref sl) "slice" := ⟨os,hos,hcs⟩
 unfold getItem
 try with_reducible refine wpAny_holding ?_
 first|refine Qb (Qg ?_)|skip
 refine Qb (wpAny_sequenceKey ht.typeIs (by decide) ?_);refine Qb (wpAny_callSpecial?_slot (name:=Str.ofString "__getitem__") ht.typeIs PyProof.Rows.slot_tuple_getitem
  (wpAny_call_entry PyProof.Rows.slot_tuple_getitem ht.typeIs entry_tuple_getitem ?_ (args_tuple_getitem _ _)))
 show wpAny _ _ (Builtin.Tuple.tupleItemsOf (.ref t)>>=_) _ _ s;refine Qb (tupleItemsOf_ ht ?_);refine Qb (wpAny_typeOf hTs ?_);rw[if_pos (by decide)];refine Qb (HT.sliceApplied_gen hs pl pu ?_);have hyes:(((HT.sIx items.size 0 lo:Nat):Int)==0&&(1:Int)==1&&(HT.sIx items.size items.size hi-HT.sIx items.size 0 lo)==items.size)=true:=by
  rw[hw.1,hw.2];simp
 show wpAny _ _ (if(((HT.sIx items.size 0 lo:Nat):Int)==0&&(1:Int)==1&&(HT.sIx items.size items.size hi-HT.sIx items.size 0 lo)==items.size)=true then _ else _) _ _ s;rw[if_pos hyes];refine Qb (m:=Builtin.Tuple.tupleIsExact _) ?_;unfold Builtin.Tuple.tupleIsExact;refine Qb (wpAny_typeOf ht.typeIs (Qg ?_));show wpAny _ _ (if(Value.type "tuple" == Value.type "tuple")=true then _ else _) _ _ s;rw[if_pos (by decide)];refine Qb (wpAny_rule ?_)
 first
  |exact Qg ⟨_,rfl,Qg h⟩
  |exact Qb (Qg (Qg ⟨_,rfl,Qg h⟩))
end
section
variable{X:Cx}{a b c:Expr}{fa fb fc:Fe}{pos p2:Pos}{nl:Nat}{G:List Str}{x:Str}{p:Pos}
def qD(xs:List Qa)(lo hi:Option Int):List Qa:=(xs.drop (HT.sIx xs.length 0 lo)).take (HT.sIx xs.length xs.length hi-HT.sIx xs.length 0 lo)
theorem bI.cut{H:Hp}{ds:List Qa}{vs:List V}(r:bI H ds vs)(lo hi:Option Int):bI H (qD ds lo hi) (vP vs lo hi):=by
 unfold qD vP;rw[r.length];exact(r.drop _).take _
def La(K:PySem.W.Frag):V->Option Int->Option Int->Hp->VK->Prop:=λx lo hi H Q=>∃a xs,x=.ref a/\jQ K H a xs/\(HT.sIx xs.length 0 lo=0/\HT.sIx xs.length xs.length hi=xs.length)/\Q (.ref a) H
theorem Dk:D6 X (La X.K):=by
 intro pins s σ H x v vl vu lo hi sl Q I rx hs pl pu h;obtain⟨a,xs,rfl,hx,hw,q⟩:=h;cases rx;obtain⟨its,r,ht,hz⟩:=I.tuple hx;have hlen:its.toArray.size=xs.length:=by rw[List.size_toArray];exact r.length.symm
 refine⟨"tuple",_,PyProof.Rows.slot_tuple_getitem.lookup,ht.typeIs,?_⟩;exact lS ht hs pl pu (by rw[hlen];exact hw) ⟨.ref a,H,I,rfl,q⟩
theorem HK:D6 X (λx lo hi H Q=>∃xx,x=.str xx/\xx.length<=sizeLine/\Q (.str (Txt.slice xx lo hi)) H):=by
 intro pins s σ H x v vl vu lo hi sl Q I rx hs pl pu h;obtain⟨xx,rfl,hz,q⟩:=h;obtain⟨t,rfl⟩:=rx;refine⟨"str",_,PySem.F.slot_str_getitem.lookup,typeIs_str _ _ _,?_⟩;have fin:∀t' k,EP X pins σ Q (.str (Txt.slice xx lo hi) t') { s with toks:=k }:=λt' k=>⟨.str _,H,I.tok k,⟨t',rfl⟩,q⟩
 cases pl with
 |none=>
  cases pu with
  |none=>exact wpAny_getItem_str_slice (l:=none) (u:=none) (st:=none) hs rfl (post_val_or_str ⟨Nat.le_trans (Txt.slice_le xx _ _) hz,fin⟩)
  |int j uj=>exact wpAny_getItem_str_slice (l:=none) (u:=some (j,uj)) (st:=none) hs rfl (post_val_or_str ⟨Nat.le_trans (Txt.slice_le xx _ _) hz,fin⟩)
 |int i ui=>
  cases pu with
  |none=>exact wpAny_getItem_str_slice (l:=some (i,ui)) (u:=none) (st:=none) hs rfl (post_val_or_str ⟨Nat.le_trans (Txt.slice_le xx _ _) hz,fin⟩)
  |int j uj=>exact wpAny_getItem_str_slice (l:=some (i,ui)) (u:=some (j,uj)) (st:=none) hs rfl (post_val_or_str ⟨Nat.le_trans (Txt.slice_le xx _ _) hz,fin⟩)
def DQ:Qa->Option Int->Option Int->R Qa
 |.str x,lo,hi=>if x.length<=sizeLine then .ok (.str (Txt.slice x lo hi))else .no
 |.tuple xs,lo,hi=>.ok (.tuple (qD xs lo hi))
 |.list xs,lo,hi=>.ok (.list (qD xs lo hi))
 | _,_,_=>.no
abbrev Fo:=aV->R (Option Int)
def Jd:Fo:=λ_=>.ok none
def Ke:Qa->R Int
 |.int i=>.ok i
 | _=>.no
def pk(f:Fe):Fo:=λρ=>f ρ>>=λd=>Ke d>>=λi=>.ok (some i)
def Dd(X:Cx)(f:Fo):TO:=λσ H Q=>∃ρ,Sl H σ ρ/\match f ρ with
 |.ok o=>∀H',aN H H'->Q o H'
 |.ex c=>Xw X c H
 |.no=>False
def Ig(X:Cx)(e:Option Expr)(f:Fo):Prop:=PO X e (Dd X f)
structure Z.Ig(X:Cx)(e:Option Expr)(f:Fo):Prop where
 un:D2.Ig X e f
theorem JU(Q:Option Int->Hp->Prop):D8 X (λ(r:R (Option Int)) H=>match r with|.ok b=>∀H',aN H H'->Q b H'|.ex c=>Xw X c H|.no=>False) where
 mono:=λr H H' h s=>by
  cases r with
  |ok d=>exact λH2 s2=>h H2 (s.trans s2)
  |ex c=>exact Xw.mono h s
  |no=>exact h
 ex:=λc H h=>h
 no:=λH h=>h
theorem sI{e:Expr}{f:Fe}(h:Z.dA X e f):Z.Ig X (some e) (pk f):=⟨have h:=h.un;λpins s σ H Q I q=>
 Ff h pins s σ H Q I ((fX (P:=iM) (f:=f) (k:=λ_ d=>Ke d>>=λi=>.ok (some i)) (JU (X:=X) Q) q).post λv H1 ⟨_,d,_,_,p,q1⟩=>by
  cases d with
  |int i=>
   have e1:v=.int i:=by simpa only[Rp]using p
   exact⟨i,e1,q1 H1 (aN.refl _)⟩
  | _=>exact q1.elim)⟩
def IL(f:Fe)(lo hi:Fo):Fe:=λρ=>f ρ>>=λd=>lo ρ>>=λl=>hi ρ>>=λu=>DQ d l u
theorem BJ{β:Type}{Tg:R β->Hp->Prop}{σ:St}{H:Hp}(t:D8 X Tg){f:Fo}{k:aV->Option Int->R β}(h:∃ρ,Sl H σ ρ/\Tg (f ρ>>=k ρ) H):Dd X f σ H (λo H1=>∃ρ,Sl H1 σ ρ/\aN H H1/\Tg (k ρ o) H1):=by
 obtain⟨ρ,sl,q⟩:=h;refine⟨ρ,sl,?_⟩;cases e:f ρ with
 |ok d=>rw[e]at q;exact λH1 s=>⟨ρ,sl.mono s,s,t.mono _ _ _ q s⟩
 |ex c=>rw[e]at q;exact t.ex _ _ q
 |no=>rw[e]at q;exact(t.no _ q).elim
theorem Dd.post{f:Fo}{σ:St}{H:Hp}{Q Q':Option Int->Hp->Prop}(h:Dd X f σ H Q)(i:∀b H',Q b H'->Q' b H'):Dd X f σ H Q':=by
 obtain⟨ρ,sl,q⟩:=h;refine⟨ρ,sl,?_⟩;cases e:f ρ with
 |ok d=>rw[e]at q;exact λH' s=>i _ _ (q H' s)
 |ex c=>rw[e]at q;exact q
 |no=>rw[e]at q;exact q
theorem xg{lo hi:Option Expr}{fl fh:Fo}(ha:Z.ff X a fa)(hl:Z.Ig X lo fl)(hu:Z.Ig X hi fh):Z.dA X (.Subscript a (.Slice lo hi none p2) pos) (IL fa fl fh):=⟨have ha:=ha.un;have hl:=hl.un;have hu:=hu.un;by
 refine DY.e (PE.imp (CN (Dk.or (HL.or (Fy.or HK))) ha hl hu) λσ H Q h=>?_);refine(fX (P:=Ai) (f:=fa) (k:=λρ d=>fl ρ>>=λl=>fh ρ>>=λu=>DQ d l u) (gJ (X:=X) Es Q) h).post λv H1 zq0=>?_
 obtain⟨ρ1,d1,sl1,_,p1,q1⟩:=zq0;refine(BJ (f:=fl) (k:=λρ l=>fh ρ>>=λu=>DQ d1 l u) (gJ (X:=X) Es Q) ⟨ρ1,sl1,q1⟩).post λl H2 zq0=>?_
 obtain⟨ρ2,sl2,s2,q2⟩:=zq0;refine(BJ (f:=fh) (k:=λρ u=>DQ d1 l u) (gJ (X:=X) Es Q) ⟨ρ2,sl2,q2⟩).post λu H3 zq0=>?_
 obtain⟨ρ3,sl3,s3,q3⟩:=zq0;have p3:jn H3 d1 v:=jn.mono (jn.mono p1 s2) s3;cases d1 with
 |tuple xs=>
  obtain⟨a',vs,rfl,ha',r⟩:=eX p3;have hlen:=r.length;by_cases hw:HT.sIx vs.length 0 l=0/\HT.sIx vs.length vs.length u=vs.length
  ·refine .inl ⟨a',vs,rfl,jQ.of ha',hw,q3 _ H3 (aN.refl _) (.inl ?_)⟩;have e:qD xs l u=xs:=by
    unfold qD;rw[<-hlen,hw.1,hw.2];simp[hlen]
   rw[e];simp only[Rp];exact⟨a',vs,rfl,ha',r⟩
  ·exact .inr (.inl ⟨a',vs,rfl,jQ.of ha',hw,λp hp=>q3 _ _ (cQ hp _) (.inl (fQ hp (r.cut l u)))⟩)
 |list xs=>
  obtain⟨a',vs,rfl,ha',r⟩:=hR (K:=X.K) p3;exact .inr (.inr (.inl ⟨a',vs,rfl,ha',λp hp=>q3 _ _ (cQ hp _) (.inr (dL hp (r.cut l u)))⟩))
 |str xx=>
  simp only[DQ]at q3;split at q3
  ·rename_i hz;exact .inr (.inr (.inr ⟨xx,iP p3,hz,q3 _ H3 (aN.refl _) (.inl (by simp only[Rp]))⟩))
  ·exact q3.elim
 | _=>exact q3.elim⟩
def KL:Qa->R Qa
 |.tuple xs=>.ok (.tuple xs.reverse)
 | _=>.no
end
section
variable{X:Cx}{a b c:Expr}{fa fb fc:Fe}{pos p2:Pos}{nl:Nat}{G:List Str}{x:Str}{p:Pos}
theorem At:fI X (.builtin "len") (λxs H Q=>∃a kvs,xs=[V.ref a]/\Rd H a (.dK kvs)/\Q (.int kvs.length) H):=by
 intro pins s σ H xs us Q I r h;obtain⟨a,kvs,rfl,ha,q⟩:=h;obtain⟨u,rfl,ru⟩:=iY r;cases ru;exact IE I ha λt s' I'=>⟨.int kvs.length,H,I',⟨t,rfl⟩,q⟩
theorem fL.length{H:Hp}:∀{kvs:List (Qa×Qa)} {ks:List (cI×V)},fL H kvs ks->ks.length=kvs.length
 | [],ks,h=>by simp only[fL]at h;rw[h];rfl
 |kd::kvs,ks,h=>by
  simp only[fL]at h;obtain⟨x,v,r,rfl,_,t⟩:=h;rw[List.length_cons,List.length_cons,fL.length t]
def ci:Qa->R Qa
 |.list ds=>.ok (.int ds.length)
 |.tuple ds=>.ok (.int ds.length)
 |.dict kvs=>if il kvs=true then .no else .ok (.int kvs.length)
 |.str y=>if y.length<=sizeLine then .ok (.int y.length)else .no
 | _=>.no
theorem bu(T:Tb X nl G)(j:Nat)(hG:G[j]?=some ("len" : Str))(hm:X.mg "len" = none)(ha:Z.ff X a fa)(he:bn a=true:=by rfl):Z.dA X (.Call (.Name "len" p) [a] [] pos) (e1 ci fa):=⟨have ha:=ha.un;by
 refine GB T j hG hm iK PySem.boot_len (uB.or (uC.or At)) (λH x d Q hx q=>?_) ha he;cases d with
 |list ds=>
  obtain⟨a',vs,rfl,h,r⟩:=hR (K:=X.K) hx;exact .inl ⟨a',vs,rfl,.inl h,by rw[r.length];exact q _ H (aN.refl _) fF⟩
 |tuple ds=>
  obtain⟨a',vs,rfl,h,r⟩:=eX hx;exact .inl ⟨a',vs,rfl,.inr (jQ.of h),by rw[r.length];exact q _ H (aN.refl _) fF⟩
 |dict kvs=>
  simp only[ci]at q;split at q
  ·exact q.elim
  rename_i hi;obtain⟨a',vs,rfl,h,r⟩:=nq (Bool.not_eq_true _▸hi) hx;exact .inr (.inr ⟨a',vs,rfl,h,by rw[r.length];exact q _ H (aN.refl _) fF⟩)
 |str y=>
  simp only[ci]at q;split at q
  ·rename_i hz;exact .inr (.inl ⟨y,by rw[iP hx],hz,q _ H (aN.refl _) fF⟩)
  ·exact q.elim
 | _=>exact q.elim⟩
def su:Qa->R Qa
 |.int i=>.ok (.int i)
 |.bool k=>.ok (.int (if k then 1 else 0))
 | _=>.no
theorem sK(T:Tb X nl G)(j:Nat)(hG:G[j]?=some ("int" : Str))(hm:X.mg "int" = none)(ha:Z.ff X a fa)(he:bn a=true:=by rfl):Z.dA X (.Call (.Name "int" p) [a] [] pos) (e1 su fa):=⟨have ha:=ha.un;by
 refine FI T j hG hm iK PyProof.Rows.boot_int As (λH x d Q hx q=>?_) ha he;cases d with
 |int i=>exact .inl ⟨i,by rw[cP hx],q _ H (aN.refl _) fF⟩
 |bool k=>exact .inr ⟨k,by rw[qB hx],q _ H (aN.refl _) fF⟩
 | _=>exact q.elim⟩
def LN:Qa->R Qa
 |.int i=>if i.natAbs.log2<1920 then .ok (.str (toString i))else .no
 | _=>.no
def GF:Qa->Qa->R Qa
 |.int i,.int j=>.ok (.int (if j<i then j else i))
 | _,_=>.no
def GE:Qa->Qa->R Qa
 |.int i,.int j=>.ok (.int (if j>i then j else i))
 | _,_=>.no
theorem BD(T:Tb X nl G)(j:Nat)(hG:G[j]?=some ("min" : Str))(hm:X.mg "min" = none)(ha:Z.ff X a fa)(hb:Z.ff X b fb)(he:bn a=true:=by rfl)(he2:bn b=true:=by rfl):Z.dA X (.Call (.Name "min" p) [a,b] [] pos) (e2 GF fa fb):=⟨have ha:=ha.un;have hb:=hb.un;by
 refine Iw T j hG hm iK PyProof.Rows.boot_min (Av T.calm) (λH x y d e Q hx hy q=>?_) ha hb he he2;cases d with
 |int i=>
  cases e with
  |int j=>exact⟨i,j,by rw[cP hx,cP hy],q _ H (aN.refl _) fF⟩
  | _=>exact q.elim
 | _=>exact q.elim⟩
theorem BC(T:Tb X nl G)(j:Nat)(hG:G[j]?=some ("max" : Str))(hm:X.mg "max" = none)(ha:Z.ff X a fa)(hb:Z.ff X b fb)(he:bn a=true:=by rfl)(he2:bn b=true:=by rfl):Z.dA X (.Call (.Name "max" p) [a,b] [] pos) (e2 GE fa fb):=⟨have ha:=ha.un;have hb:=hb.un;by
 refine Iw T j hG hm iK PyProof.Rows.boot_max (Au T.calm) (λH x y d e Q hx hy q=>?_) ha hb he he2;cases d with
 |int i=>
  cases e with
  |int j=>exact⟨i,j,by rw[cP hx,cP hy],q _ H (aN.refl _) fF⟩
  | _=>exact q.elim
 | _=>exact q.elim⟩
def cB:Qa->R Qa
 |.list ds=>.ok (.tuple ds)
 |.tuple ds=>.ok (.tuple ds)
 | _=>.no
theorem bw(T:Tb X nl G)(j:Nat)(hG:G[j]?=some ("tuple" : Str))(hm:X.mg "tuple" = none)(ha:Z.ff X a fa)(he:bn a=true:=by rfl):Z.dA X (.Call (.Name "tuple" p) [a] [] pos) (e1 cB fa):=⟨have ha:=ha.un;by
 refine FI T j hG hm iK PyProof.Rows.boot_tuple sk (λH x d Q hx q=>?_) ha he;cases d with
 |list ds=>
  obtain⟨a',vs,rfl,h,r⟩:=hR (K:=X.K) hx;exact⟨a',vs,rfl,.inl ⟨h,λl hl=>q _ _ (cQ hl _) (fQ hl r)⟩⟩
 |tuple ds=>
  obtain⟨a',vs,rfl,h,r⟩:=eX hx;exact⟨a',vs,rfl,.inr ⟨jQ.of h,q _ H (aN.refl _) (by simp only[Rp];exact⟨a',vs,rfl,h,r⟩)⟩⟩
 | _=>exact q.elim⟩
def nB:Qa->R Qa
 |.list ds=>.ok (.list ds)
 |.tuple ds=>.ok (.list ds)
 | _=>.no
theorem l9(T:Tb X nl G)(j:Nat)(hG:G[j]?=some ("list" : Str))(hm:X.mg "list" = none)(ha:Z.ff X a fa)(he:bn a=true:=by rfl):Z.mS X (.Call (.Name "list" p) [a] [] pos) (e1 nB fa):=⟨have ha:=ha.un;by
 refine FI T j hG hm vT PyProof.Rows.boot_list uD (λH x d Q hx q=>?_) ha he;cases d with
 |list ds=>
  obtain⟨a',vs,rfl,h,r⟩:=hR (K:=X.K) hx;exact⟨a',vs,rfl,.inl h,λl hl=>q _ _ (cQ hl _) (dL hl r)⟩
 |tuple ds=>
  obtain⟨a',vs,rfl,h,r⟩:=eX hx;exact⟨a',vs,rfl,.inr (jQ.of h),λl hl=>q _ _ (cQ hl _) (dL hl r)⟩
 | _=>exact q.elim⟩
inductive Ty where
 |int|bool|str|list|tuple
def Ty.nm:Ty->String
 |.int => "int"
 |.bool => "bool"
 |.str => "str"
 |.list => "list"
 |.tuple => "tuple"
def GT:Ty->Qa->Bool
 |.int,.int _=>true
 |.int,.bool _=>true
 |.bool,.bool _=>true
 |.str,.str _=>true
 |.list,.list _=>true
 |.tuple,.tuple _=>true
 | _,_=>false
def gL(T:Ty):Qa->R Qa
 |.dict _=>.no
 |d=>.ok (.bool (GT T d))
theorem BN:fI X (.builtin "isinstance") (λxs H Q=>∃x t T k,xs=[x,.ty T]/\mW X.K H x t/\PySem.W.kitOne X.K t (.type T)=some k/\Q (.bl k) H):=by
 intro pins s σ H xs us Q I r h;obtain⟨x,t,T,k,rfl,ty,e,q⟩:=h;obtain⟨u,w',rfl,rx,ry⟩:=wJ r;cases ry;exact AL I rx ty e λtk=>⟨.bl k,H,I.tok tk,rfl,q⟩
theorem J5{K:PySem.W.Frag}{H:Hp}{d:Qa}{v:V}(h:jn H d v):(∃kvs,d=.dict kvs)\/∃t,mW K H v t/\∀T:Ty,PySem.W.kitOne K t (.type T.nm)=some (GT T d):=by
 cases d with
 |none=>rw[nu h];exact .inr ⟨_,.non,λT=>by cases T<;>rfl⟩
 |bool k=>rw[qB h];exact .inr ⟨_,.bl k,λT=>by cases T<;>rfl⟩
 |int i=>rw[cP h];exact .inr ⟨_,.int i,λT=>by cases T<;>rfl⟩
 |str y=>rw[iP h];exact .inr ⟨_,.str y,λT=>by cases T<;>rfl⟩
 |tuple ds=>obtain⟨a,vs,rfl,ha,_⟩:=eX h;exact .inr ⟨_,.tup ha,λT=>by cases T<;>rfl⟩
 |list ds=>
  obtain⟨a,vs,rfl,ha,_⟩:=nr h;rcases ha with ha| ⟨o,ha⟩
  ·exact .inr ⟨_,.lst ha,λT=>by cases T<;>rfl⟩
  ·exact .inr ⟨_,.frz ha,λT=>by cases T<;>rfl⟩
 |dict kvs=>exact .inl ⟨kvs,rfl⟩
theorem xD(ty:Ty){y:Str}{py:Pos}(T:Tb X nl G)(j:Nat)(hG:G[j]?=some ("isinstance" : Str))(hm:X.mg "isinstance" = none)(hy:bootBuiltins y=some (.type ty.nm))(T':Tb X nl G)(j':Nat)(hG':G[j']?=some y)(hm':X.mg y=none)(ha:ff X a fa)
  (he:bn a=true:=by rfl):dA X (.Call (.Name "isinstance" p) [a,.Name y py] [] pos) (e1 (gL ty) fa):=by
 have g:=T.gl _ (List.mem_of_getElem? hG);have g':=T.gl _ (List.mem_of_getElem? hG');have hp:PE X (.Name y py) (tC (.ty ty.nm)):=E6 g'.1 hm' hy rfl g'.2.2 g'.2.1;refine PE.imp (nK BN g.1 hm PyProof.Rows.boot_isinstance (nJ ha (nJ hp x5) (bC he)) g.2.2 g.2.1 (bC he)) λσ H Q h=>?_
 refine(fX (P:=Ai) (f:=fa) (k:=λ_ d=>gL ty d) (gJ (X:=X) iK Q) h).post λv H1 zq0=>?_
 obtain⟨_,d,_,_,p1,q1⟩:=zq0;show ∃x t T k,_/\_/\_/\_;rcases J5 (K:=X.K) p1 with⟨kvs,rfl⟩| ⟨t,ht,hk⟩
 ·exact q1.elim
 ·refine⟨v,t,ty.nm,GT ty d,rfl,ht,hk ty,?_⟩;cases d with
  |dict kvs=>exact q1.elim
  | _=>exact q1 _ H1 (aN.refl _) fR
theorem mY{py:Pos}(T:Tb X nl G)(j:Nat)(hG:G[j]?=some ("isinstance" : Str))(hm:X.mg "isinstance" = none)(T':Tb X nl G)(j':Nat)(hG':G[j']?=some ("int" : Str))(hm':X.mg "int" = none)(ha:Z.ff X a fa)(he:bn a=true:=by rfl):Z.dA X (.Call (.Name "isinstance" p) [a,.Name "int" py] [] pos) (e1 (gL .int) fa):=⟨have ha:=ha.un;xD .int T j hG hm PyProof.Rows.boot_int T' j' hG' hm' ha he⟩
theorem ja{py:Pos}(T:Tb X nl G)(j:Nat)(hG:G[j]?=some ("isinstance" : Str))(hm:X.mg "isinstance" = none)(T':Tb X nl G)(j':Nat)(hG':G[j']?=some ("bool" : Str))(hm':X.mg "bool" = none)(ha:Z.ff X a fa)(he:bn a=true:=by rfl):Z.dA X (.Call (.Name "isinstance" p) [a,.Name "bool" py] [] pos) (e1 (gL .bool) fa):=⟨have ha:=ha.un;xD .bool T j hG hm PyProof.Rows.boot_bool T' j' hG' hm' ha he⟩
theorem eV{py:Pos}(T:Tb X nl G)(j:Nat)(hG:G[j]?=some ("isinstance" : Str))(hm:X.mg "isinstance" = none)(T':Tb X nl G)(j':Nat)(hG':G[j']?=some ("tuple" : Str))(hm':X.mg "tuple" = none)(ha:Z.ff X a fa)(he:bn a=true:=by rfl):Z.dA X (.Call (.Name "isinstance" p) [a,.Name "tuple" py] [] pos) (e1 (gL .tuple) fa):=⟨have ha:=ha.un;xD .tuple T j hG hm PyProof.Rows.boot_tuple T' j' hG' hm' ha he⟩
def pO:List Qa->Option Bool
 | []=>some true
 |.bool k::ds=>(pO ds).map λr=>k&&r
 | _=>none
def pP:Qa->R Qa
 |.list ds=>match pO ds with
  |some k=>.ok (.bool k)
  |none=>.no
 | _=>.no
end
section
variable{X:Cx}{tg a b c:Expr}{fa fb fc:Fe}{pos p2:Pos}{nl:Nat}{G:List Str}{x:Str}{p:Pos}{fs:aV->R (List Qa)}{es:List Expr}
def km:Qa->R (List Qa)
 |.list ds=>.ok ds
 |.tuple ds=>.ok ds
 | _=>.no
def dY(f:Fe):aV->R (List Qa):=λρ=>f ρ>>=km
theorem Ch{K:PySem.W.Frag}{a:Addr}{ds:List Qa}:Bq (Kv K a) (λH=>∃o vs,H a=some (.frz o (.lst vs))/\bI H ds vs) ds where
 go:=λi H ⟨o,vs,h,r⟩ hi=>by
  have hl:=r.length;exact⟨vs,vs[i],.inl (.inr ⟨o,h⟩),List.getElem?_eq_getElem (by omega)⟩
 yld:=λi H x H' d ⟨o,vs,h,r⟩ hd ⟨e,y⟩=>by
  subst e;obtain⟨v,e1,p⟩:=r.get hd;have:=y vs (.inl (.inr ⟨o,h⟩));rw[e1]at this;cases this;exact⟨aN.refl _,p⟩
 stop:=λi H ⟨o,vs,h,r⟩ hi=>⟨vs,.inl (.inr ⟨o,h⟩),by rw[r.length];exact hi⟩
theorem EK{K:PySem.W.Frag}{a:Addr}{ds:List Qa}:Bq (Kw K a) (λH=>∃vs,H a=some (.tup vs)/\bI H ds vs) ds where
 go:=λi H ⟨vs,h,r⟩ hi=>by
  have hl:=r.length;exact⟨vs,vs[i],jQ.of h,List.getElem?_eq_getElem (by omega)⟩
 yld:=λi H x H' d ⟨vs,h,r⟩ hd ⟨e,y⟩=>by
  subst e;obtain⟨v,e1,p⟩:=r.get hd;have:=y vs (jQ.of h);rw[e1]at this;cases this;exact⟨aN.refl _,p⟩
 stop:=λi H ⟨vs,h,r⟩ hi=>⟨vs,jQ.of h,by rw[r.length];exact hi⟩
def LR(K:PySem.W.Frag)(tl:TE):TI:=λσ H R=>tl σ H λx H1=>∃a,x=.ref a/\((∃xs,pX K H1 a xs/\R (Kv K a) H1)\/∃xs,jQ K H1 a xs/\R (Kw K a) H1)
theorem Jm{l:Expr}{tl:TE}(hl:PE X l tl):PI X tg l (LR X.K tl):=by
 intro pins s σ H R I h;refine eR (hl pins s σ H _ I h) λv s1 zq0=>?_
 obtain⟨x,H1,I1,r1,q1⟩:=zq0;obtain⟨a,e,q⟩:=q1;subst e;cases r1;rcases q with⟨xs,hq,q⟩| ⟨xs,hq,q⟩
 ·obtain⟨its,rv,p,hz⟩:=I1.list hq;refine wpAny_pyIter_list p.isList ?_;refine⟨s1.heap.objs.size,[s1.heap.objs.size],_,_,H1,rfl,I1.kept (t':=s1.toks) λb o e=>Qe _ e,Bg a _,⟨_,Heap.get?_push_size _ rfl,rfl,rfl⟩,λb hb=>?_,q⟩;have e:b=s1.heap.objs.size:=by simpa using hb
  subst e;exact I1.fpOk (Nat.le_refl _) (I1.hok.fresh (Nat.le_refl _))
 ·obtain⟨its,rv,p,hz⟩:=I1.tuple hq;refine wpAny_pyIter_tuple (show s1.heap.IsTuple a its.toArray from p) ?_;refine⟨s1.heap.objs.size,[s1.heap.objs.size],_,_,H1,rfl,I1.kept (t':=s1.toks) λb o e=>Qe _ e,yy a _,⟨_,Heap.get?_push_size _ rfl,rfl,rfl⟩,λb hb=>?_,q⟩;have e:b=s1.heap.objs.size:=by simpa using hb
  subst e;exact I1.fpOk (Nat.le_refl _) (I1.hok.fresh (Nat.le_refl _))
theorem Ge(Rk:It->Hp->Prop):D8 X (λ(r:R (List Qa)) H=>match r with|.ok ds=>∀J H',aN H H'->(∃Gd,Bq J Gd ds/\Kb H' (λ_=>False) Gd)->Rk J H'|.ex c=>Xw X c H|.no=>False) where
 mono:=λr H H' h s=>by
  cases r with
  |ok d=>exact λJ H2 s2=>h J H2 (s.trans s2)
  |ex c=>exact Xw.mono h s
  |no=>exact h
 ex:=λc H h=>h
 no:=λH h=>h
theorem bq(ha:Z.dA X a fa):Z.vm X tg a (dY fa):=⟨have ha:=ha.un;PI.imp (Jm ha) λσ H Rk h=>(fX (P:=iM) (f:=fa) (k:=λ_=>km) (Ge (X:=X) Rk) h).post λv H1 ⟨_,d,_,_,p1,q1⟩=>by
  cases d with
  |list ds=>
   simp only[Rp]at p1;obtain⟨a',o,vs,rfl,h,r⟩:=p1;exact⟨a',rfl,.inl ⟨vs,.inl (.inr ⟨o,h⟩),q1 _ H1 (aN.refl _) ⟨_,Ch,λH2 k _=>⟨o,vs,k.2 _ _ _ h,bI.kp k _ _ r⟩⟩⟩⟩
  |tuple ds=>
   simp only[Rp]at p1;obtain⟨a',vs,rfl,h,r⟩:=p1;exact⟨a',rfl,.inr ⟨vs,jQ.of h,q1 _ H1 (aN.refl _) ⟨_,EK,λH2 k _=>⟨vs,k.1 _ _ h,bI.kp k _ _ r⟩⟩⟩⟩
  | _=>exact q1.elim⟩
def bM(lo:Int)(n:Nat):List Qa:=(List.range n).map λ(k:Nat)=>.int (lo+k)
def lU:List Qa->R (List Qa)
 | [.int j]=>if -(2 ^ 62)<=j/\j<2 ^ 62 then .ok (bM 0 j.toNat)else .no
 | [.int i,.int j]=>if -(2 ^ 62)<=i/\i<2 ^ 62/\-(2 ^ 62)<=j/\j<2 ^ 62 then .ok (bM i (j-i).toNat)else .no
 | _=>.no
def eo(fs:aV->R (List Qa)):aV->R (List Qa):=λρ=>fs ρ>>=lU
theorem AM{lo:Int}{n:Nat}:Bq (J8 lo n) (λ_=>True) (bM lo n) where
 go:=λi H _ hi=>by
  show i<n;simpa[bM]using hi
 yld:=λi H x H' d _ hd ⟨e,y⟩=>by
  subst e;subst y;refine⟨aN.refl _,?_⟩;unfold bM at hd;rw[List.getElem?_map]at hd;cases h:(List.range n)[i]? with
  |none=>rw[h]at hd;cases hd
  |some k=>
   rw[h]at hd;have hk:k=i:=by
    rw[List.getElem?_range]at h
    ·exact(Option.some.inj h).symm
    ·have:=(List.getElem?_eq_some_iff.mp h).1;simpa using this
   subst hk;cases hd;exact fF
 stop:=λi H _ hi=>by
  show n<=i;simpa[bM]using hi
theorem cL(T:Tb X nl G)(j:Nat)(hG:G[j]?=some ("range" : Str))(hm:X.mg "range" = none)(ha:Z.tZ X [a] fs)(hl:∀ρ ds,fs ρ=.ok ds->ds.length=1)(hs:bn a=true:=by rfl):Z.vm X tg (.Call (.Name "range" p) [a] [] pos) (eo fs):=⟨have ha:=ha.un;PI.imp (AW (T.gl _ (List.mem_of_getElem? hG)).1 hm ha (bC hs)) λσ H Rk ⟨ρ,sl,q⟩=>by
  refine⟨ρ,sl,?_⟩;dsimp only[eo]at q;cases e:fs ρ with
  |ex c=>rw[e]at q;exact q
  |no=>rw[e]at q;exact q
  |ok ds=>
   rw[e]at q;have hlen:=hl ρ ds e;intro vs H1 s1 r1
   match ds,hlen with
   | [d],_=>
    simp only[RA]at r1;obtain⟨v,r',rfl,p1,rfl⟩:=r1;cases d with
    |int j=>
     have ev:v=.int j:=by simpa only[Rp]using p1
     subst ev;by_cases hz:-(2 ^ 62)<=j/\j<2 ^ 62
     ·have e2:lU [.int j]=.ok (bM 0 j.toNat):=if_pos hz;rw[R.ok_bind,e2]at q;exact⟨j,rfl,hz.1,hz.2,q _ H1 s1 ⟨_,AM,λ_ _ _=>True.intro⟩⟩
     ·have e2:lU [.int j]=.no:=if_neg hz;rw[R.ok_bind,e2]at q;exact q.elim
    | _=>exact q.elim⟩
end
def xM(x:Int):List Int->List Int
 | []=>[x]
 |y::r=>if x<=y then x::y::r else y::xM x r
def fA:List Int->List Int
 | []=>[]
 |x::r=>xM x (fA r)
theorem oy(x:Int):∀l,(xM x l).Perm (x::l)
 | []=>List.Perm.refl _
 |y::r=>by
  unfold xM;split
  ·exact List.Perm.refl _
  ·exact((oy x r).cons y).trans (List.Perm.swap x y r)
theorem fq:∀l,(fA l).Perm l
 | []=>List.Perm.refl _
 |x::r=>(oy x (fA r)).trans ((fq r).cons x)
theorem o6(x:Int):∀l,l.Pairwise (·<=·)->(xM x l).Pairwise (·<=·)
 | [],_=>by unfold xM;exact List.pairwise_singleton _ _
 |y::r,h=>by
  have h':=List.pairwise_cons.mp h;unfold xM;split
  ·rename_i hxy;refine List.pairwise_cons.mpr ⟨λz hz=>?_,h⟩;rcases List.mem_cons.mp hz with rfl|hz
   ·exact hxy
   ·exact Int.le_trans hxy (h'.1 z hz)
  ·rename_i hxy;refine List.pairwise_cons.mpr ⟨λz hz=>?_,o6 x r h'.2⟩;rcases List.mem_cons.mp ((oy x r).mem_iff.mp hz)with rfl|hz
   ·omega
   ·exact h'.1 z hz
theorem iA:∀l,(fA l).Pairwise (·<=·)
 | []=>List.Pairwise.nil
 |x::r=>o6 x _ (iA r)
theorem wC{a b:List Int}(hp:a.Perm b)(hs:a.Pairwise (·<=·)):a=fA b:=PySem.W.ksm_same (hp.trans (fq b).symm) hs (iA b)
section
variable{prog:Program}{w:World}{A:Around}{E:Value->Shared->Prop}{s:Shared}
theorem wE{d:Addr}{kvs:List (cI×Value)}{ns:List Int}{Q:Value->Shared->Prop}(hh:A.handled=none)(lo:(d==sysModules)=false)(hd:s.heap.DictOf (dW prog w) d kvs)(hk:kvs.map (·.1)=ns.map Sum.inl)(h64:ns.length<64)
  (h:∀(D:Addr) (h':Heap) (tk:Nat) (vs:List Value) (e:Nat),s.heap.get? D=none->(∀b o,s.heap.get? b=some o->h'.get? b=some o)->h'.get? D=some (seqObj "list" vs.toArray e)->IntsAre vs (fA ns)->Q (.ref D) { s with heap:=h',toks:=tk }) :
  wpAny (model prog w) A (call (.builtin "sorted") [.ref d]) Q E s:=by
 obtain⟨ep,hat⟩:=hd.dictAt;have hlen:kvs.length=ns.length:=by have:=congrArg List.length hk;simpa using this
 have hn:kvs.length<=sizeLine:=by rw[sizeLine_eq];omega
 refine Calls.call_function_entry kind_sorted plain_sorted entry_sorted (args_sorted1 _) ?_;unfold Builtin.«sorted»;refine Qb (m:=checkCount "sorted" 1 1 _) (Qg ?_);refine Qb (PySem.W.kdu_collect (A:=A.in1) (PySem.W.kdl_dict (knd:=dW prog w) (kvs:=kvs) (ep:=ep) lo) hh hat hn λh1 tk acc hk1 hacc=>?_);have hl:acc.toList.length=kvs.length:=by rw[Array.length_toList];exact hacc.1
 have hI:IntsAre acc.toList ns:=by
  have key:∀(l:List Value) (ms:List Int) (k:Nat),l.length=ms.length->(∀(j:Nat) (v:Value),l[j]?=some v->∃n:Int,ms[j]?=some n/\∃t,v=Value.int n t)->IntsAre l ms:=by
   intro l;induction l with
   |nil=>intro ms k e _;have:ms=[]:=List.length_eq_zero_iff.mp e.symm;subst this;exact .nil
   |cons v r ih=>
    intro ms k e hv;cases ms with
    |nil=>cases e
    |cons n ms=>
     obtain⟨n',e1,t,rfl⟩:=hv 0 v rfl;have:n=n':=Option.some.inj e1;subst this;exact .cons n t (ih ms (k+1) (by simpa using e) λj u hu=>hv (j+1) u (by simpa using hu))
  refine key acc.toList ns 0 (by rw[hl,hlen]) λj v hv=>?_
  obtain⟨κ,x,hx,his⟩:=hacc.2 j v (by rw[<-Array.getElem?_toList];exact hv);have e1:(kvs.map (·.1))[j]?=some κ:=by rw[List.getElem?_map,hx];rfl
  rw[hk,List.getElem?_map]at e1;cases e2:ns[j]? with
  |none=>rw[e2]at e1;cases e1
  |some n=>
   rw[e2]at e1;have e3:Sum.inl n=κ:=Option.some.inj e1;subst e3;rcases dJ (show qX (Sum.inl n) v=true from his)with⟨i,t,e4,e5⟩| ⟨y,t,e4,_⟩
   ·cases e4;exact⟨n,rfl,t,e5⟩
   ·cases e4
 refine Qb (wpAny_newList ?_ (by rw[hl];exact hn));have hoL:(h1.push (seqObj "list" acc.toList.toArray 0)).get? h1.objs.size=some (seqObj "list" acc.toList.toArray 0):=Heap.get?_push_size _ rfl;show wpAny _ _ _ _ _ { s with heap:=h1.push (seqObj "list" acc.toList.toArray 0),toks:=tk };refine Qb (wpAny_holding (wpAny_call_entry slot_list_sort ⟨_,hoL,rfl⟩ entry_list_sort (list_sort_tree hoL hI (by rw[hl,hlen];exact h64) λout ns' a1 a2 a3=>⟨_,rfl,?_⟩) (args_list_sort _)));refine Qg ⟨_,rfl,?_⟩;obtain⟨e,he⟩:=sortedHeap_at (out:=out) hoL;have hsz:s.heap.get? h1.objs.size=none:=by
  cases q:s.heap.get? h1.objs.size with
  |none=>rfl
  |some o=>exact absurd (Heap.lt_size (hk1 _ _ q)) (Nat.lt_irrefl _)
 refine h h1.objs.size _ tk out.toList e hsz (λb o q=>?_) he (by rw[wC a2 a3]at a1;exact a1);have q1:=hk1 b o q;have hlt:b<h1.objs.size:=Heap.lt_size q1;show(sortedHeap (h1.push (seqObj "list" acc.toList.toArray 0)) h1.objs.size acc.toList out).get? b=some o;rw[sortedHeap_old (Nat.ne_of_lt hlt) (by rw[size_push'];exact Nat.lt_succ_of_lt hlt)];exact Qe _ q1
end
theorem FJ{fs ex:List Addr}{H:Hp}{h h':Heap}{a:Addr}{o:HO}(k:∀b u,h.get? b=some u->h'.get? b=some u)(hg:h.get? a=none)(hn:H a=none):Un fs ex H (dj H a o) h h':=by
 have ne:∀{b:Addr} {u:Obj},h.get? b=some u->b≠a:=λe z=>by subst z;rw[hg]at e;cases e
 exact⟨λb u q _ _ _=>k b u q,λb u q _ _ _=>⟨u.slots,k b u q⟩,λb u q n _=>by rw[aD (ne q)];exact n,λb u q _=>⟨u,k b u q⟩,λb xs q=>by rw[aD (bo q hn)];exact q,λb u xs q=>by rw[aD (bo q hn)];exact q,
  λb ps q=>⟨#[],by rw[aD (bo q hn),q];simp⟩⟩
theorem wc{X:Cx}{pins:List (Addr×Obj)}{σ:St}{H:Hp}{s:Shared}{h':Heap}{a:Addr}{o:HO}{t':Nat}(I:aT X pins σ H s)(k:∀b u,s.heap.get? b=some u->h'.get? b=some u)(hg:s.heap.get? a=none)(hn:H a=none)
  (new:cD X.prog X.w (dj H a o) h' a o):aT X pins σ (dj H a o) { s with heap:=h',toks:=t' }:=by
 refine I.un (FJ k hg hn) λb u e=>?_
 by_cases hb:b=a
 ·subst hb;rw[bh]at e;cases e;exact new
 ·rw[aD hb]at e;exact(I.hok b u e).stay (λc v _ q=>k c v q) (λc q=>by rw[aD (bo q hn)];exact q) λc xs q=>by rw[aD (bo q hn)];exact q
theorem wd{X:Cx}{pins:List (Addr×Obj)}{σ:St}{H:Hp}{s:Shared}{a:Addr}(I:aT X pins σ H s)(hg:s.heap.get? a=none):H a=none:=by
 cases q:H a with
 |none=>rfl
 |some o=>obtain⟨u,e⟩:=uR (I.hok a o q);rw[hg]at e;cases e
section
variable{X:Cx}{a b c:Expr}{fa fb fc:Fe}{pos p2:Pos}{nl:Nat}{G:List Str}{x:Str}{p:Pos}
def eZ:List Qa->Option (List Int)
 | []=>some []
 |.int i::ds=>(eZ ds).map λr=>i::r
 | _=>none
theorem jZ:∀{ds:List Qa} {ns:List Int},eZ ds=some ns->ds=ns.map Qa.int
 | [],ns,h=>by cases h;rfl
 |d::ds,ns,h=>by
  cases d with
  |int i=>
   simp only[eZ]at h;cases e:eZ ds with
   |none=>rw[e]at h;cases h
   |some r=>
    rw[e]at h;cases h;rw[List.map_cons,jZ e]
  | _=>cases h
theorem k7:∀ns:List Int,eZ (ns.map Qa.int)=some ns
 | []=>rfl
 |n::ns=>by simp only[List.map_cons,eZ,k7 ns,Option.map_some]
def jW:Qa->R Qa
 |.list ds=>match eZ ds with
  |some ns=>if ns.length<64 then .ok (.list ((fA ns).map Qa.int))else .no
  |none=>.no
 |.dict kvs=>match eZ (kvs.map (·.1))with
  |some ns=>if ns.length<64 then .ok (.list ((fA ns).map Qa.int))else .no
  |none=>.no
 | _=>.no
def HE(K:PySem.W.Frag):List V->Hp->VK->Prop:=λxs H Q=>∃p ns,xs=[.ref p]/\pX K H p (ns.map V.int)/\ns.length<64/\∀l,H l=none->Q (.ref l) (dj H l (.lst ((fA ns).map V.int)))
def HD:List V->Hp->VK->Prop:=λxs H Q=>∃p ks ns,xs=[.ref p]/\Rd H p (.dK ks)/\ks.map (·.1)=ns.map Sum.inl/\ns.length<64/\∀l,H l=none->Q (.ref l) (dj H l (.lst ((fA ns).map V.int)))
theorem lM(ns:List Int):(fA ns).length=ns.length:=(fq ns).length_eq
theorem xr:fI X (.builtin "sorted") (HE X.K):=by
 intro pins s σ H xs us Q I r h;obtain⟨p,ns,rfl,hq,h64,q⟩:=h;obtain⟨u,rfl,rx⟩:=iY r;cases rx;obtain⟨its,rv,pl,hz⟩:=I.list hq;have hI:IntsAre its ns:=xN rv;have hl:=IntsAre.length hI;refine sorted_ints pl.isList hI (by omega) λout ns' a1 a2 a3=>?_
 rw[wC a2 a3]at a1;obtain⟨e,he⟩:=sortedAll_at s.heap its out;refine⟨.ref (s.heap.objs.size+1),_,I.laid (t':=s.toks) (o:=.lst ((fA ns).map V.int)) (λb o e=>sortedAll_old e) (Nat.le_succ _) ⟨?_,out.toList,e,lO a1,by simpa[seqObj]using he⟩,rfl,q _ (I.hok.fresh (Nat.le_succ _))⟩;rw[Qd,lM,sizeLine_eq];omega
theorem xp(hc:X.calm=true):fI X (.builtin "sorted") HD:=by
 intro pins s σ H xs us Q I r h;obtain⟨p,ks,ns,rfl,hq,hk,h64,q⟩:=h;obtain⟨u,rfl,rx⟩:=iY r;cases rx;obtain⟨hz,hlo,vs,kv,hd⟩:=qG I.hok hq;refine wE (I.ok.hd hc) hlo hd (by rw[<-kv.keys];exact hk) h64 λD h' tk vs' e hg kp hD hI=>?_
 have hn:=wd I hg;refine⟨.ref D,_,wc (t':=tk) (o:=.lst ((fA ns).map V.int)) I kp hg hn ⟨?_,vs',e,lO hI,by simpa[seqObj]using hD⟩,rfl,q _ hn⟩;rw[Qd,lM,sizeLine_eq];omega
theorem wx:∀{H:Hp} {ns:List Int} {vs:List V},bI H (ns.map Qa.int) vs->vs=ns.map V.int
 |H,[],vs,r=>by rw[List.map_nil]at r;rw[r.nil_inv];rfl
 |H,n::ns,vs,r=>by
  rw[List.map_cons]at r;obtain⟨v,r',rfl,p,t⟩:=r.cons_inv;have:v=.int n:=by simpa only[Rp]using p
  rw[this,wx t];rfl
theorem wz:∀{H:Hp} {kvs:List (Qa×Qa)} {ks:List (cI×V)},fL H kvs ks->kvs.map (·.1)=ks.map λk=>fO k.1
 |H,[],ks,r=>by simp only[fL]at r;rw[r];rfl
 |H,(k,d)::kvs,ks,r=>by
  simp only[fL,yH]at r;obtain⟨x,v,r',rfl,⟨e,_⟩,t⟩:=r;rw[List.map_cons,List.map_cons,wz t,e]
theorem tj:∀{ks:List (cI×V)} {ns:List Int},(ks.map λk=>fO k.1)=ns.map Qa.int->ks.map (·.1)=ns.map Sum.inl
 | [],[],_=>rfl
 | [],_::_,h=>by cases h
 | _::_,[],h=>by cases h
 | (k,v)::ks,n::ns,h=>by
  rw[List.map_cons,List.map_cons]at h;injection h with h1 h2
  rw[List.map_cons,List.map_cons,tj h2];cases k with
  |inl i=>simp only[fO]at h1;cases h1;rfl
  |inr y=>simp only[fO]at h1;cases h1
theorem nc(T:Tb X nl G)(j:Nat)(hG:G[j]?=some ("sorted" : Str))(hm:X.mg "sorted" = none)(ha:Z.ff X a fa)(he:bn a=true:=by rfl):Z.mS X (.Call (.Name "sorted" p) [a] [] pos) (e1 jW fa):=⟨have ha:=ha.un;by
 refine GB T j hG hm vT PyProof.Rows.boot_sorted (xr.or (xp T.calm)) (λH x d Q hx q=>?_) ha he;cases d with
 |list ds=>
  simp only[jW]at q;cases ei:eZ ds with
  |none=>rw[ei]at q;exact q.elim
  |some ns=>
   rw[ei]at q;dsimp only at q;by_cases h64:ns.length<64
   ·rw[if_pos h64]at q;obtain⟨a',vs,rfl,h,r⟩:=hR (K:=X.K) hx;rw[jZ ei]at r;rw[wx r]at h;exact .inl ⟨a',ns,rfl,h,h64,λl hl=>q _ _ (cQ hl _) (dL hl (bI.ints _))⟩
   ·rw[if_neg h64]at q;exact q.elim
 |dict kvs=>
  simp only[jW]at q;cases ei:eZ (kvs.map (·.1))with
  |none=>rw[ei]at q;exact q.elim
  |some ns=>
   rw[ei]at q;dsimp only at q;by_cases h64:ns.length<64
   ·rw[if_pos h64]at q;have hi:il kvs=false:=by
     cases kvs with
     |nil=>rfl
     |cons kd kvs=>
      obtain⟨k,d⟩:=kd;cases k<;>first|rfl| (simp[eZ]at ei)
    obtain⟨a',ks,rfl,h,r⟩:=nq hi hx;have hk:=tj ((wz r).symm.trans (jZ ei));exact .inr ⟨a',ks,ns,rfl,h,hk,h64,λl hl=>q _ _ (cQ hl _) (dL hl (bI.ints _))⟩
   ·rw[if_neg h64]at q;exact q.elim
 | _=>exact q.elim⟩
theorem Aq(hc:X.calm=true):fI X (.builtin "all") (λxs H Q=>∃(p:Addr) (bs:List Bool),xs=[.ref p]/\pX X.K H p (bs.map V.bl)/\Q (.bl (bs.all id)) H):=by
 intro pins s σ H xs us Q I r h;obtain⟨p,bs,rfl,hq,q⟩:=h;obtain⟨u,rfl,rx⟩:=iY r;cases rx;obtain⟨its,rv,pl,hz⟩:=I.list hq;have hh:X.A.in1.handled=none:=I.ok.hd hc;have hlt:p≠s.heap.objs.size:=by obtain⟨o,e,_⟩:=pl.isList;exact Nat.ne_of_lt (Heap.lt_size e)
 have hits:its=bs.map Value.bool:=by
  have key:∀(bs:List Bool) (us:List Value),bO (bs.map V.bl) us->us=bs.map Value.bool:=by
   intro bs;induction bs with
   |nil=>intro us r;cases r;rfl
   |cons k bs ih=>intro us r;rw[List.map_cons]at r;cases r with|cons r1 r2=>rw[ih _ r2];cases r1;rfl
  exact key bs its rv
 refine call_all_walk (wpAny_pyIter_list pl.isList ?_);refine⟨s.heap.objs.size,_,_,its.toArray.size,_,_,λi=>(bs[i]?).getD true,rfl,Walks.list hh s.heap.objs.size p hlt its.toArray,⟨⟨_,Heap.get?_push_size _ rfl,rfl,rfl⟩,?_⟩,λi v s' Q' E' hv hQ'=>?_,λh' tk kp=>?_⟩
 ·obtain⟨o,e,r'⟩:=pl.isList;exact⟨o,Qe _ e,r'⟩
 ·have hv':its[i]?=some v:=by simpa using hv
  rw[hits,List.getElem?_map]at hv';cases e:bs[i]? with
  |none=>rw[e]at hv';cases hv'
  |some k=>
   rw[e]at hv';cases hv';dsimp only at hQ';rw[e]at hQ';exact wpAny_truthy_bool hQ'
 ·have e:((List.range its.toArray.size).all λi=>(bs[i]?).getD true)=bs.all id:=by
   rw[List.size_toArray,hits,Qd];have key:∀(l:List Bool),((List.range l.length).all λi=>(l[i]?).getD true)=l.all id:=by
    intro l;induction l with
    |nil=>rfl
    |cons k l ih=>
     rw[List.length_cons,List.range_succ_eq_map,List.all_cons,List.all_map,List.all_cons,<-ih];rfl
   exact key bs
  rw[e];refine⟨.bl (bs.all id),H,I.kept (t':=tk) λb o g=>kp b o (λz=>?_) (Qe _ g),rfl,q⟩;rw[List.mem_singleton.mp z]at g;exact absurd (Heap.lt_size g) (Nat.lt_irrefl _)
theorem vJ:∀{ds:List Qa} {k:Bool},pO ds=some k->∃bs:List Bool,ds=bs.map Qa.bool/\k=bs.all id
 | [],k,h=>by cases h;exact⟨[],rfl,rfl⟩
 |d::ds,k,h=>by
  cases d with
  |bool j=>
   simp only[pO]at h;cases e:pO ds with
   |none=>rw[e]at h;cases h
   |some r=>
    rw[e]at h;cases h;obtain⟨bs,e1,e2⟩:=vJ e;exact⟨j::bs,by rw[e1];rfl,by rw[e2];rfl⟩
  | _=>cases h
theorem tF:∀{H:Hp} {ns:List Bool} {vs:List V},bI H (ns.map Qa.bool) vs->vs=ns.map V.bl
 |H,[],vs,r=>by rw[List.map_nil]at r;rw[r.nil_inv];rfl
 |H,n::ns,vs,r=>by
  rw[List.map_cons]at r;obtain⟨v,r',rfl,p,t⟩:=r.cons_inv;have:v=.bl n:=by simpa only[Rp]using p
  rw[this,tF t];rfl
theorem kQ(T:Tb X nl G)(j:Nat)(hG:G[j]?=some ("all" : Str))(hm:X.mg "all" = none)(ha:Z.ff X a fa)(he:bn a=true:=by rfl):Z.dA X (.Call (.Name "all" p) [a] [] pos) (e1 pP fa):=⟨have ha:=ha.un;by
 refine GB T j hG hm iK PyProof.Rows.boot_all (Aq T.calm) (λH x d Q hx q=>?_) ha he;cases d with
 |list ds=>
  simp only[pP]at q;cases ei:pO ds with
  |none=>rw[ei]at q;exact q.elim
  |some k=>
   rw[ei]at q;obtain⟨bs,e1,e2⟩:=vJ ei;obtain⟨a',vs,rfl,h,r⟩:=hR (K:=X.K) hx;rw[e1]at r;rw[tF r]at h;refine⟨a',bs,rfl,h,?_⟩;rw[<-e2];exact q _ H (aN.refl _) fR
 | _=>exact q.elim⟩
end
section
variable{X:Cx}{a b c:Expr}{fa fb fc:Fe}{pos p2:Pos}{nl:Nat}{G:List Str}{x:Str}{p:Pos}
theorem iN.changeK{Fm H:Hp}{σ:St}{ρ:aV}{i:Nat}{d d':Qa}{a:Addr}{u u':HO}(h:iN Fm H σ ρ)(h1:ρ[i]?=some (.own d))(h2:σ[i]?=some (some (.ref a)))(hu:H a=some u)(kp:Kp H (dj H a u'))
  (hr:iB (dj H a u') d' (.ref a)):iN Fm (dj H a u') σ (ρ.set i (.own d')):=by
 have hFa:=h.own i d a h1 h2;have at_i:∀(j:Nat) (e:Qa),(ρ.set i (.own d'))[j]?=some (.own e)->∃e0,ρ[j]?=some (.own e0):=λj e q=>by
  rw[List.getElem?_set]at q;by_cases hij:i=j
  ·subst hij;exact⟨d,h1⟩
  ·rw[if_neg hij]at q;exact⟨e,q⟩
 refine⟨λb x e=>?_,⟨by rw[List.length_set];exact h.sl.1,λj c w' e1 e2=>?_⟩,λj e b e1 e2=>?_,λj k e f b e1 e2 e3 e4=>?_⟩
 ·rw[aD (bo e hFa)];exact h.fm b x e
 ·rw[List.getElem?_set]at e1;by_cases hij:i=j
  ·subst hij;rw[if_pos rfl]at e1;split at e1
   ·cases e1;rw[h2]at e2;cases e2;exact⟨_,rfl,hr⟩
   ·cases e1
  ·rw[if_neg hij]at e1;have q:=h.sl.2 j c w' e1 e2;cases c with
   |exc p=>exact q
   |non=>exact True.intro
   |val d1=>obtain⟨v,z1,z2⟩:=q;exact⟨v,z1,Rp.kp kp _ _ z2⟩
   |own d1=>
    obtain⟨v,z1,z2⟩:=q;subst z1;obtain⟨b,ob,rfl,hb⟩:=uS z2;have nb:b≠a:=λz=>hij (by subst z;exact h.apart i j d d1 b h1 e1 h2 e2)
    refine⟨_,rfl,?_⟩;cases d1<;>simp only[iB]at z2 ⊢
    ·obtain⟨b',vs,e,hb',r⟩:=z2;cases e;exact⟨b,vs,rfl,by rw[aD nb];exact hb',bI.kp kp _ _ r⟩
    ·rcases z2 with⟨b',vs,e,hb',r⟩| ⟨b',vs,e,hb',r⟩
     ·cases e;exact .inl ⟨b,vs,rfl,by rw[aD nb];exact hb',fL.kp kp _ _ r⟩
     ·cases e;exact .inr ⟨b,vs,rfl,by rw[aD nb];exact hb',pW.kp kp _ _ r⟩
 ·obtain⟨e0,q⟩:=at_i j e e1;exact h.own j e0 b q e2
 ·obtain⟨e0,q⟩:=at_i j e e1;obtain⟨f0,q'⟩:=at_i k f e2;exact h.apart j k e0 f0 b q q' e3 e4
theorem iN.change{Fm H:Hp}{σ:St}{ρ:aV}{i:Nat}{d d':Qa}{a:Addr}{u u':HO}(h:iN Fm H σ ρ)(h1:ρ[i]?=some (.own d))(h2:σ[i]?=some (some (.ref a)))(hu:H a=some u)(hm:(∃xs,u=.lst xs)\/∃ks,u=.dK ks)
  (hr:iB (dj H a u') d' (.ref a)):iN Fm (dj H a u') σ (ρ.set i (.own d')):=h.changeK h1 h2 hu (gA hu hm) hr
def Fv(i:Nat)(fk fv:Fe):Fs:=λρ=>fv ρ>>=λv=>jG (fk ρ)>>=λk=>match ρ[i]? with
 |some (.own (.dict kvs))=>if il kvs=true then .no else match gQ k with
  |some _=>if kvs.length<sizeLine then .ok (.nx (ρ.set i (.own (.dict (yd kvs k v)))))else .no
  |none=>.no
 | _=>.no
theorem sZ{k:Qa}{κ:cI}(h:gQ k=some κ):k=fO κ:=by
 cases k<;>simp only[gQ]at h<;>cases h<;>rfl
theorem Dg{H:Hp}{κ:cI}{y:V}(h:Rp H (fO κ) y):y=kV κ:=by
 cases κ<;>simp only[fO,Rp]at h<;>exact h
theorem By{k v:Expr}{fk fv:Fe}{q1 q2 q3:Pos}(T:Tb X nl G)(n:Nat)(hN:X.N[n]?=some x)(hk:Z.dA X k fk)(hv:Z.dA X v fv)(hs:swapsWith v (some (.Subscript (.Name x q1) k q2)) q3.line X.env=pure false:=by rfl):Z.kG X (.Assign [.Subscript (.Name x q1) k q2] v q3) (Fv n fk fv):=⟨have hk:=hk.un;have hv:=hv.un;λFm=>by
 have hm:=T.vis x (List.mem_of_getElem? hN);refine PS.imp (zN (by have:=T.hu;omega) (jg hN hm.1 hm.2.1 hm.2.2) hk hv hs) λD σ H h=>?_
 refine(me (P:=iM) (f:=fv) (k:=λρ v=>jG (fk ρ)>>=λk=>match ρ[n]? with
  |some (.own (.dict kvs))=>if il kvs=true then .no else match gQ k with
   |some _=>if kvs.length<sizeLine then .ok (.nx (ρ.set n (.own (.dict (yd kvs k v)))))else .no
   |none=>.no
  | _=>.no) h).post λvv H1 ⟨ρ1,dv,sl1,_,p1,q1⟩=>?_
 have sl0:F5 X Fm (λρ=>jG (fk ρ)>>=λk=>match ρ[n]? with
  |some (.own (.dict kvs))=>if il kvs=true then .no else match gQ k with
   |some _=>if kvs.length<sizeLine then .ok (.nx (ρ.set n (.own (.dict (yd kvs k dv)))))else .no
   |none=>.no
  | _=>.no) D σ H1:=⟨ρ1,sl1,q1⟩
 cases e:ρ1[n]? with
 |none=>
  exfalso;rw[e]at q1;cases e2:fk ρ1 with
  |ok _=>rw[e2]at q1;exact q1
  |ex _=>rw[e2]at q1;exact q1
  |no=>rw[e2]at q1;exact q1
 |some c=>
  rw[e]at q1;cases c with
  |own d=>
   cases d with
   |dict kvs=>
    obtain⟨o,h2,w',rfl,p2⟩:=sl1.sl.at e;simp only[iB]at p2;have hni:il kvs=false:=by
     cases hz:il kvs with
     |false=>rfl
     |true=>
      exfalso;cases e2:fk ρ1 with
      |ex _=>rw[e2]at q1;exact q1.elim
      |no=>rw[e2]at q1;exact q1
      |ok kd=>
       rw[e2]at q1;simp only[jG,R.ok_bind,hz,if_true]at q1;exact q1.elim
    rcases p2 with⟨a',ks,rfl,ha,r⟩| ⟨a',ks,rfl,ha,r⟩
    case inr=>rw[r.ins]at hni;cases hni
    refine⟨.ref a',h2,?_⟩;refine⟨ρ1,sl1.sl,?_⟩;cases e2:fk ρ1 with
    |ex _=>rw[e2]at q1;exact q1.elim
    |no=>rw[e2]at q1;exact q1
    |ok kd=>
     rw[e2]at q1;simp only[jG,R.ok_bind,hni,Bool.false_eq_true,if_false]at q1;intro yv H3 s3 p3;cases e3:gQ kd with
     |none=>rw[e3]at q1;exact q1.elim
     |some κ=>
      rw[e3]at q1;dsimp only at q1;by_cases hz:kvs.length<sizeLine
      ·rw[if_pos hz]at q1;have ek:=sZ e3;subst ek;have ey:=Dg p3;subst ey;have ha3:=s3 _ _ ha;have r3:fL H3 kvs ks:=fL.kp (Kp.of s3) _ _ r;refine⟨a',_,rfl,vc.k ha3 (by rw[r3.length];exact hz),q1 _ _ ((sl1.mono s3).change e h2 ha3 (.inr ⟨_,rfl⟩) ?_)⟩;simp only[iB];exact .inl ⟨a',_,rfl,bh,fL.kp (gA ha3 (.inr ⟨_,rfl⟩)) _ _ (fL.put κ (p1.mono s3) r3)⟩
      ·rw[if_neg hz]at q1;exact q1.elim
   | _=>
    exfalso;cases e2:fk ρ1 with
    |ok _=>rw[e2]at q1;exact q1
    |ex _=>rw[e2]at q1;exact q1
    |no=>rw[e2]at q1;exact q1
  | _=>
   exfalso;cases e2:fk ρ1 with
   |ok _=>rw[e2]at q1;exact q1
   |ex _=>rw[e2]at q1;exact q1
   |no=>rw[e2]at q1;exact q1⟩
def gX(i:Nat)(f:Fe):Fs:=λρ=>jG (f ρ)>>=λd=>match ρ[i]? with
 |some (.own (.list ds))=>if ds.length<sizeLine then .ok (.nx (ρ.set i (.own (.list (ds++[d])))))else .no
 | _=>.no
end
section
variable{prog:Program}{w:World}{A:Around}{E:Value->Shared->Prop}{s:Shared}
theorem xW{it t:Addr}{i:Nat}{items:Array Value}{x:Value}{Q:Value->Shared->Prop}(hit:s.heap.IsTupleIter it t i)(ht:s.heap.IsTuple t items)(hx:items[i]?=some x)
  (hQ:∀h',h'.IsTupleIter it t (i+1)->Heap.SameBut it s.heap h'->Q x { s with heap:=h' }):wpAny (model prog w) A (Builtin.SmallTypes.nextOf (.ref it)) Q E s:=by
 obtain⟨ob,hob,hcl,hdt⟩:=id hit;obtain⟨ot,hot,_,nt,hdtt⟩:=ht;unfold Builtin.SmallTypes.nextOf;refine Qb (wpAny_callSpecial?_slot (name:=Str.ofString "__next__") hit.typeIs F.slot_tuple_iterator_next (wpAny_call_entry F.slot_tuple_iterator_next hit.typeIs F.entry_tuple_iterator_next ?_ (F.args_tuple_iterator_next_1 _)));show wpAny _ _ (field (Value.ref it) 0>>=_) _ _ s;refine Qb (wpAny_field hob hdt (x:=Value.ref t) rfl ?_);show wpAny _ _ (if(Value.ref t==Value.none)=true then _ else _) _ _ s;rw[if_neg (by intro z;cases z)];show wpAny _ _ (field (Value.ref it) 1>>=_) _ _ s;refine Qb (wpAny_field hob hdt (x:=Value.int i 0) rfl ?_);show wpAny _ _ (seqItems? (Value.ref t)>>=_) _ _ s;refine Qb (wpAny_seqItems hot hdtt ?_);simp only[hx,Int.toNat_natCast];refine Qb (wpAny_setField hob hdt (by simp) (Qg ⟨x,rfl,Qg (hQ _ ⟨_,Heap.get?_update_self _ hob (Obj.isFreed_of_fields (Obj.data_mapFields hdt _)),(Obj.cls_mapFields ..).trans hcl,?_⟩ (Heap.SameBut.update ..))⟩));rw[Obj.data_mapFields hdt];simp[rawInt]
theorem rn{it t:Addr}{i:Nat}{items:Array Value}{Q:Value->Shared->Prop}(hh:A.handled=none)(hit:s.heap.IsTupleIter it t i)(ht:s.heap.IsTuple t items)(hx:items[i]?=none)
  (hE:∀h' e,Heap.ExtBut it s.heap h'->(∃o,h'.get? e=some o/\o.cls=.type "StopIteration")->E (.ref e) { s with heap:=h' }):wpAny (model prog w) A (Builtin.SmallTypes.nextOf (.ref it)) Q E s:=by
 obtain⟨ob,hob,hcl,hdt⟩:=id hit;obtain⟨ot,hot,_,nt,hdtt⟩:=ht;unfold Builtin.SmallTypes.nextOf;refine Qb (wpAny_callSpecial?_slot (name:=Str.ofString "__next__") hit.typeIs F.slot_tuple_iterator_next (wpAny_call_entry F.slot_tuple_iterator_next hit.typeIs F.entry_tuple_iterator_next ?_ (F.args_tuple_iterator_next_1 _)));show wpAny _ _ (field (Value.ref it) 0>>=_) _ _ s;refine Qb (wpAny_field hob hdt (x:=Value.ref t) rfl ?_);show wpAny _ _ (if(Value.ref t==Value.none)=true then _ else _) _ _ s;rw[if_neg (by intro z;cases z)];show wpAny _ _ (field (Value.ref it) 1>>=_) _ _ s;refine Qb (wpAny_field hob hdt (x:=Value.int i 0) rfl ?_);show wpAny _ _ (seqItems? (Value.ref t)>>=_) _ _ s;refine Qb (wpAny_seqItems hot hdtt ?_);simp only[hx,Int.toNat_natCast];refine Qb (wpAny_rule (Qb (wpAny_setField hob hdt (by simp) ?_)));show wpAny _ _ (newExc (Value.type "StopIteration") []>>=_) _ _ _;refine Qb ?_;simp only[newTuple,newExc];refine Qb (wpAny_newObj_type ?_ (by size_fits));refine Qb (m:=firstArgMember _ _) (wpAny_of_eq (a:=Value.none) (by first|rfl| (simp only[firstArgMember];rfl)) ?_);refine wpAny_newObj_type ?_ (by size_fits);simp only[raiseNew];refine Qb (wpAny_handled ?_)
 first|rw[show A.in1.handled=none from hh]|rw[hh]
 exact Qb (Qg (wpAny_throw (hE _ _ (((Heap.SameBut.update ..).extBut.push _).push _) ⟨_,Heap.get?_push_size _ rfl,rfl⟩)))
end
def nX(h:Heap)(i l:Addr)(k:Nat)(xs:Array Value):Prop:=(h.IsListIter i l k/\h.IsList l xs)\/(h.IsTupleIter i l k/\h.IsTuple l xs)
section
variable{h h':Heap}{i l:Addr}{k:Nat}{xs:Array Value}
theorem nX.keep(x:nX h i l k xs)(hi:∀o,h.get? i=some o->h'.get? i=some o)(hl:∀o,h.get? l=some o->h'.get? l=some o):nX h' i l k xs:=by
 rcases x with⟨⟨o,e,r⟩,⟨o',e',r'⟩⟩| ⟨⟨o,e,r⟩,⟨o',e',r'⟩⟩
 ·exact .inl ⟨⟨o,hi _ e,r⟩,⟨o',hl _ e',r'⟩⟩
 ·exact .inr ⟨⟨o,hi _ e,r⟩,⟨o',hl _ e',r'⟩⟩
end
section
variable{prog:Program}{w:World}{A:Around}{E:Value->Shared->Prop}{s:Shared}{i l:Addr}{k:Nat}{xs:Array Value}
theorem zy{x:Value}{Q:Value->Shared->Prop}(it:nX s.heap i l k xs)(hne:l≠i)(hx:xs[k]?=some x)(hQ:∀h',nX h' i l (k+1) xs->Heap.SameBut i s.heap h'->Q x { s with heap:=h' }) :
  wpAny (model prog w) A (Builtin.SmallTypes.nextOf (.ref i)) Q E s:=by
 rcases it with⟨h1,h2⟩| ⟨h1,h2⟩
 ·exact wpAny_nextOf_list_item h1 h2 hx λh' a b=>hQ h' (.inl ⟨a,h2.extBut b.extBut hne⟩) b
 ·exact xW h1 h2 hx λh' a b=>hQ h' (.inr ⟨a,h2.extBut b.extBut hne⟩) b
theorem oC{Q:Value->Shared->Prop}(hh:A.handled=none)(it:nX s.heap i l k xs)(hx:xs[k]?=none)
  (hE:∀h' e,Heap.ExtBut i s.heap h'->(∃o,h'.get? e=some o/\o.cls=.type "StopIteration")->E (.ref e) { s with heap:=h' }):wpAny (model prog w) A (Builtin.SmallTypes.nextOf (.ref i)) Q E s:=by
 rcases it with⟨h1,h2⟩| ⟨h1,h2⟩
 ·exact wpAny_nextOf_list_end hh h1 h2 hx hE
 ·exact rn hh h1 h2 hx hE
def xf(h:Heap)(l:Addr)(xs:Array Value):Prop:=h.IsList l xs\/h.IsTuple l xs
end
structure ZA(z p q i j l m:Addr):Prop where
 pz:p≠z
 qz:q≠z
 iz:i≠z
 jz:j≠z
 pq:p≠q
 pi:p≠i
 pj:p≠j
 qi:q≠i
 qj:q≠j
 ij:i≠j
 lz:l≠z
 lq:l≠q
 li:l≠i
 lj:l≠j
 mz:m≠z
 mq:m≠q
 mi:m≠i
 mj:m≠j
structure DO(h:Heap)(z p q i j l m:Addr)(f0:Value)(k:Nat)(xs ys:Array Value):Prop where
 zz:IsZip h z p q f0
 pp:IsPair h p (.ref i) (.ref j)
 qq:∃a b,IsPair h q a b
 ii:nX h i l k xs
 jj:nX h j m k ys
section
variable{prog:Program}{w:World}{A:Around}{E:Value->Shared->Prop}{s:Shared}{z p q i j l m:Addr}{k:Nat}{xs ys:Array Value}
theorem DN{x y:Value}{Q:Value->Shared->Prop}(D:ZA z p q i j l m)(S:DO s.heap z p q i j l m .none k xs ys)(hx:xs[k]?=some x)(hy:ys[k]?=some y)
  (hQ:∀h',DO h' z p q i j l m (rawInt s.heap.objs.size) (k+1) xs ys->IsPair h' s.heap.objs.size x y->(∀c o,c≠z->c≠q->c≠i->c≠j->s.heap.get? c=some o->h'.get? c=some o)->Q (.ref s.heap.objs.size) { s with heap:=h' }) :
  wpAny (model prog w) A (Builtin.«zip.__next__» ⟨[.ref z],[]⟩) (λfin s'=>∃v,fin=.done (.ret v)/\Q v s') E s:=by
 obtain⟨hz,hp,⟨a,b,hq⟩,hi,hj⟩:=S;show wpAny _ _ (field (Value.ref z) 2>>=_) _ _ _;refine Qb (wpAny_field hz rfl (x:=Value.bool false) rfl ?_);show wpAny _ _ (field (Value.ref z) 3>>=_) _ _ _;refine Qb (wpAny_field hz rfl (x:=Value.ref p) rfl ?_);refine Qb (wpAny_seqItems hp rfl ?_);show wpAny _ _ (Builtin.SmallTypes.ownedTupleIsFree (Value.ref z)>>=_) _ _ _;refine Qb ?_;unfold Builtin.SmallTypes.ownedTupleIsFree;refine Qb (wpAny_field hz rfl (x:=Value.none) rfl (Qg ?_));simp only[if_true];refine Qb (wpAny_rule ?_);refine Qb (wpAny_field hz rfl (x:=Value.ref q) rfl ?_);refine Qb (wpAny_setField_rec hz (by simp) λg1 z1 s1=>?_);replace z1:IsZip g1 z p q .ellipsis:=z1;refine Qb ?_;simp only[List.zipIdx_cons,List.zipIdx_nil,List.forIn_cons,List.forIn_nil];refine Qb (Qb (wpAny_onRaise ?_));show wpAny _ _ (Builtin.SmallTypes.nextOf (Value.ref i)>>=_) _ _ _;have hi1:nX g1 i l k xs:=hi.keep (λo e=>s1.extBut _ _ D.iz e) λo e=>s1.extBut _ _ D.lz e
 refine Qb (zy hi1 D.li hx λg2 i2 s2=>Qg ?_);have q2:IsPair g2 q a b:=s2.extBut _ _ D.qi (s1.extBut _ _ D.qz hq);refine Qb (wpAny_seqItems q2 rfl ?_);refine Qb (wpAny_updateSeq_pair q2 λg3 q3 s3=>?_);replace q3:IsPair g3 q x b:=q3;refine Qb (wpAny_letGo (Qg ?_));refine Qb (Qb (wpAny_onRaise ?_));show wpAny _ _ (Builtin.SmallTypes.nextOf (Value.ref j)>>=_) _ _ _;have hj3:nX g3 j m k ys:=hj.keep (λo e=>s3.extBut _ _ D.qj.symm (s2.extBut _ _ D.ij.symm (s1.extBut _ _ D.jz e))) λo e=>s3.extBut _ _ D.mq (s2.extBut _ _ D.mi (s1.extBut _ _ D.mz e))
 refine Qb (zy hj3 D.mj hy λg4 j4 s4=>Qg ?_);have q4:IsPair g4 q x b:=s4.extBut _ _ D.qj q3;refine Qb (wpAny_seqItems q4 rfl ?_);refine Qb (wpAny_updateSeq_pair q4 λg5 q5 s5=>?_);replace q5:IsPair g5 q x y:=q5;refine Qb (wpAny_letGo (Qg (Qg ?_)));refine Qb (wpAny_seqItems q5 rfl ?_);refine Qb (wpAny_newTuple ?_);have hsz:g5.objs.size=s.heap.objs.size:=by rw[s5.1,s4.1,s3.1,s2.1,s1.1]
 have z5:IsZip g5 z p q .ellipsis:=s5.extBut _ _ D.qz.symm (s4.extBut _ _ D.jz.symm (s3.extBut _ _ D.qz.symm (s2.extBut _ _ D.iz.symm z1)));have k5:∀c o,c≠z->c≠q->c≠i->c≠j->s.heap.get? c=some o->g5.get? c=some o:=λc o c1 c2 c3 c4 e=>s5.extBut _ _ c2 (s4.extBut _ _ c4 (s3.extBut _ _ c2 (s2.extBut _ _ c3 (s1.extBut _ _ c1 e))))
 have i5:nX g5 i l (k+1) xs:=i2.keep (λo e=>s5.extBut _ _ D.qi.symm (s4.extBut _ _ D.ij (s3.extBut _ _ D.qi.symm e))) λo e=>s5.extBut _ _ D.lq (s4.extBut _ _ D.lj (s3.extBut _ _ D.lq e))
 have j5:nX g5 j m (k+1) ys:=j4.keep (λo e=>s5.extBut _ _ D.qj.symm e) λo e=>s5.extBut _ _ D.mq e
 have zlt:z<g5.objs.size:=Heap.lt_size z5;show wpAny _ _ (Builtin.SmallTypes.ownedTupleHandOut (Value.ref z) (Value.ref g5.objs.size)>>=_) _ _ _;refine Qb ?_;unfold Builtin.SmallTypes.ownedTupleHandOut;have z6:IsZip (g5.push { cls:=.type "tuple",data:=.seq #[x,y] }) z p q .ellipsis:=Qe _ z5;refine Qb (wpAny_setField_rec z6 (by simp) λg7 z7 s7=>?_);replace z7:IsZip g7 z p q (rawInt g5.objs.size):=z7;refine wpAny_setField_rec z7 (by simp) λg8 z8 s8=>?_
 replace z8:IsZip g8 z p q (rawInt g5.objs.size):=z8;have up:∀c o,c≠z->g5.get? c=some o->g8.get? c=some o:=λc o c1 e=>s8.extBut _ _ c1 (s7.extBut _ _ c1 (Qe _ e))
 have t8:IsPair g8 g5.objs.size x y:=s8.extBut _ _ (Nat.ne_of_gt zlt) (s7.extBut _ _ (Nat.ne_of_gt zlt) (Heap.get?_push_size _ rfl));rw[hsz]at z8 t8;refine Qg ⟨_,rfl,?_⟩;show Q (.ref g5.objs.size) _;rw[hsz];exact hQ g8 ⟨z8,up _ _ D.pz (k5 _ _ D.pz D.pq D.pi D.pj hp),⟨x,y,up _ _ D.qz q5⟩,i5.keep (λo e=>up _ _ D.iz e) λo e=>up _ _ D.lz e,j5.keep (λo e=>up _ _ D.jz e) λo e=>up _ _ D.mz e⟩ t8 λc o c1 c2 c3 c4 e=>up c o c1 (k5 c o c1 c2 c3 c4 e)
theorem FL{Q:PySem.Fin->Shared->Prop}(hh:A.handled=none)(D:ZA z p q i j l m)(S:DO s.heap z p q i j l m .none k xs ys)(hend:xs[k]?=none\/ys[k]?=none)
  (hE:∀h' e,(∀c o,c≠z->c≠q->c≠i->c≠j->s.heap.get? c=some o->h'.get? c=some o)->(∃o,h'.get? e=some o/\o.cls=.type "StopIteration")->E (.ref e) { s with heap:=h' }) :
  wpAny (model prog w) A (Builtin.«zip.__next__» ⟨[.ref z],[]⟩) Q E s:=by
 obtain⟨hz,hp,⟨a,b,hq⟩,hi,hj⟩:=S;show wpAny _ _ (field (Value.ref z) 2>>=_) _ _ _;refine Qb (wpAny_field hz rfl (x:=Value.bool false) rfl ?_);show wpAny _ _ (field (Value.ref z) 3>>=_) _ _ _;refine Qb (wpAny_field hz rfl (x:=Value.ref p) rfl ?_);refine Qb (wpAny_seqItems hp rfl ?_);show wpAny _ _ (Builtin.SmallTypes.ownedTupleIsFree (Value.ref z)>>=_) _ _ _;refine Qb ?_;unfold Builtin.SmallTypes.ownedTupleIsFree;refine Qb (wpAny_field hz rfl (x:=Value.none) rfl (Qg ?_));simp only[if_true];refine Qb (wpAny_rule ?_);refine Qb (wpAny_field hz rfl (x:=Value.ref q) rfl ?_);refine Qb (wpAny_setField_rec hz (by simp) λg1 z1 s1=>?_);replace z1:IsZip g1 z p q .ellipsis:=z1;refine Qb ?_;simp only[List.zipIdx_cons,List.zipIdx_nil,List.forIn_cons,List.forIn_nil];refine Qb (Qb (wpAny_onRaise ?_));show wpAny _ _ (Builtin.SmallTypes.nextOf (Value.ref i)>>=_) _ _ _;have hi1:nX g1 i l k xs:=hi.keep (λo e=>s1.extBut _ _ D.iz e) λo e=>s1.extBut _ _ D.lz e
 cases hx:xs[k]? with
 |none=>
  refine Qb (oC hh hi1 hx λg2 e s2 he=>?_);obtain⟨oe,hoe,hce⟩:=he;have z2:IsZip g2 z p q .ellipsis:=s2 _ _ D.iz.symm z1;have hez:e≠z:=λt=>by subst t;rw[z2]at hoe;cases hoe;simp at hce
  exact wpAny_setField_rec z2 (by simp) λg3 _ s3=>hE g3 e (λc o c1 _ c3 _ t=>s3.extBut _ _ c1 (s2 _ _ c3 (s1.extBut _ _ c1 t))) ⟨oe,s3.extBut _ _ hez hoe,hce⟩
 |some x=>
  have hy:ys[k]?=none:=by rcases hend with t|t;rw[hx]at t;cases t;exact t
  refine Qb (zy hi1 D.li hx λg2 i2 s2=>Qg ?_);have q2:IsPair g2 q a b:=s2.extBut _ _ D.qi (s1.extBut _ _ D.qz hq);refine Qb (wpAny_seqItems q2 rfl ?_);refine Qb (wpAny_updateSeq_pair q2 λg3 q3 s3=>?_);refine Qb (wpAny_letGo (Qg ?_));refine Qb (Qb (wpAny_onRaise ?_));show wpAny _ _ (Builtin.SmallTypes.nextOf (Value.ref j)>>=_) _ _ _;have hj3:nX g3 j m k ys:=hj.keep (λo e=>s3.extBut _ _ D.qj.symm (s2.extBut _ _ D.ij.symm (s1.extBut _ _ D.jz e))) λo e=>s3.extBut _ _ D.mq (s2.extBut _ _ D.mi (s1.extBut _ _ D.mz e))
  refine Qb (oC hh hj3 hy λg4 e s4 he=>?_);obtain⟨oe,hoe,hce⟩:=he;have z4:IsZip g4 z p q .ellipsis:=s4 _ _ D.jz.symm (s3.extBut _ _ D.qz.symm (s2.extBut _ _ D.iz.symm z1));have hez:e≠z:=λt=>by subst t;rw[z4]at hoe;cases hoe;simp at hce
  exact wpAny_setField_rec z4 (by simp) λg5 _ s5=>hE g5 e (λc o c1 c2 c3 c4 t=>s5.extBut _ _ c1 (s4 _ _ c4 (s3.extBut _ _ c2 (s2.extBut _ _ c3 (s1.extBut _ _ c1 t))))) ⟨oe,s5.extBut _ _ hez hoe,hce⟩
theorem yB{x y:Value}{Q:Option Value->Shared->Prop}(D:ZA z p q i j l m)(S:DO s.heap z p q i j l m .none k xs ys)(hx:xs[k]?=some x)(hy:ys[k]?=some y)
  (hQ:∀h',DO h' z p q i j l m (rawInt s.heap.objs.size) (k+1) xs ys->IsPair h' s.heap.objs.size x y->(∀c o,c≠z->c≠q->c≠i->c≠j->s.heap.get? c=some o->h'.get? c=some o)->Q (some (.ref s.heap.objs.size)) { s with heap:=h' }) :
  wpAny (model prog w) A (pyNext (.ref z)) Q E s:=by
 have hT:s.TypeIs (.ref z) "zip" := ⟨_,S.zz,rfl⟩
 unfold pyNext;exact Qb (wpAny_attempt (wpAny_callSpecial?_slot (name:=Str.ofString "__next__") hT F.slot_zip_next (wpAny_call_entry F.slot_zip_next hT F.entry_zip_next (DN D S hx hy λh' a b c=>Qg (hQ h' a b c)) (F.args_zip_next_1 _))))
theorem Bi{Q:Option Value->Shared->Prop}(hh:A.handled=none)(D:ZA z p q i j l m)(S:DO s.heap z p q i j l m .none k xs ys)(hend:xs[k]?=none\/ys[k]?=none)
  (hQ:∀h',(∀c o,c≠z->c≠q->c≠i->c≠j->s.heap.get? c=some o->h'.get? c=some o)->Q none { s with heap:=h' }):wpAny (model prog w) A (pyNext (.ref z)) Q E s:=by
 have hT:s.TypeIs (.ref z) "zip" := ⟨_,S.zz,rfl⟩
 unfold pyNext;refine Qb (wpAny_attempt (wpAny_callSpecial?_slot (name:=Str.ofString "__next__") hT F.slot_zip_next (wpAny_call_entry F.slot_zip_next hT F.entry_zip_next (FL hh D S hend λh' e hk he=>?_) (F.args_zip_next_1 _))));obtain⟨o,ho,hc⟩:=he;exact Qb (wpAny_isInstance (T := "StopIteration") (b:=true) ⟨o,ho,hc⟩ isSubtype_stop (Qg (hQ _ hk)))
theorem FM(l m:Addr)(xs ys:Array Value):Meets (Builtin.«zip.__new__» ⟨[.type "zip",.ref l,.ref m],[]⟩) (λ_ R s=>xf s.heap l xs/\xf s.heap m ys /\
  ∀h',h'.objs.size=s.heap.objs.size+5->DO h' (s.heap.objs.size+4) (s.heap.objs.size+2) (s.heap.objs.size+3) s.heap.objs.size (s.heap.objs.size+1) l m .none 0 xs ys->(∀c o,s.heap.get? c=some o->h'.get? c=some o) ->
   R (.ok (.ret (.ref (s.heap.objs.size+4)))) { s with heap:=h' }):=
 .of_wp λprog w A R s h=>by
  obtain⟨hp,g,d,tk,os⟩:=s;obtain⟨h1,h2,h⟩:=h;have hsub:=sub_zip;have fin:∀(oi oj:Obj),nX (hp.push oi) hp.objs.size l 0 xs->nX ((hp.push oi).push oj) (hp.push oi).objs.size m 0 ys ->
    R (.ok (.ret (.ref ((((hp.push oi).push oj).push { cls:=.type "tuple",data:=.seq #[.ref hp.objs.size,.ref (hp.push oi).objs.size] }).push { cls:=.type "tuple",data:=.seq #[.none,.none] }).objs.size)))
     ⟨((((hp.push oi).push oj).push { cls:=.type "tuple",data:=.seq #[.ref hp.objs.size,.ref (hp.push oi).objs.size] }).push { cls:=.type "tuple",data:=.seq #[.none,.none] }).push { cls:=.type "zip",data:=.fields #[.none,.bool false,.bool false,.ref ((hp.push oi).push oj).objs.size,.ref (((hp.push oi).push oj).push { cls:=.type "tuple",data:=.seq #[.ref hp.objs.size,.ref (hp.push oi).objs.size] }).objs.size] },g,d,tk,os⟩:=λoi oj hi hj=>by
   have e1:(hp.push oi).objs.size=hp.objs.size+1:=Heap.size_push ..;have e2:((hp.push oi).push oj).objs.size=hp.objs.size+2:=by rw[Heap.size_push,e1]
   have e3:(((hp.push oi).push oj).push { cls:=.type "tuple",data:=.seq #[.ref hp.objs.size,.ref (hp.push oi).objs.size] }).objs.size=hp.objs.size+3:=by rw[Heap.size_push,e2]
   have e4:((((hp.push oi).push oj).push { cls:=.type "tuple",data:=.seq #[.ref hp.objs.size,.ref (hp.push oi).objs.size] }).push { cls:=.type "tuple",data:=.seq #[.none,.none] }).objs.size=hp.objs.size+4:=by rw[Heap.size_push,e3]
   rw[e4,e3,e2];rw[e1]at hj ⊢;have kk:∀(c:Addr) (o a b c':Obj),((hp.push oi).push oj).get? c=some o->(((((hp.push oi).push oj).push a).push b).push c').get? c=some o:=λc o a b c' e=>Qe _ (Qe _ (Qe _ e))
   refine h _ (by rw[Heap.size_push,Heap.size_push,Heap.size_push,e2]) ⟨?_,?_,⟨.none,.none,?_⟩,?_,?_⟩ λc o e=>kk _ _ _ _ _ (Qe _ (Qe _ e))
   ·have:hp.objs.size+4=((((hp.push oi).push oj).push { cls:=.type "tuple",data:=.seq #[.ref hp.objs.size,.ref (hp.objs.size+1)] }).push { cls:=.type "tuple",data:=.seq #[.none,.none] }).objs.size:=by rw[Heap.size_push,Heap.size_push,e2]
    show Heap.get? _ (hp.objs.size+4)=_;rw[this];exact Heap.get?_push_size _ rfl
   ·refine Qe _ (Qe _ ?_);show Heap.get? _ (hp.objs.size+2)=_;rw[<-e2];exact Heap.get?_push_size _ rfl
   ·refine Qe _ ?_;have:hp.objs.size+3=(((hp.push oi).push oj).push { cls:=.type "tuple",data:=.seq #[.ref hp.objs.size,.ref (hp.objs.size+1)] }).objs.size:=by rw[Heap.size_push,e2]
    show Heap.get? _ (hp.objs.size+3)=_;rw[this];exact Heap.get?_push_size _ rfl
   ·exact hi.keep (λo e=>kk _ _ _ _ _ (Qe _ e)) λo e=>kk _ _ _ _ _ (Qe _ e)
   ·exact hj.keep (λo e=>kk _ _ _ _ _ e) λo e=>kk _ _ _ _ _ e
  rcases h1 with h1|h1<;>rcases h2 with h2|h2
  ·have l1:Heap.IsList (Shared.heap ⟨hp,g,d,tk,os⟩) l xs:=h1;have l2:Heap.IsList (Shared.heap ⟨hp.push { cls:=.type "list_iterator",data:=.fields #[.ref l,.int 0 0] },g,d,tk,os⟩) m ys:=Heap.IsList.push h2 _
   wp_walk using wpAny_pyIter_list l1,wpAny_pyIter_list l2
   exact⟨_,rfl,fin _ _ (.inl ⟨⟨_,Heap.get?_push_size _ rfl,rfl,rfl⟩,Heap.IsList.push h1 _⟩) (.inl ⟨⟨_,Heap.get?_push_size _ rfl,rfl,rfl⟩,Heap.IsList.push l2 _⟩)⟩
  ·have l1:Heap.IsList (Shared.heap ⟨hp,g,d,tk,os⟩) l xs:=h1;have l2:Heap.IsTuple (Shared.heap ⟨hp.push { cls:=.type "list_iterator",data:=.fields #[.ref l,.int 0 0] },g,d,tk,os⟩) m ys:=Heap.IsTuple.push h2 _
   wp_walk using wpAny_pyIter_list l1,wpAny_pyIter_tuple l2
   exact⟨_,rfl,fin _ _ (.inl ⟨⟨_,Heap.get?_push_size _ rfl,rfl,rfl⟩,Heap.IsList.push h1 _⟩) (.inr ⟨⟨_,Heap.get?_push_size _ rfl,rfl,rfl⟩,Heap.IsTuple.push l2 _⟩)⟩
  ·have l1:Heap.IsTuple (Shared.heap ⟨hp,g,d,tk,os⟩) l xs:=h1;have l2:Heap.IsList (Shared.heap ⟨hp.push { cls:=.type "tuple_iterator",data:=.fields #[.ref l,.int 0 0] },g,d,tk,os⟩) m ys:=Heap.IsList.push h2 _
   wp_walk using wpAny_pyIter_tuple l1,wpAny_pyIter_list l2
   exact⟨_,rfl,fin _ _ (.inr ⟨⟨_,Heap.get?_push_size _ rfl,rfl,rfl⟩,Heap.IsTuple.push h1 _⟩) (.inl ⟨⟨_,Heap.get?_push_size _ rfl,rfl,rfl⟩,Heap.IsList.push l2 _⟩)⟩
  ·have l1:Heap.IsTuple (Shared.heap ⟨hp,g,d,tk,os⟩) l xs:=h1;have l2:Heap.IsTuple (Shared.heap ⟨hp.push { cls:=.type "tuple_iterator",data:=.fields #[.ref l,.int 0 0] },g,d,tk,os⟩) m ys:=Heap.IsTuple.push h2 _
   wp_walk using wpAny_pyIter_tuple l1,wpAny_pyIter_tuple l2
   exact⟨_,rfl,fin _ _ (.inr ⟨⟨_,Heap.get?_push_size _ rfl,rfl,rfl⟩,Heap.IsTuple.push h1 _⟩) (.inr ⟨⟨_,Heap.get?_push_size _ rfl,rfl,rfl⟩,Heap.IsTuple.push l2 _⟩)⟩
theorem BP{Q:Value->Shared->Prop}{l m:Addr}(h1:xf s.heap l xs)(h2:xf s.heap m ys)
  (h:∀h',h'.objs.size=s.heap.objs.size+5->DO h' (s.heap.objs.size+4) (s.heap.objs.size+2) (s.heap.objs.size+3) s.heap.objs.size (s.heap.objs.size+1) l m .none 0 xs ys->(∀c o,s.heap.get? c=some o->h'.get? c=some o) ->
   Q (.ref (s.heap.objs.size+4)) { s with heap:=h' }):wpAny (model prog w) A (call (.type "zip") [.ref l,.ref m]) Q E s:=by
 refine callType_new F.called_zip (by decide) (F.typeCall_zip_2 _ _) (F.newCall_zip_2 _ _) (λobj=>F.args_object_init_3 obj _ _) F.entry_zip_new (FM l m xs ys) ⟨h1,h2,λh' e S k=>?_⟩;exact⟨⟨_,S.zz,rfl⟩,h h' e S k⟩
end
section
variable{X:Cx}{pins:List (Addr×Obj)}{σ:St}{H:Hp}{s:Shared}{h':Heap}
theorem la{t':Nat}{fp:List Addr}(I:aT X pins σ H s)(k:∀b o,b∉fp->s.heap.get? b=some o->h'.get? b=some o)(hf:∀b∈fp,pJ X pins H b):aT X pins σ H { s with heap:=h',toks:=t' }:=by
 have away:∀b u,H b=some u->b∉fp:=λb u e z=>by rw[(hf b z).1]at e;cases e
 have frame:X.env.locals∉fp:=λz=>(hf _ z).2.1 rfl
 refine I.step (g':=s.gens) (d':=s.drawn) (ch:=fp) (λb hb=>⟨(hf b hb).2.2.2.1,(hf b hb).2.1,(hf b hb).2.2.2.2.1,(hf b hb).2.2.2.2.2⟩) (λb o _ _ hc e _=>k b o hc e) (λb o _ _ hc e _=>⟨o.slots,k b o hc e⟩) (λ_ _ _ _ n=>n)
  (λb o hc e=>⟨o,k b o hc e⟩) (λ_ _ e=>e) (λ_ _ _ e=>e) (λb ps e=>⟨#[],by rw[e];simp⟩) (λm ⟨o,es,ep,ho,r⟩=>⟨o,es,ep,k _ o frame ho,r⟩) (λb u e=>?_) I.bare
 refine(I.hok b u e).stay (λc v hc q=>k c v ?_ q) (λ_ q=>q) λ_ _ q=>q
 rcases hc with z|z
 ·rw[z];exact away b u e
 ·exact away c _ z
theorem CW{h:Heap}{o o':Obj}{b:Addr}(hb:b≠h.objs.size)(e:(h.push o).get? b=some o'):h.get? b=some o':=by
 unfold Heap.get? Heap.push at e;unfold Heap.get?;simp only[Array.getElem?_push]at e;rw[if_neg hb]at e;exact e
theorem zn{t':Nat}{fp:List Addr}{u1 u2:Value}{v1 v2:V}(I:aT X pins σ H s)(hf:∀b∈fp,pJ X pins H b)(hob:∀b∈fp,b<s.heap.objs.size)(ht:IsPair h' s.heap.objs.size u1 u2)(k:∀b o,b∉fp->s.heap.get? b=some o->h'.get? b=some o)
  (r1:cA v1 u1) (r2:cA v2 u2):aT X pins σ (dj H s.heap.objs.size (.tup [v1,v2])) { s with heap:=h',toks:=t' }:=by
 have I1:aT X pins σ (dj H s.heap.objs.size (.tup [v1,v2])) { s with heap:=s.heap.push { cls:=.type "tuple",data:=.seq #[u1,u2] },toks:=s.toks }:=
  I.laid (λb u e=>Qe _ e) (Nat.le_refl _) ⟨by show 2<=sizeLine;decide,[u1,u2],.cons r1 (.cons r2 .nil),_,Heap.get?_push_size _ rfl,rfl,⟨_,rfl⟩,rfl⟩
 refine la (fp:=fp) (s:={ s with heap:=s.heap.push { cls:=.type "tuple",data:=.seq #[u1,u2] },toks:=s.toks }) I1 (λb o hb e=>?_) λb hb=>?_
 ·by_cases hz:b=s.heap.objs.size
  ·subst hz;have e':(s.heap.push { cls:=.type "tuple",data:=.seq #[u1,u2] }).get? s.heap.objs.size=some o:=e;rw[Heap.get?_push_size _ rfl]at e';cases e';exact ht
  ·exact k b o hb (CW hz e)
 ·obtain⟨f0,f1,f2,f3,f4,f5⟩:=hf b hb;exact⟨by rw[aD (Nat.ne_of_lt (hob b hb))];exact f0,f1,f2,f3,f4,f5⟩
end
def vz(K:PySem.W.Frag)(H:Hp)(a:Addr)(xs:List V):Bool->Prop
 |true=>jQ K H a xs
 |false=>pX K H a xs
def ik(h:Heap)(i l:Addr)(k:Nat):Bool->Prop
 |true=>h.IsTupleIter i l k
 |false=>h.IsListIter i l k
theorem ik.keep{h h':Heap}{i l:Addr}{k:Nat}{b:Bool}(x:ik h i l k b)(hi:∀o,h.get? i=some o->h'.get? i=some o):ik h' i l k b:=by
 cases b
 ·obtain⟨o,e,r⟩:=x;exact⟨o,hi _ e,r⟩
 ·obtain⟨o,e,r⟩:=x;exact⟨o,hi _ e,r⟩
theorem ik.there{h:Heap}{i l:Addr}{k:Nat}{b:Bool}(x:ik h i l k b):∃o,h.get? i=some o/\∀v,o.data≠.cell v:=by
 cases b
 ·obtain⟨o,e,c,d⟩:=x;exact⟨o,e,λv z=>by rw[d]at z;cases z⟩
 ·obtain⟨o,e,c,d⟩:=x;exact⟨o,e,λv z=>by rw[d]at z;cases z⟩
section
variable{X:Cx}{pins:List (Addr×Obj)}{σ:St}{H:Hp}{s:Shared}
theorem j6{a:Addr}{xs:List V}{b:Bool}(I:aT X pins σ H s)(h:vz X.K H a xs b):∃its:List Value,bO xs its/\xf s.heap a its.toArray/\∀(i:Addr) (k:Nat),ik s.heap i a k b->nX s.heap i a k its.toArray:=by
 cases b
 ·obtain⟨its,rv,p,_⟩:=I.list h;exact⟨its,rv,.inl p.isList,λi k z=>.inl ⟨z,p.isList⟩⟩
 ·obtain⟨its,rv,p,_⟩:=I.tuple h;exact⟨its,rv,.inr p,λi k z=>.inr ⟨z,p⟩⟩
theorem mo{a:Addr}{xs ys:List V}{b:Bool}(I:aT X pins σ H s)(h:vz X.K H a xs b)(h':vz X.K H a ys b):ys=xs:=by
 cases b
 ·exact I.list_inj h' h
 ·exact I.tuple_inj h' h
theorem nX.toB{h:Heap}{i l:Addr}{k:Nat}{xs:Array Value}{b:Bool}(hl:∀ys,(b=true->¬h.IsList l ys)/\(b=false->¬h.IsTuple l ys))(x:nX h i l k xs):ik h i l k b:=by
 cases b
 ·rcases x with⟨z,w⟩| ⟨z,w⟩
  ·exact z
  ·exact absurd w ((hl xs).2 rfl)
 ·rcases x with⟨z,w⟩| ⟨z,w⟩
  ·exact absurd w ((hl xs).1 rfl)
  ·exact z
theorem fP{h:Heap}{l:Addr}{xs ys:Array Value}(a:h.IsList l xs)(b:h.IsTuple l ys):False:=by
 obtain⟨o,e,c,_⟩:=a;obtain⟨o',e',c',_⟩:=b;rw[e]at e';cases e';rw[c]at c';injection c' with z
 exact absurd z (by decide)
theorem qV{a:Addr}{xs:List V}{b:Bool}(I:aT X pins σ H s)(h:vz X.K H a xs b){h':Heap}(kp:∀c o,s.heap.get? c=some o->h'.get? c=some o):∀ys,(b=true->¬h'.IsList a ys)/\(b=false->¬h'.IsTuple a ys):=λys=>by
 cases b
 ·obtain⟨its,rv,p,_⟩:=I.list h;refine⟨λz=>(by cases z),λ_ w=>?_⟩;obtain⟨o,e,r⟩:=p.isList;exact fP (h:=h') (xs:=its.toArray) ⟨o,kp _ _ e,r⟩ w
 ·obtain⟨its,rv,p,_⟩:=I.tuple h;refine⟨λ_ w=>?_,λz=>by cases z⟩;obtain⟨o,e,r⟩:=p;exact fP (h:=h') w ⟨o,kp _ _ e,r⟩
end
def Ku(K:PySem.W.Frag)(l m:Addr)(b c:Bool):It:=
 ⟨λi H=>∃xs ys x y,vz K H l xs b/\vz K H m ys c/\xs[i]?=some x/\ys[i]?=some y,λi H v H'=>∃a x y,H a=none/\v=.ref a/\H'=dj H a (.tup [x,y])/\(∀xs,vz K H l xs b->xs[i]?=some x)/\∀ys,vz K H m ys c->ys[i]?=some y,λi H=>∃xs ys,vz K H l xs b/\vz K H m ys c/\(xs.length<=i\/ys.length<=i)⟩
structure LL(z p q i j l m:Addr)(b c:Bool)(k:Nat)(h:Heap):Prop where
 zz:IsZip h z p q .none
 pp:IsPair h p (.ref i) (.ref j)
 qq:∃a b,IsPair h q a b
 ii:ik h i l k b
 jj:ik h j m k c
theorem DC{P:Program}{w:World}{K:PySem.W.Frag}{elts:List Expr}{x1}{pos:Pos}{z p q i j l m:Addr}{b c:Bool}(D:ZA z p q i j l m):uo P w K (.Tuple elts x1 pos) (Ku K l m b c) [z,p,q,i,j] z (LL z p q i j l m b c) where
 mem:=by simp
 obj:=λk h st a ha=>by
  simp only[List.mem_cons,List.not_mem_nil,or_false]at ha;rcases ha with rfl|rfl|rfl|rfl|rfl
  ·exact⟨_,st.zz,λv e=>by cases e⟩
  ·exact⟨_,st.pp,λv e=>by cases e⟩
  ·obtain⟨_,_,e⟩:=st.qq;exact⟨_,e,λv e=>by cases e⟩
  ·exact st.ii.there
  ·exact st.jj.there
 keep:=λk h h' st kp=>⟨kp z (by simp) _ st.zz,kp p (by simp) _ st.pp,let ⟨a,b,e⟩:=st.qq;⟨a,b,kp q (by simp) _ e⟩,st.ii.keep λo e=>kp i (by simp) o e,st.jj.keep λo e=>kp j (by simp) o e⟩
 item:=by
  intro X hP hw hK hc k pins s σ H E I hf st hg;subst hP hw hK;obtain⟨xs,ys,x,y,h1,h2,hx,hy⟩:=hg;obtain⟨its,rv,_,p1⟩:=j6 I h1;obtain⟨jts,rw',_,p2⟩:=j6 I h2;obtain⟨u,hu,ru⟩:=rv.get hx;obtain⟨v,hv,ry⟩:=rw'.get hy;have S:DO s.heap z p q i j l m .none k its.toArray jts.toArray:=⟨st.zz,st.pp,st.qq,p1 _ _ st.ii,p2 _ _ st.jj⟩
  refine yB D S (x:=u) (y:=v) (by simpa using hu) (by simpa using hv) λh' S' hp kp=>⟨_,rfl,?_⟩
  have zlt:z<s.heap.objs.size:=Heap.lt_size st.zz;refine wpAny_letOwnedTupleGo_zip (s:={ s with heap:=h' }) S'.zz λh2' hz2 sb=>?_
  have up:∀a o,a≠z->h'.get? a=some o->h2'.get? a=some o:=λa o ha e=>sb.extBut a o ha e
  have hob:∀a∈[z,p,q,i,j],a<s.heap.objs.size:=λa ha=>by
   simp only[List.mem_cons,List.not_mem_nil,or_false]at ha;rcases ha with rfl|rfl|rfl|rfl|rfl
   ·exact Heap.lt_size st.zz
   ·exact Heap.lt_size st.pp
   ·obtain⟨_,_,e⟩:=st.qq;exact Heap.lt_size e
   ·obtain⟨o,e,_⟩:=st.ii.there;exact Heap.lt_size e
   ·obtain⟨o,e,_⟩:=st.jj.there;exact Heap.lt_size e
  have hn:H s.heap.objs.size=none:=I.hok.fresh (Nat.le_refl _);refine⟨.ref s.heap.objs.size,_,zn (s:=s) (t':=s.toks) (fp:=[z,p,q,i,j]) (h':=h2') (u1:=u) (u2:=v) (v1:=x) (v2:=y) I hf hob (up _ _ (Nat.ne_of_gt zlt) hp) (λa o ha e=>?_) ru ry,rfl,⟨_,x,y,hn,rfl,rfl,λzs hz=>by rw[mo I h1 hz];exact hx,λzs hz=>by rw[mo I h2 hz];exact hy⟩,?_,λa ha=>?_⟩
  ·simp only[List.mem_cons,List.not_mem_nil,or_false,not_or]at ha;exact up a o ha.1 (kp a o ha.1 ha.2.2.1 ha.2.2.2.1 ha.2.2.2.2 e)
  ·have i2:ik h' i l (k+1) b:=by
    refine S'.ii.toB λys=>?_
    cases hb:b
    ·subst hb;refine⟨λz=>(by cases z),λ_ w=>?_⟩;obtain⟨_,_,pl,_⟩:=I.list h1;obtain⟨o,e,r⟩:=pl.isList;exact fP (h:=h') (xs:=_) ⟨o,kp _ _ D.lz D.lq D.li D.lj e,r⟩ w
    ·subst hb;refine⟨λ_ w=>?_,λz=>by cases z⟩;obtain⟨_,_,pl,_⟩:=I.tuple h1;obtain⟨o,e,r⟩:=pl;exact fP (h:=h') w ⟨o,kp _ _ D.lz D.lq D.li D.lj e,r⟩
   have j2:ik h' j m (k+1) c:=by
    refine S'.jj.toB λys=>?_
    cases hb:c
    ·subst hb;refine⟨λz=>(by cases z),λ_ w=>?_⟩;obtain⟨_,_,pl,_⟩:=I.list h2;obtain⟨o,e,r⟩:=pl.isList;exact fP (h:=h') (xs:=_) ⟨o,kp _ _ D.mz D.mq D.mi D.mj e,r⟩ w
    ·subst hb;refine⟨λ_ w=>?_,λz=>by cases z⟩;obtain⟨_,_,pl,_⟩:=I.tuple h2;obtain⟨o,e,r⟩:=pl;exact fP (h:=h') w ⟨o,kp _ _ D.mz D.mq D.mi D.mj e,r⟩
   exact⟨hz2,up _ _ D.pz S'.pp,let ⟨a,b,e⟩:=S'.qq;⟨a,b,up _ _ D.qz e⟩,i2.keep λo e=>up _ _ D.iz e,j2.keep λo e=>up _ _ D.jz e⟩
  ·rw[aD (Nat.ne_of_lt (hob a ha))];exact(hf a ha).1
 done:=by
  intro X hP hw hK hc k pins s σ H E I hf st hg;subst hP hw hK;obtain⟨xs,ys,h1,h2,hl⟩:=hg;obtain⟨its,rv,_,p1⟩:=j6 I h1;obtain⟨jts,rw',_,p2⟩:=j6 I h2;have S:DO s.heap z p q i j l m .none k its.toArray jts.toArray:=⟨st.zz,st.pp,st.qq,p1 _ _ st.ii,p2 _ _ st.jj⟩
  have e1:=rv.length;have e2:=rw'.length;refine Bi (I.ok.hd hc) D S ?_ λh' kp=>⟨rfl,la (t':=s.toks) (fp:=[z,p,q,i,j]) I (λa o ha e=>?_) hf⟩
  ·rcases hl with hl|hl
   ·left;simp;omega
   ·right;simp;omega
  ·simp only[List.mem_cons,List.not_mem_nil,or_false,not_or]at ha;exact kp a o ha.1 ha.2.2.1 ha.2.2.2.1 ha.2.2.2.2 e
 self:=λ_ _ _ _ _ st h=>wpAny_pyIter_zip st.zz h
def D7(H:Hp)(a:Addr)(ds:List Qa):Bool->Prop
 |true=>∃vs,H a=some (.tup vs)/\bI H ds vs
 |false=>∃o vs,H a=some (.frz o (.lst vs))/\bI H ds vs
theorem D7.sq{K:PySem.W.Frag}{H:Hp}{a:Addr}{ds:List Qa}{b:Bool}(h:D7 H a ds b):∃vs,vz K H a vs b/\bI H ds vs:=by
 cases b
 ·obtain⟨o,vs,e,r⟩:=h;exact⟨vs,.inl (.inr ⟨o,e⟩),r⟩
 ·obtain⟨vs,e,r⟩:=h;exact⟨vs,jQ.of e,r⟩
theorem D7.kp{H H':Hp}{a:Addr}{ds:List Qa}{b:Bool}(h:D7 H a ds b)(k:Kp H H'):D7 H' a ds b:=by
 cases b
 ·obtain⟨o,vs,e,r⟩:=h;exact⟨o,vs,k.2 _ _ _ e,bI.kp k _ _ r⟩
 ·obtain⟨vs,e,r⟩:=h;exact⟨vs,k.1 _ _ e,bI.kp k _ _ r⟩
def Ji(p:Qa×Qa):Qa:=.tuple [p.1,p.2]
def pV(xs ys:List Qa):List Qa:=(xs.zip ys).map Ji
theorem DM{xs ys:List Qa}{i:Nat}{d:Qa}(h:(pV xs ys)[i]?=some d):∃x y,xs[i]?=some x/\ys[i]?=some y/\d=.tuple [x,y]:=by
 unfold pV at h;rw[List.getElem?_map]at h;cases e:(xs.zip ys)[i]? with
 |none=>rw[e]at h;cases h
 |some p=>
  rw[e]at h;obtain⟨h1,h2⟩:=List.getElem?_zip_eq_some.mp e;exact⟨p.1,p.2,h1,h2,(Option.some.inj h).symm⟩
theorem rR(xs ys:List Qa):(pV xs ys).length=min xs.length ys.length:=by unfold pV;simp
theorem EL{K:PySem.W.Frag}{l m:Addr}{b c:Bool}{xs ys:List Qa}:Bq (Ku K l m b c) (λH=>D7 H l xs b/\D7 H m ys c) (pV xs ys) where
 go:=λi H ⟨h1,h2⟩ hi=>by
  rw[rR]at hi;obtain⟨vs,s1,r1⟩:=h1.sq (K:=K);obtain⟨us,s2,r2⟩:=h2.sq (K:=K);obtain⟨x,hx,_⟩:=r1.get (List.getElem?_eq_getElem (show i<xs.length by omega));obtain⟨y,hy,_⟩:=r2.get (List.getElem?_eq_getElem (show i<ys.length by omega));exact⟨vs,us,x,y,s1,s2,hx,hy⟩
 yld:=λi H v H' d ⟨h1,h2⟩ hd h=>by
  obtain⟨a,x,y,ha,rfl,rfl,k1,k2⟩:=h;obtain⟨vs,s1,r1⟩:=h1.sq (K:=K);obtain⟨us,s2,r2⟩:=h2.sq (K:=K);obtain⟨dx,dy,e1,e2,rfl⟩:=DM hd;obtain⟨x',hx,px⟩:=r1.get e1;obtain⟨y',hy,py⟩:=r2.get e2;have q1:=k1 vs s1;have q2:=k2 us s2;rw[hx]at q1;rw[hy]at q2;cases q1;cases q2;exact⟨cQ ha _,fQ ha (bI.cons px (bI.cons py bI.nil))⟩
 stop:=λi H ⟨h1,h2⟩ hi=>by
  rw[rR]at hi;obtain⟨vs,s1,r1⟩:=h1.sq (K:=K);obtain⟨us,s2,r2⟩:=h2.sq (K:=K);have l1:=r1.length;have l2:=r2.length;exact⟨vs,us,s1,s2,by omega⟩
theorem H9{n l m:Nat}(hl:l<n)(hm:m<n):ZA (n+4) (n+2) (n+3) n (n+1) l m:=by
 refine⟨?_,?_,?_,?_,?_,?_,?_,?_,?_,?_,?_,?_,?_,?_,?_,?_,?_,?_⟩<;>(intro z;have z':(_:Nat)=_:=z;omega)
section
variable{X:Cx}{elts:List Expr}{x1:Nat}{tp:Pos}{a b:Expr}{fa fb:Fe}{pos p:Pos}{nl:Nat}{G:List Str}{fs:aV->R (List Qa)}
def LS(K:PySem.W.Frag)(ta:TA):TI:=λσ H R=>ta σ H λvs H1=>∃l m xs ys b c,vs=[.ref l,.ref m]/\vz K H1 l xs b/\vz K H1 m ys c/\R (Ku K l m b c) H1
theorem Hx{ta:TA}(hg:Gl X "zip")(hm:X.mg "zip" = none)(ha:PA X [a,b] ta)(hs:starEach [a,b] X.env=[(false,eval a X.env),(false,eval b X.env)])(hs2:starEach [b] X.env=[(false,eval b X.env)]) :
  PI X (.Tuple elts x1 tp) (.Call (.Name "zip" p) [a,b] [] pos) (LS X.K ta):=by
 intro pins s σ H R I h;refine Call_ (j8 I hg hm boot_zip (PyProof.Rows.callWith_type1 (eR (ha pos pins s σ H _ I h) λus s1 ⟨vs,H1,I1,r1,q1⟩=>?_) (by rw[hs,hs2]) (by rw[hs2];rfl)));obtain⟨l,m,xs,ys,b,c,e,h1,h2,q⟩:=q1;subst e;obtain⟨u,v,rfl,ru,rv⟩:=wJ r1;cases ru;cases rv;obtain⟨its,w1,p1,g1⟩:=j6 I1 h1;obtain⟨jts,w2,p2,g2⟩:=j6 I1 h2;have ll:l<s1.heap.objs.size:=by rcases p1 with⟨o,e,_⟩| ⟨o,e,_⟩<;>exact Heap.lt_size e
 have lm:m<s1.heap.objs.size:=by rcases p2 with⟨o,e,_⟩| ⟨o,e,_⟩<;>exact Heap.lt_size e
 refine BP p1 p2 λh' hz S kp=>wpAny_pyIter_zip S.zz ?_
 have D:=H9 ll lm;have I2:aT X pins σ H1 { s1 with heap:=h' }:=I1.kept (t':=s1.toks) kp;have i2:ik h' s1.heap.objs.size l 0 b:=S.ii.toB (qV I1 h1 kp);have j2:ik h' (s1.heap.objs.size+1) m 0 c:=S.jj.toB (qV I1 h2 kp);refine⟨_,[s1.heap.objs.size+4,s1.heap.objs.size+2,s1.heap.objs.size+3,s1.heap.objs.size,s1.heap.objs.size+1],_,_,H1,rfl,I2,DC (b:=b) (c:=c) D,⟨S.zz,S.pp,S.qq,i2,j2⟩,λa ha=>?_,q⟩;have hle:s1.heap.objs.size<=a:=by
  simp only[List.mem_cons,List.not_mem_nil,or_false]at ha;rcases ha with rfl|rfl|rfl|rfl|rfl
  ·exact Nat.le_add_right _ 4
  ·exact Nat.le_add_right _ 2
  ·exact Nat.le_add_right _ 3
  ·exact Nat.le_refl _
  ·exact Nat.le_add_right _ 1
 exact I1.fpOk hle (I1.hok.fresh hle)
def EG(fa fb:Fe):aV->R (List Qa):=λρ=>fa ρ>>=λx=>fb ρ>>=λy=>km x>>=λxs=>km y>>=λys=>.ok (pV xs ys)
theorem yk{H:Hp}{d:Qa}{v:V}{ds:List Qa}(h:Rp H d v)(e:km d=.ok ds):∃a b,v=.ref a/\D7 H a ds b:=by
 cases d with
 |list xs=>
  cases e;simp only[Rp]at h;obtain⟨a,o,vs,rfl,h,r⟩:=h;exact⟨a,false,rfl,o,vs,h,r⟩
 |tuple xs=>
  cases e;simp only[Rp]at h;obtain⟨a,vs,rfl,h,r⟩:=h;exact⟨a,true,rfl,vs,h,r⟩
 | _=>cases e
theorem Bv(T:Tb X nl G)(j:Nat)(hG:G[j]?=some ("zip" : Str))(hm:X.mg "zip" = none)(ha:Z.dA X a fa)(hb:Z.dA X b fb)(h1:bn a=true:=by rfl)(h2:bn b=true:=by rfl):Z.vm X (.Tuple elts x1 tp) (.Call (.Name "zip" p) [a,b] [] pos) (EG fa fb):=⟨have ha:=ha.un;have hb:=hb.un;by
 have g:=T.gl _ (List.mem_of_getElem? hG);refine PI.imp (Hx g.1 hm (jX ha (jX hb oo h2) h1) (by rw[bC h1,bC h2];rfl) (by rw[bC h2];rfl)) λσ H Rk h=>?_
 obtain⟨ρ,sl,q⟩:=h;unfold EG at q;refine⟨ρ,sl,?_⟩;unfold ai az;cases e1:fa ρ with
 |ex c=>rw[e1]at q;exact q
 |no=>rw[e1]at q;exact q
 |ok x=>
  rw[e1]at q;simp only[R.ok_bind]at q ⊢;cases e2:fb ρ with
  |ex c=>rw[e2]at q;exact q
  |no=>rw[e2]at q;exact q
  |ok y=>
   rw[e2]at q;simp only[R.ok_bind]at q ⊢;cases e3:km x with
   |ex c=>exact absurd e3 (by cases x<;>simp[km])
   |no=>rw[e3]at q;exact q.elim
   |ok xs=>
    rw[e3]at q;simp only[R.ok_bind]at q;cases e4:km y with
    |ex c=>exact absurd e4 (by cases y<;>simp[km])
    |no=>rw[e4]at q;exact q.elim
    |ok ys=>
     rw[e4]at q;simp only[R.ok_bind]at q;intro vs H1 s1 ra;simp only[RA]at ra;obtain⟨v,r',rfl,p1,v',r'',rfl,p2,rfl⟩:=ra;obtain⟨l,b1,rfl,d1⟩:=yk p1 e3;obtain⟨m,b2,rfl,d2⟩:=yk p2 e4;obtain⟨us,u1,_⟩:=d1.sq (K:=X.K);obtain⟨ws,u2,_⟩:=d2.sq (K:=X.K);exact⟨l,m,us,ws,b1,b2,rfl,u1,u2,q _ H1 s1 ⟨_,EL,λH2 k _=>⟨d1.kp k,d2.kp k⟩⟩⟩⟩
end
def fT(i j:Nat):Qa->aV->Option aV
 |.tuple [x,y],ρ=>some ((ρ.set i (.val x)).set j (.val y))
 | _,_=>none
section
variable{X:Cx}{nl:Nat}{G:List Str}{x y:Str}{k:Nat}{p1 p2 pos:Pos}
theorem iC(T:Tb X nl G)(i j:Nat)(hi:(X.N.take nl)[i]?=some x)(hj:(X.N.take nl)[j]?=some y):Z.wZ X (.Tuple [.Name x p1,.Name y p2] k pos) (fT i j):=⟨by
 obtain⟨i1,i2,i3⟩:=T.nm hi;obtain⟨j1,j2,j3⟩:=T.nm hj;refine PG.imp (Hw T.calm (wr (uU T.nd i1 i2 i3) (wr (uU T.nd j1 j2 j3) Fa))) λv σ H Q zq0=>?_
 obtain⟨ρ,d,sl,p,q⟩:=zq0;unfold fT at q;split at q
 ·rename_i e;split at e
  ·rename_i ρ0 dx dy;cases e;simp only[Rp]at p;obtain⟨a,vs,rfl,ha,r⟩:=p;obtain⟨u,r1,rfl,pu,r⟩:=r.cons_inv;obtain⟨w,r2,rfl,pw,r⟩:=r.cons_inv;rw[r.nil_inv]at ha;refine⟨a,[u,w],rfl,jQ.of ha,rfl,u,[w],rfl,w,[],rfl,rfl,?_⟩;refine q _ (Sl.set (c:=.val dy) (o:=some w) (Sl.set (c:=.val dx) (o:=some u) sl i ⟨u,rfl,pu⟩) j ⟨w,rfl,pw⟩) λn e h=>?_
   obtain⟨n1,h⟩:=eK (λe z=>by cases z) h;obtain⟨n2,h⟩:=eK (λe z=>by cases z) h;exact⟨h,by rw[List.getElem?_set,if_neg n1,List.getElem?_set,if_neg n2]⟩
  ·cases e
 ·exact q.elim⟩
end
theorem jr{own:Nat}{fr:List Nat}{i j:Nat}(hi:i<own)(hj:j<own):∀ρ d ρ1,fT i j d (aB own fr ρ)=some ρ1->pI (aB own fr ρ) ρ1:=λρ d ρ1 e=>by
 unfold fT at e;split at e
 ·rename_i x y _;cases e;refine⟨by rw[List.length_set,List.length_set],λn c hn=>?_⟩;have at_own:n<own->c=.non:=λh=>by
   unfold aB at hn;rw[List.getElem?_append_left (by simpa using h),List.getElem?_replicate,if_pos h]at hn;exact(Option.some.inj hn).symm
  by_cases h1:j=n
  ·exact .inl (at_own (by omega))
  ·by_cases h2:i=n
   ·exact .inl (at_own (by omega))
   ·exact .inr (by rw[List.getElem?_set,if_neg h1,List.getElem?_set,if_neg h2];exact hn)
 ·cases e
open AutoSeq1 (wpAny_loadPart')
abbrev lQ(h:Heap)(e i:Addr)(k:Int)(f0 old:Value):Prop:=h.get? e=some { cls:=.type "enumerate",dict:=none,data:=.fields #[f0,.bool false,.ref i,rawInt k,.none,old],slots:=#[] }
section
variable{prog:Program}{w:World}{A:Around}{E:Value->Shared->Prop}{s:Shared}{e i l:Addr}{k:Nat}{xs:Array Value}
theorem AB{x old:Value}{Q:Value->Shared->Prop}(he:lQ s.heap e i k .none old)(it:nX s.heap i l k xs)(hli:l≠i)(hle:l≠e)(hei:e≠i)(hx:xs[k]?=some x)
  (hQ:∀h' old',lQ h' e i ((k:Int)+1) (rawInt s.heap.objs.size) old'->nX h' i l (k+1) xs->IsPair h' s.heap.objs.size (.int k s.toks) x->(∀c o,c≠e->c≠i->s.heap.get? c=some o->h'.get? c=some o)->Q (.ref s.heap.objs.size) { s with heap:=h',toks:=s.toks+1 }) :
  wpAny (model prog w) A (Builtin.«enumerate.__next__» ⟨[.ref e],[]⟩) (λfin s'=>∃v,fin=.done (.ret v)/\Q v s') E s:=by
 obtain⟨hp,g,d,tk,os⟩:=s;show wpAny _ _ (field (Value.ref e) 2>>=_) _ _ _;refine Qb (wpAny_field he rfl (x:=Value.ref i) rfl ?_);refine Qb (zy it hli hx λg1 i1 s1=>?_);replace s1:Heap.SameBut i hp g1:=s1;have e1:lQ g1 e i k .none old:=(s1.2 e hei).trans he;show wpAny _ _ (field (Value.ref e) 3>>=_) _ _ (Shared.mk g1 g d tk os);refine Qb (wpAny_field e1 rfl (x:=rawInt (k:Int)) rfl ?_);show wpAny _ _ (field (Value.ref e) 4>>=_) _ _ (Shared.mk g1 g d tk os);refine Qb (wpAny_field e1 rfl (x:=Value.none) rfl ?_);show wpAny _ _ (mkInt (k:Int)>>=_) _ _ (Shared.mk g1 g d tk os);refine Qb (wpAny_mkInt ?_);show wpAny _ _ (setField (Value.ref e) 3 (rawInt ((k:Int)+1))>>=_) _ _ (Shared.mk g1 g d (tk+1) os);refine Qb (wpAny_setField_rec e1 (by simp) λg2 e2 s2=>?_);replace s2:Heap.SameBut e g1 g2:=s2;replace e2:lQ g2 e i ((k:Int)+1) .none old:=e2;show wpAny _ _ (setField (Value.ref e) 4 Value.none>>=_) _ _ (Shared.mk g2 g d (tk+1) os);refine Qb (wpAny_setField_rec e2 (by simp) λg3 e3 s3=>?_);replace s3:Heap.SameBut e g2 g3:=s3;replace e3:lQ g3 e i ((k:Int)+1) .none old:=e3;show wpAny _ _ (newTuple [Value.int k tk,x]>>=_) _ _ (Shared.mk g3 g d (tk+1) os);refine Qb (wpAny_newTuple ?_);have hsz:g3.objs.size=hp.objs.size:=by rw[s3.1,s2.1,s1.1]
 have elt:e<g3.objs.size:=Heap.lt_size e3;have e4:lQ (g3.push { cls:=.type "tuple",data:=.seq #[.int k tk,x] }) e i ((k:Int)+1) .none old:=Qe _ e3;have t4:IsPair (g3.push { cls:=.type "tuple",data:=.seq #[.int k tk,x] }) g3.objs.size (.int k tk) x:=Heap.get?_push_size _ rfl;have i3:nX g3 i l (k+1) xs:=i1.keep (λo q=>s3.extBut _ _ hei.symm (s2.extBut _ _ hei.symm q)) λo q=>s3.extBut _ _ hle (s2.extBut _ _ hle q)
 have k3:∀c o,c≠e->c≠i->hp.get? c=some o->g3.get? c=some o:=λc o c1 c2 q=>s3.extBut _ _ c1 (s2.extBut _ _ c1 (s1.extBut _ _ c2 q))
 show wpAny _ _ (Builtin.SmallTypes.ownedTupleIsFree (Value.ref e)>>=_) _ _ (Shared.mk (g3.push { cls:=.type "tuple",data:=.seq #[.int k tk,x] }) g d (tk+1) os);refine Qb ?_;unfold Builtin.SmallTypes.ownedTupleIsFree;refine Qb (wpAny_field e4 rfl (x:=Value.none) rfl (Qg ?_));simp only[if_true];refine Qb (wpAny_rule ?_);refine Qb (wpAny_field e4 rfl (x:=old) rfl ?_);refine Qb (wpAny_setField_rec e4 (by simp) λg5 e5 s5=>?_);replace s5:Heap.SameBut e (g3.push { cls:=.type "tuple",data:=.seq #[.int k tk,x] }) g5:=s5;replace e5:lQ g5 e i ((k:Int)+1) .none x:=e5;show wpAny _ _ (Builtin.SmallTypes.ownedTupleHandOut (Value.ref e) (Value.ref g3.objs.size)>>=_) _ _ (Shared.mk g5 g d (tk+1) os);refine Qb ?_;unfold Builtin.SmallTypes.ownedTupleHandOut;refine Qb (wpAny_setField_rec e5 (by simp) λg6 e6 s6=>?_);replace s6:Heap.SameBut e g5 g6:=s6;replace e6:lQ g6 e i ((k:Int)+1) (rawInt g3.objs.size) x:=e6;refine wpAny_setField_rec e6 (by simp) λg7 e7 s7=>?_
 replace s7:Heap.SameBut e g6 g7:=s7;replace e7:lQ g7 e i ((k:Int)+1) (rawInt g3.objs.size) x:=e7;have up:∀c o,c≠e->g3.get? c=some o->g7.get? c=some o:=λc o c1 q=>s7.extBut _ _ c1 (s6.extBut _ _ c1 (s5.extBut _ _ c1 (Qe _ q)))
 have t7:IsPair g7 g3.objs.size (.int k tk) x:=s7.extBut _ _ (Nat.ne_of_gt elt) (s6.extBut _ _ (Nat.ne_of_gt elt) (s5.extBut _ _ (Nat.ne_of_gt elt) t4));rw[hsz]at e7 t7;refine Qb (wpAny_letGo (Qg ⟨_,rfl,?_⟩));show Q (.ref g3.objs.size) _;rw[hsz];exact hQ g7 x e7 (i3.keep (λo q=>up _ _ hei.symm q) λo q=>up _ _ hle q) t7 λc o c1 c2 q=>up c o c1 (k3 c o c1 c2 q)
theorem AC{x old:Value}{Q:Option Value->Shared->Prop}(he:lQ s.heap e i k .none old)(it:nX s.heap i l k xs)(hli:l≠i)(hle:l≠e)(hei:e≠i)(hx:xs[k]?=some x)
  (hQ:∀h' old',lQ h' e i ((k:Int)+1) (rawInt s.heap.objs.size) old'->nX h' i l (k+1) xs->IsPair h' s.heap.objs.size (.int k s.toks) x->(∀c o,c≠e->c≠i->s.heap.get? c=some o->h'.get? c=some o)->Q (some (.ref s.heap.objs.size)) { s with heap:=h',toks:=s.toks+1 }) :
  wpAny (model prog w) A (pyNext (.ref e)) Q E s:=by
 have hT:s.TypeIs (.ref e) "enumerate" := ⟨_,he,rfl⟩
 unfold pyNext;exact Qb (wpAny_attempt (wpAny_callSpecial?_slot (name:=Str.ofString "__next__") hT F.slot_enumerate_next (wpAny_call_entry F.slot_enumerate_next hT F.entry_enumerate_next (AB he it hli hle hei hx λh' o a b c d=>Qg (hQ h' o a b c d)) (F.args_enumerate_next_1 _))))
theorem B2{old:Value}{Q:Option Value->Shared->Prop}(hh:A.handled=none)(he:lQ s.heap e i k .none old)(it:nX s.heap i l k xs)(hx:xs[k]?=none)(hQ:∀h',(∀c o,c≠i->s.heap.get? c=some o->h'.get? c=some o)->Q none { s with heap:=h' }) :
  wpAny (model prog w) A (pyNext (.ref e)) Q E s:=by
 have hT:s.TypeIs (.ref e) "enumerate" := ⟨_,he,rfl⟩
 unfold pyNext;refine Qb (wpAny_attempt (wpAny_callSpecial?_slot (name:=Str.ofString "__next__") hT F.slot_enumerate_next (wpAny_call_entry F.slot_enumerate_next hT F.entry_enumerate_next ?_ (F.args_enumerate_next_1 _))));show wpAny _ _ (field (Value.ref e) 2>>=_) _ _ _;refine Qb (wpAny_field he rfl (x:=Value.ref i) rfl ?_);refine Qb (oC hh it hx λh' x k1 zq0=>?_);obtain⟨o,ho,hc⟩:=zq0;exact Qb (wpAny_isInstance (T := "StopIteration") (b:=true) ⟨o,ho,hc⟩ isSubtype_stop (Qg (hQ _ λc o c1 q=>k1 c o c1 q)))
theorem B3(l:Addr)(xs:Array Value):Meets (Builtin.«enumerate.__new__» ⟨[.type "enumerate",.ref l],[]⟩) (λ_ R s=>xf s.heap l xs /\
  ∀h',lQ h' (s.heap.objs.size+1) s.heap.objs.size 0 .none .none->nX h' s.heap.objs.size l 0 xs->(∀c o,s.heap.get? c=some o->h'.get? c=some o)->R (.ok (.ret (.ref (s.heap.objs.size+1)))) { s with heap:=h' }):=
 .of_wp λprog w A R s h=>by
  obtain⟨hp,g,d,tk,os⟩:=s;obtain⟨h1,h⟩:=h;have hsub:=sub_enumerate;have fin:∀oi:Obj,nX (hp.push oi) hp.objs.size l 0 xs->R (.ok (.ret (.ref (hp.push oi).objs.size))) ⟨(hp.push oi).push { cls:=.type "enumerate",data:=.fields #[.none,.bool false,.ref hp.objs.size,rawInt 0,.none,.none] },g,d,tk,os⟩:=λoi hi=>by
   have e1:(hp.push oi).objs.size=hp.objs.size+1:=Heap.size_push ..;rw[e1];refine h _ ?_ (hi.keep (λo q=>Qe _ q) λo q=>Qe _ q) λc o q=>Qe _ (Qe _ q)
   show Heap.get? _ (hp.objs.size+1)=_;rw[<-e1];exact Heap.get?_push_size _ rfl
  rcases h1 with h1|h1
  ·have l1:Heap.IsList (Shared.heap ⟨hp,g,d,tk,os⟩) l xs:=h1;obtain⟨o,ho,_,_,_⟩:=id h1;have ho':(Shared.heap ⟨hp,g,d,tk,os⟩).get? l=some o:=ho
   wp_walk using wpAny_loadPart' ho'
   refine wpAny_stack_any λst=>Qg ?_
   split
   ·rename_i c _ _ _ _ _;cases(c==Value.type "enumerate")
    ·wp_walk using wpAny_loadPart' ho',wpAny_pyIter_list l1
     exact⟨_,rfl,fin _ (.inl ⟨⟨_,Heap.get?_push_size _ rfl,rfl,rfl⟩,Heap.IsList.push h1 _⟩)⟩
    ·wp_walk using wpAny_loadPart' ho',wpAny_pyIter_list l1
     exact⟨_,rfl,fin _ (.inl ⟨⟨_,Heap.get?_push_size _ rfl,rfl,rfl⟩,Heap.IsList.push h1 _⟩)⟩
   ·wp_walk using wpAny_loadPart' ho',wpAny_pyIter_list l1
    exact⟨_,rfl,fin _ (.inl ⟨⟨_,Heap.get?_push_size _ rfl,rfl,rfl⟩,Heap.IsList.push h1 _⟩)⟩
  ·have l1:Heap.IsTuple (Shared.heap ⟨hp,g,d,tk,os⟩) l xs:=h1;obtain⟨o,ho,_,_,_⟩:=id h1;have ho':(Shared.heap ⟨hp,g,d,tk,os⟩).get? l=some o:=ho
   wp_walk using wpAny_loadPart' ho'
   refine wpAny_stack_any λst=>Qg ?_
   split
   ·rename_i c _ _ _ _ _;cases(c==Value.type "enumerate")
    ·wp_walk using wpAny_loadPart' ho',wpAny_pyIter_tuple l1
     exact⟨_,rfl,fin _ (.inr ⟨⟨_,Heap.get?_push_size _ rfl,rfl,rfl⟩,Heap.IsTuple.push h1 _⟩)⟩
    ·wp_walk using wpAny_loadPart' ho',wpAny_pyIter_tuple l1
     exact⟨_,rfl,fin _ (.inr ⟨⟨_,Heap.get?_push_size _ rfl,rfl,rfl⟩,Heap.IsTuple.push h1 _⟩)⟩
   ·wp_walk using wpAny_loadPart' ho',wpAny_pyIter_tuple l1
    exact⟨_,rfl,fin _ (.inr ⟨⟨_,Heap.get?_push_size _ rfl,rfl,rfl⟩,Heap.IsTuple.push h1 _⟩)⟩
theorem Ar{Q:Value->Shared->Prop}{l:Addr}(h1:xf s.heap l xs)
  (h:∀h',lQ h' (s.heap.objs.size+1) s.heap.objs.size 0 .none .none->nX h' s.heap.objs.size l 0 xs->(∀c o,s.heap.get? c=some o->h'.get? c=some o)->Q (.ref (s.heap.objs.size+1)) { s with heap:=h' }) :
  wpAny (model prog w) A (call (.type "enumerate") [.ref l]) Q E s:=by
 refine callType_new F.called_enumerate (by decide) (F.typeCall_enumerate_1 _) (F.newCall_enumerate_1 _) (λobj=>F.args_object_init_2 obj _) F.entry_enumerate_new (B3 l xs) ⟨h1,λh' e S k=>?_⟩;exact⟨⟨_,e,rfl⟩,h h' e S k⟩
end
end D2
namespace D2
open PySem PySem.Spec PyProof.Rows L2
def Kt(K:PySem.W.Frag)(l:Addr)(b:Bool):It:=
 ⟨λi H=>∃xs x,vz K H l xs b/\xs[i]?=some x,λi H v H'=>∃a x,H a=none/\v=.ref a/\H'=dj H a (.tup [.int i,x])/\∀xs,vz K H l xs b->xs[i]?=some x,λi H=>∃xs,vz K H l xs b/\xs.length<=i⟩
structure LH(e i l:Addr)(b:Bool)(k:Nat)(h:Heap):Prop where
 ee:∃old,lQ h e i k .none old
 ii:ik h i l k b
theorem Bf{P:Program}{w:World}{K:PySem.W.Frag}{elts:List Expr}{x1}{pos:Pos}{e i l:Addr}{b:Bool}(hei:e≠i)(hle:l≠e)(hli:l≠i):uo P w K (.Tuple elts x1 pos) (Kt K l b) [e,i] e (LH e i l b) where
 mem:=by simp
 obj:=λk h st a ha=>by
  simp only[List.mem_cons,List.not_mem_nil,or_false]at ha;rcases ha with rfl|rfl
  ·obtain⟨_,q⟩:=st.ee;exact⟨_,q,λv e=>by cases e⟩
  ·exact st.ii.there
 keep:=λk h h' st kp=>⟨let ⟨o,q⟩:=st.ee;⟨o,kp e (by simp) _ q⟩,st.ii.keep λo q=>kp i (by simp) o q⟩
 item:=by
  intro X hP hw hK hc k pins s σ H E I hf st hg;subst hP hw hK;obtain⟨xs,x,h1,hx⟩:=hg;obtain⟨its,rv,_,p1⟩:=j6 I h1;obtain⟨u,hu,ru⟩:=rv.get hx;obtain⟨old,he⟩:=st.ee;refine AC he (p1 _ _ st.ii) hli hle hei (x:=u) (by simpa using hu) λh' old' e' i' hp kp=>⟨_,rfl,?_⟩
  have elt:e<s.heap.objs.size:=Heap.lt_size he;have hob:∀a∈[e,i],a<s.heap.objs.size:=λa ha=>by
   simp only[List.mem_cons,List.not_mem_nil,or_false]at ha;rcases ha with rfl|rfl
   ·exact elt
   ·obtain⟨o,q,_⟩:=st.ii.there;exact Heap.lt_size q
  have hn:H s.heap.objs.size=none:=I.hok.fresh (Nat.le_refl _);refine wpAny_letOwnedTupleGo_enum (s:={ s with heap:=h',toks:=s.toks+1 }) e' λh2' e2 sb=>?_
  have up:∀a o,a≠e->h'.get? a=some o->h2'.get? a=some o:=λa o ha q=>sb.extBut a o ha q
  refine⟨.ref s.heap.objs.size,_,zn (s:=s) (t':=s.toks+1) (fp:=[e,i]) (h':=h2') (u1:=.int k s.toks) (u2:=u) (v1:=.int k) (v2:=x) I hf hob (up _ _ (Nat.ne_of_gt elt) hp) (λa o ha q=>?_) ⟨_,rfl⟩ ru,rfl,⟨_,x,hn,rfl,rfl,λzs hz=>by rw[mo I h1 hz];exact hx⟩,?_,λa ha=>?_⟩
  ·simp only[List.mem_cons,List.not_mem_nil,or_false,not_or]at ha;exact up a o ha.1 (kp a o ha.1 ha.2 q)
  ·have i2:ik h' i l (k+1) b:=by
    refine i'.toB λys=>?_
    cases hb:b
    ·subst hb;refine⟨λz=>(by cases z),λ_ w=>?_⟩;obtain⟨_,_,pl,_⟩:=I.list h1;obtain⟨o,q,r⟩:=pl.isList;exact fP (h:=h') (xs:=_) ⟨o,kp _ _ hle hli q,r⟩ w
    ·subst hb;refine⟨λ_ w=>?_,λz=>by cases z⟩;obtain⟨_,_,pl,_⟩:=I.tuple h1;obtain⟨o,q,r⟩:=pl;exact fP (h:=h') w ⟨o,kp _ _ hle hli q,r⟩
   exact⟨⟨_,by have q:lQ h2' e i ((k:Int)+1) .none old':=e2;simpa using q⟩,i2.keep λo q=>up _ _ hei.symm q⟩
  ·rw[aD (Nat.ne_of_lt (hob a ha))];exact(hf a ha).1
 done:=by
  intro X hP hw hK hc k pins s σ H E I hf st hg;subst hP hw hK;obtain⟨xs,h1,hl⟩:=hg;obtain⟨its,rv,_,p1⟩:=j6 I h1;obtain⟨old,he⟩:=st.ee;have e1:=rv.length;refine B2 (I.ok.hd hc) he (p1 _ _ st.ii) (by simp;omega) λh' kp=>⟨rfl,la (t':=s.toks) (fp:=[e,i]) I (λa o ha q=>?_) hf⟩
  simp only[List.mem_cons,List.not_mem_nil,or_false,not_or]at ha;exact kp a o ha.2 q
 self:=λ_ _ _ _ _ st h=>let ⟨_,q⟩:=st.ee;wpAny_pyIter_enum q h
def dR:Nat->List Qa->List Qa
 | _,[]=>[]
 |k,d::ds=>.tuple [.int k,d]::dR (k+1) ds
theorem iD:∀(k:Nat) (ds:List Qa),(dR k ds).length=ds.length
 | _,[]=>rfl
 |k,d::ds=>by unfold dR;rw[List.length_cons,List.length_cons,iD]
theorem sT:∀{k:Nat} {ds:List Qa} {i:Nat} {d:Qa},(dR k ds)[i]?=some d->∃x,ds[i]?=some x/\d=.tuple [.int ((k+i:Nat):Int),x]
 |k,[],i,d,h=>by unfold dR at h;simp at h
 |k,x::ds,0,d,h=>by
  unfold dR at h;simp at h;exact⟨x,rfl,by rw[<-h];simp⟩
 |k,x::ds,i+1,d,h=>by
  unfold dR at h;rw[List.getElem?_cons_succ]at h;obtain⟨y,h1,h2⟩:=sT h;refine⟨y,by simpa using h1,?_⟩;rw[h2];have:k+1+i=k+(i+1):=by omega
  rw[this]
theorem Cg{K:PySem.W.Frag}{l:Addr}{b:Bool}{xs:List Qa}:Bq (Kt K l b) (λH=>D7 H l xs b) (dR 0 xs) where
 go:=λi H h1 hi=>by
  rw[iD]at hi;obtain⟨vs,s1,r1⟩:=h1.sq (K:=K);obtain⟨x,hx,_⟩:=r1.get (List.getElem?_eq_getElem hi);exact⟨vs,x,s1,hx⟩
 yld:=λi H v H' d h1 hd h=>by
  obtain⟨a,x,ha,rfl,rfl,k1⟩:=h;obtain⟨vs,s1,r1⟩:=h1.sq (K:=K);obtain⟨dx,e1,rfl⟩:=sT hd;obtain⟨x',hx,px⟩:=r1.get e1;have q1:=k1 vs s1;rw[hx]at q1;cases q1;refine⟨cQ ha _,fQ ha (bI.cons ?_ (bI.cons px bI.nil))⟩;rw[Nat.zero_add];exact fF
 stop:=λi H h1 hi=>by
  rw[iD]at hi;obtain⟨vs,s1,r1⟩:=h1.sq (K:=K);have l1:=r1.length;exact⟨vs,s1,by omega⟩
section
variable{X:Cx}{elts:List Expr}{x1:Nat}{tp:Pos}{a b:Expr}{fa fb:Fe}{pos p:Pos}{nl:Nat}{G:List Str}{fs:aV->R (List Qa)}
def LQ(K:PySem.W.Frag)(ta:TA):TI:=λσ H R=>ta σ H λvs H1=>∃l xs b,vs=[.ref l]/\vz K H1 l xs b/\R (Kt K l b) H1
theorem Fc{ta:TA}(hg:Gl X "enumerate")(hm:X.mg "enumerate" = none)(ha:PA X [a] ta)(hs:starEach [a] X.env=[(false,eval a X.env)]):PI X (.Tuple elts x1 tp) (.Call (.Name "enumerate" p) [a] [] pos) (LQ X.K ta):=by
 intro pins s σ H R I h;refine Call_ (j8 I hg hm boot_enumerate (PyProof.Rows.callWith_type1 (eR (ha pos pins s σ H _ I h) λus s1 zq0=>?_) hs rfl));obtain⟨vs,H1,I1,r1,q1⟩:=zq0;obtain⟨l,xs,b,e,h1,q⟩:=q1;subst e;obtain⟨u,rfl,ru⟩:=iY r1;cases ru;obtain⟨its,w1,p1,g1⟩:=j6 I1 h1;have ll:l<s1.heap.objs.size:=by rcases p1 with⟨o,e,_⟩| ⟨o,e,_⟩<;>exact Heap.lt_size e
 refine Ar p1 λh' hz S kp=>wpAny_pyIter_enum hz ?_
 have I2:aT X pins σ H1 { s1 with heap:=h' }:=I1.kept (t':=s1.toks) kp;have i2:ik h' s1.heap.objs.size l 0 b:=S.toB (qV I1 h1 kp);refine⟨_,[s1.heap.objs.size+1,s1.heap.objs.size],_,_,H1,rfl,I2,Bf (b:=b) (Nat.ne_of_gt (Nat.lt_succ_self _)) (Nat.ne_of_lt (Nat.lt_succ_of_lt ll)) (Nat.ne_of_lt ll),⟨⟨_,hz⟩,i2⟩,λa ha=>?_,q⟩;have hle:s1.heap.objs.size<=a:=by
  simp only[List.mem_cons,List.not_mem_nil,or_false]at ha;rcases ha with rfl|rfl
  ·exact Nat.le_add_right _ 1
  ·exact Nat.le_refl _
 exact I1.fpOk hle (I1.hok.fresh hle)
def o5(fa:Fe):aV->R (List Qa):=λρ=>fa ρ>>=λx=>km x>>=λxs=>.ok (dR 0 xs)
theorem ly(T:Tb X nl G)(j:Nat)(hG:G[j]?=some ("enumerate" : Str))(hm:X.mg "enumerate" = none)(ha:Z.dA X a fa)(h1:bn a=true:=by rfl):Z.vm X (.Tuple elts x1 tp) (.Call (.Name "enumerate" p) [a] [] pos) (o5 fa):=⟨have ha:=ha.un;by
 have g:=T.gl _ (List.mem_of_getElem? hG);refine PI.imp (Fc g.1 hm (jX ha oo h1) (by rw[bC h1];rfl)) λσ H Rk h=>?_
 obtain⟨ρ,sl,q⟩:=h;unfold o5 at q;refine⟨ρ,sl,?_⟩;unfold ai az;cases e1:fa ρ with
 |ex c=>rw[e1]at q;exact q
 |no=>rw[e1]at q;exact q
 |ok x=>
  rw[e1]at q;simp only[R.ok_bind]at q ⊢;cases e3:km x with
  |ex c=>exact absurd e3 (by cases x<;>simp[km])
  |no=>rw[e3]at q;exact q.elim
  |ok xs=>
   rw[e3]at q;simp only[R.ok_bind]at q;intro vs H1 s1 ra;simp only[RA]at ra;obtain⟨v,r',rfl,p1,rfl⟩:=ra;obtain⟨l,b1,rfl,d1⟩:=yk p1 e3;obtain⟨us,u1,_⟩:=d1.sq (K:=X.K);exact⟨l,us,b1,rfl,u1,q _ H1 s1 ⟨_,Cg,λH2 k _=>d1.kp k⟩⟩⟩
end
def DL:List Qa->List Qa->List Qa->List Qa
 |x::xs,y::ys,z::zs=>.tuple [x,y,z]::DL xs ys zs
 | _,_,_=>[]
section
variable{X:Cx}{elts:List Expr}{x1:Nat}{tp:Pos}{a b c:Expr}{fa fb fc:Fe}{pos p:Pos}{nl:Nat}{G:List Str}{fs:aV->R (List Qa)}
def yu:Qa->R (List Qa)
 |.tuple ds=>.ok ds
 | _=>.no
def IY(fa fb fc:Fe):aV->R (List Qa):=λρ=>fa ρ>>=λx=>fb ρ>>=λy=>fc ρ>>=λz=>yu x>>=λxs=>yu y>>=λys=>yu z>>=λzs=>.ok (DL xs ys zs)
end
section
variable{X:Cx}{nl:Nat}{G:List Str}{x:Str}{e:Expr}{f:Fe}{q1 q2 q3 q4:Pos}
theorem kP(T:Tb X nl G)(n:Nat)(hN:X.N[n]?=some x)(he:Z.dA X e f)(hst:bn e=true:=by rfl)(hline:(q2.endLine==q3.line)=true:=by rfl)(hs:swapsWith (.Call (.Attribute (.Name x q1) "append" q2) [e] [] q3) none q4.line X.env=pure false:=by rfl)(hbase:attributeBase (.Name x q1) "append" X.env (eval (.Name x q1) X.env)=eval (.Name x q1) X.env:=by rfl):Z.kG X (.Expr (.Call (.Attribute (.Name x q1) "append" q2) [e] [] q3) q4) (gX n f):=⟨have he:=he.un;λFm=>by
 have hm:=T.vis x (List.mem_of_getElem? hN);have sc:starEach [e] X.env=(false,eval e X.env)::starEach [] X.env:=bC hst;refine PS.imp (zO (FZ PySem.F.plainAttrs_list PySem.F.slot_list_append PySem.F.type_list_append tq (jg hN hm.1 hm.2.1 hm.2.2) (jX he oo hst) hbase (by rw[sc];rfl) hline sc rfl) hs) λD σ H h=>?_
 obtain⟨ρ,sl,q⟩:=h;unfold gX at q;cases ef:f ρ with
 |ex c=>rw[ef]at q;exact q.elim
 |no=>rw[ef]at q;exact q.elim
 |ok d=>
  rw[ef]at q;simp only[jG,R.ok_bind]at q;cases er:ρ[n]? with
  |none=>rw[er]at q;exact q.elim
  |some c=>
   rw[er]at q;cases c with
   |non=>exact q.elim
   |exc p=>exact q.elim
   |val d'=>exact q.elim
   |own d'=>
    cases d' with
    |list ds=>
     dsimp only at q;by_cases hz:ds.length<sizeLine
     ·rw[if_pos hz]at q;obtain⟨o,h2,w',rfl,p2⟩:=sl.sl.at er;simp only[iB]at p2;obtain⟨a',vs,rfl,ha,r⟩:=p2;refine⟨.ref a',h2,.inl ⟨rfl,_,pX.of ha⟩,ρ,sl.sl,?_⟩;unfold ai az;rw[ef];intro us H1 s1 ra;simp only[RA]at ra;obtain⟨v,r',rfl,p1,rfl⟩:=ra;have ha1:=s1 _ _ ha;refine⟨a',vs,v,rfl,rfl,ha1,by rw[r.length];exact hz,q _ _ ((sl.mono s1).change er h2 ha1 (.inl ⟨_,rfl⟩) ?_)⟩;simp only[iB];exact⟨a',_,rfl,bh,bI.kp (gA ha1 (.inl ⟨_,rfl⟩)) _ _ (bI.append (r.mono s1) (bI.cons p1 bI.nil))⟩
     ·rw[if_neg hz]at q;exact q.elim
    | _=>exact q.elim⟩
end
def gk(g:Fs):Fs:=λρ=>jG (g ρ)
theorem Tb.nox{X:Cx}{nl:Nat}{G:List Str}(T:Tb X nl G):Tb X.nox nl G:=⟨T.hu,T.calm,T.nd,T.vis,T.loc,T.gl⟩
section
variable{X:Cx}{nl:Nat}{G:List Str}{st:Stmt}{g:Fs}{pos:Pos}
theorem bX(h:Z.kG X.nox st g):Z.kG X st (gk g):=⟨have h:=h.un;λFm=>by
 intro pins s σ H D I ⟨ρ,sl,q⟩;refine wpAny_mono (h Fm pins s σ H D (I.wish _) ⟨ρ,sl,?_⟩) (λ_ _ q=>q.unwish) λ_ _ z=>False.elim z
 unfold gk at q;cases e:g ρ with
 |ok o=>
  rw[e]at q;cases o<;>exact q
 |ex c=>rw[e]at q;exact q.elim
 |no=>rw[e]at q;exact q.elim⟩
def e9(t:aV->R Bool)(g:Fs):Nat->Fs
 | 0,_=>.no
 |n+1,ρ=>t ρ>>=λb=>if b=true then g ρ>>=λo=>(match o with
   |.nx ρ2=>e9 t g n ρ2
   |.ct ρ2=>e9 t g n ρ2
   |.bk ρ2=>.ok (.nx ρ2)
   |.rt r=>.ok (.rt r))else .ok (.nx ρ)
def u0(n:Nat)(t:aV->R Bool)(g:Fs):Fs:=e9 t g n
theorem l8{c:Expr}{body:List Stmt}{t:aV->R Bool}(n:Nat)(hp:PassesOwn (model X.prog X.w) X.A X.env X.xe)(ht:Z.pH X c t)(hb:Z.nY X body g):Z.kG X (.While c body [] pos) (u0 n t g):=⟨have ht:=ht.un;have hb:=hb.un;λFm=>by
 refine PS.imp (CV hp ht (hb Fm)) λD σ H ⟨ρ,sl,q⟩=>⟨λm σ' H'=>∃ρ',iN Fm H' σ' ρ'/\Dc X Fm (e9 t g m ρ') D,⟨n,ρ,sl,q⟩,λm σ1 H1 zq0=>?_⟩
 obtain⟨ρ1,sl1,q1⟩:=zq0;cases m with
 |zero=>exact q1.elim
 |succ k=>
  have q2:F5 X Fm (λρ=>t ρ>>=λb=>if b=true then g ρ>>=λo=>(match o with
   |.nx ρ2=>e9 t g k ρ2
   |.ct ρ2=>e9 t g k ρ2
   |.bk ρ2=>.ok (.nx ρ2)
   |.rt r=>.ok (.rt r))else .ok (.nx ρ)) D σ1 H1:=⟨ρ1,sl1,q1⟩
  refine(yP (f:=t) (k:=λρ b=>if b=true then g ρ>>=λo=>(match o with
   |.nx ρ2=>e9 t g k ρ2
   |.ct ρ2=>e9 t g k ρ2
   |.bk ρ2=>.ok (.nx ρ2)
   |.rt r=>.ok (.rt r))else .ok (.nx ρ)) q2).post λb H2 ⟨ρ2,sl2,_,q3⟩=>?_
  cases b with
  |false=>exact q3 σ1 H2 sl2
  |true=>
   have q4:Dc X Fm (g ρ2>>=λo=>(match o with
   |.nx ρ2=>e9 t g k ρ2
   |.ct ρ2=>e9 t g k ρ2
   |.bk ρ2=>.ok (.nx ρ2)
   |.rt r=>.ok (.rt r))) D:=q3
   show if true=true then _ else _
   rw[if_pos rfl];refine⟨λσ' H'=>∃ρ',iN Fm H' σ' ρ'/\Dc X Fm (e9 t g k ρ') D,λσ' H' z=>⟨k,Nat.lt_succ_self k,z⟩,ρ2,sl2,?_⟩;cases eg:g ρ2 with
   |ex c=>rw[eg]at q4;exact q4
   |no=>rw[eg]at q4;exact q4
   |ok o=>
    rw[eg]at q4;cases o with
    |nx ρ4=>exact λσ' H' s'=>⟨ρ4,s',q4⟩
    |ct ρ4=>exact λσ' H' s'=>⟨ρ4,s',q4⟩
    |bk ρ4=>exact q4
    |rt r=>exact q4⟩
end
abbrev xn:List Value:=[.type "ValueError",.type "Exception",.type "BaseException",.type "object"]
abbrev xJ:String := "ValueError.__new__"
section
variable{K:PySem.W.Frag}{h:Heap}{C:Addr}
inductive sG(h:Heap)(C:Addr)(bm:List Value):Prop
 |mk (N nm q bs hdct sn sub ab col dd k0 k1 k2 k3 k5 mN) (e:h.get? C=some (excClassObj nm q C N bs bm hdct sn sub ab col dd k0 k1 k2 k3 k5 xJ)) (n:h.Ns N mN) (i:mN "__init__" = none) (t:OwnTail h xn bm)
theorem sG.keep{h':Heap}{bm:List Value}(c:sG h C bm)(k:∀b o,h.get? b=some o->h'.get? b=some o):sG h' C bm:=
 let ⟨N,nm,q,bs,hdct,sn,sub,ab,col,dd,k0,k1,k2,k3,k5,mN,hC,hN,hni,T⟩:=c
 ⟨N,nm,q,bs,hdct,sn,sub,ab,col,dd,k0,k1,k2,k3,k5,mN,k _ _ hC,hN.keeps k,hni,T.keeps k⟩
def kT(K:PySem.W.Frag)(C:Addr):List Value:=match K.lookup C with
 |some ⟨_,_,.cls cd,_⟩=>cd.mro.drop 1
 | _=>[]
theorem Er{p:Prop}[Decidable p]{f:p->Bool}(hn:¬p)(h:dite p f (λ_=>false)=true):False:=by
 rw[dif_neg hn]at h;cases h
inductive Lx(mro:List Value)(sl:List (Option Value))(f:Addr->List Value->Option Value->Option Value->Option Value->Option Value->String->Option Value->Bool):Prop
 |mk (C':Addr) (bm:List Value) (k0 k1 k2 k3:Option Value) (n:String) (k5:Option Value) (e1:mro=.ref C'::bm) (e2:sl=[k0,k1,k2,k3,some (.builtin n),k5]) (q:f C' bm k0 k1 k2 k3 n k5=true)
theorem GN{sl:List (Option Value)}{C':Addr}{bm:List Value}{f:Addr->List Value->Option Value->Option Value->Option Value->Option Value->String->Option Value->Bool}(q:PySem.W.excIn.match_1 (λ_ _=>Bool) (.ref C'::bm) sl f (λ_ _=>false)=true):Lx (.ref C'::bm) sl f:=by
 rcases sl with _| ⟨k0,_| ⟨k1,_| ⟨k2,_| ⟨k3,_| ⟨k4,sl⟩⟩⟩⟩⟩
 ·exact Bool.noConfusion q
 ·exact Bool.noConfusion q
 ·exact Bool.noConfusion q
 ·exact Bool.noConfusion q
 ·exact Bool.noConfusion q
 cases k4 with
 |none=>exact Bool.noConfusion q
 |some k4=>
  cases k4 with
  |builtin n=>
   rcases sl with _| ⟨k5,_| ⟨k6,sl⟩⟩
   ·exact Bool.noConfusion q
   ·exact⟨C',bm,k0,k1,k2,k3,n,k5,rfl,rfl,q⟩
   ·exact Bool.noConfusion q
  | _=>exact Bool.noConfusion q
theorem EA{mro:List Value}{sl:List (Option Value)}{f:Addr->List Value->Option Value->Option Value->Option Value->Option Value->String->Option Value->Bool}(q:PySem.W.excIn.match_1 (λ_ _=>Bool) mro sl f (λ_ _=>false)=true):Lx mro sl f:=by
 cases mro with
 |nil=>exact Bool.noConfusion q
 |cons c0 bm=>
  cases c0 with
  |ref C'=>exact GN q
  | _=>exact Bool.noConfusion q
inductive LI(ob:Obj)(g:Option Addr->ClassData->Array (Option Value)->Bool):Prop
 |mk (dd:Option Addr) (cd:ClassData) (sl:Array (Option Value)) (e:ob=⟨.type "type",dd,.cls cd,sl⟩) (q:g dd cd sl=true)
theorem EB{ob:Obj}{g:Option Addr->ClassData->Array (Option Value)->Bool}(q:PySem.W.excIn.match_6 (λ_=>Bool) (some ob) g (λ_=>false)=true):LI ob g:=by
 obtain⟨cls,dd,data,sl⟩:=ob;cases cls with
 |type ty=>
  by_cases e:ty = "type"
  ·subst e;cases data with
   |cls cd=>exact⟨dd,cd,sl,rfl,q⟩
   | _=>exact Bool.noConfusion q
  ·exfalso;unfold PySem.W.excIn.match_6 at q;exact Er e q
 | _=>exact Bool.noConfusion q
theorem qC(X:K.In h)(q:PySem.W.excIn K C xn xJ=true):sG h C (kT K C):=by
 unfold PySem.W.excIn at q;unfold kT;cases hk:K.lookup C with
 |none=>rw[hk]at q;cases q
 |some ob=>
  rw[hk]at q;obtain⟨dd,cd,sl,rfl,q⟩:=EB q;obtain⟨nm,bs,mro,ns,qn,hd,sn,sub,ab,col,del⟩:=cd;obtain⟨sl⟩:=sl;obtain⟨C',bm,k0,k1,k2,k3,n,k5,hm,hs,q⟩:=EA q;simp only[Bool.not_eq_true',beq_iff_eq,Bool.and_eq_true]at q;obtain⟨⟨⟨⟨⟨e1,e2⟩,hdel⟩,ht⟩,hok⟩,hni⟩:=q;dsimp only at hm hs hdel;subst e1;subst e2;subst hdel;subst hm;subst hs;exact⟨ns,nm,qn,bs,hd,sn,sub,ab,col,dd,k0,k1,k2,k3,k5,_,X _ _ hk,.of_isNs (PySem.W.isNs_of_in X hok),PySem.W.nsMap_none_of_in X hok hni,PySem.W.tail_of_in X ht⟩
end
def rF(x:Str)(f:Fe):Fs:=λρ=>jG (f ρ)>>=λ_=>.ex x
section
variable{X:Cx}{nl:Nat}{G:List Str}{x:Str}{e:Expr}{f:Fe}{np cp pos:Pos}{C:Addr}
theorem l7(T:Tb X nl G)(j:Nat)(hG:G[j]?=some x)(hm:X.mg x=some (.ref C))(hq:PySem.W.excIn X.K C xn xJ=true)(he:Z.dA X.nox e f)(hst:bn e=true:=by rfl):Z.kG X (.Raise (some (.Call (.Name x np) [e] [] cp)) none pos) (rF x f):=⟨have he:=he.un;λFm=>by
 intro pins s σ H D I ⟨ρ,sl,q⟩;have hg:=T.gl x (List.mem_of_getElem? hG);have sc:starEach [e] X.env=(false,eval e X.env)::starEach [] X.env:=bC hst;obtain⟨N,nm,qn,bs,hdct,sn,sub,ab,col,dd,k0,k1,k2,k3,k5,mN,hC,hN,hni,TL⟩:=qC (I.ok.mod.kin) hq;unfold rF at q;cases ef:f ρ with
 |ex c=>rw[ef]at q;exact q.elim
 |no=>rw[ef]at q;exact q.elim
 |ok d=>
  rw[ef]at q;simp only[jG,R.ok_bind]at q;refine wpAny_Raise_call_subT (C:=C) (nm:=nm) (q:=qn) (N:=N) (bs:=bs) (bm:=kT X.K C) (hdct:=hdct) (sn:=sn) (sub:=sub) (ab:=ab) (col:=col) (dd:=dd) (k0:=k0) (k1:=k1) (k2:=k2) (k3:=k3) (k5:=k5) PySem.F.excBase_ValueError (mN:=mN) (TL.hasType rfl) (I.ok.hd T.calm) (by rw[sc];rfl) hni (nE I hg.1 hm ⟨rfl,?_⟩ hg.2.1);rw[sc];refine Calls.evalArgs_plain (wpAny_mono ?_ (λvs s2 z=>⟨rfl,z⟩) λ_ _ y=>y);have ha:PA X.nox [e] (Db X.nox Rp (ai f az)):=jX he oo hst;have hw:=ha cp pins s σ H (λvs H'=>vs.length=1/\aN H H') (I.wish _) ⟨ρ,sl.sl,by
   unfold ai az;rw[ef];intro vs H' s' ra;simp only[RA]at ra;obtain⟨v,r,rfl,_,rfl⟩:=ra;exact⟨rfl,s'⟩⟩
  rw[show(X.nox.env)=X.env from rfl,sc]at hw;refine wpAny_mono hw (λus s2 zq0=>?_) λ_ _ z=>False.elim z
  obtain⟨vs,H2,I2,r2,hl,s12⟩:=zq0;have I2:=I2.unwish;have hlen:us.length=1:=by rw[<-r2.length];exact hl
  exact⟨by rw[hlen];decide,I2.bk _ _ hC,hN.keeps I2.bk,TL.keeps I2.bk,λh' p mk=>q.2 C hm pins σ H2 s2 (sl.fm.trans s12) I2 h' p us mk⟩⟩
end
section
variable{P:Program}{w:World}{l:List Env}{H H':Hp}{s s':Shared}{C p:Addr}{e:Value}
theorem oS.again{a0:Value}{B h':Heap}(f:oS P w l H s C H' e s')(fly:Heap.FlyingW B l p (.ref C) a0 s'.heap)(fly':Heap.FlyingW B l p (.ref C) a0 h')(up:s'.heap.UpToSlots h')(okB:iZ P w H' B)(hp:H' p=none)
  (cov:∀b o,s.heap.get? b=some o->H b=none->b∉mO l->B.get? b=some o/\H' b=none):oS P w l H s C H' (.ref p) { s' with heap:=h' }:=by
 refine⟨f.os,f.bare,f.same,⟨p,a0,B,rfl,fly',okB,hp,cov⟩,λb o q n hb=>?_⟩;obtain⟨⟨sl,q2⟩,n2⟩:=f.slot b o q n hb;obtain⟨_,o3,q3,nf⟩:=fly.2.2.1.mem hb;rw[q2]at q3;cases q3;obtain⟨sl3,q4⟩:=up b _ q2 nf;exact⟨⟨sl3,q4⟩,n2⟩
theorem oS.land{M:Model}{A:Around}{E:Value->Shared->Prop}{Q:Unit->Shared->Prop}(f:oS P w l H s C H' (.ref p) s')(k:∀h',oS P w l H s C H' (.ref p) { s' with heap:=h' }->Q () { s' with heap:=h' }):wpAny M A (setFlight (.ref p) none) Q E s':=by
 obtain⟨p',a0,B,ep,fly,okB,hp,cov⟩:=f.ex;cases ep;exact lands_againW fly λh' fly' up=>k h' (f.again fly fly' up okB hp cov)
theorem oS.look{M:Model}{A:Around}{E:Value->Shared->Prop}{Q:Unit->Shared->Prop}{env:Env}{outer:List Env}{L:Addr}(f:oS P w (env::outer) H s C H' e s')(hfr:A.frames=some (env::outer))(hf:env.frame=some L)
  (k:∀p h',e=.ref p->oS P w (env::outer) H s C H' (.ref p) { s' with heap:=h' }->Q () { s' with heap:=h' }):wpAny M A (noteFrame e env) (λ_ s2=>wpAny M A (setFlight e none) Q E s2) E s':=by
 obtain⟨p,a0,B,rfl,fly,okB,hp,cov⟩:=f.ex;refine wpAny_looks_onW hfr hf fly λh4 held up4=>?_
 exact wpAny_landsW (s:={ s' with heap:=h4 }) held λh5 fly5 up5=>k p h5 rfl (f.again fly fly5 (up4.trans up5) okB hp cov)
theorem oS.obj(f:oS P w l H s C H' (.ref p) s'):∃ob vs,s'.heap.get? p=some ob/\ob.cls=.ref C/\ob.data=.fields vs/\H' p=none/\p∉mO l:=by
 obtain⟨p',a0,B,ep,fly,okB,hp,cov⟩:=f.ex;cases ep;obtain⟨oe,ws,h1,h2,h3,_⟩:=fly.first;refine⟨oe,ws,h1,h2,h3,hp,λhm=>?_⟩;obtain⟨_,o,ho,hnf⟩:=fly.2.2.1.mem hm;rw[h1]at ho;cases ho;exact hnf ws h3
end
theorem oS.inv{X:Cx}{pins:List (Addr×Obj)}{σ:St}{Hc H1:Hp}{sc s':Shared}{C:Addr}{e:Value}(f:oS X.prog X.w X.stack Hc sc C H1 e s')(I:aT X pins σ Hc sc):aT X pins σ H1 s':=
 I.call' f.os f.un f.hok f.bare λb z=>absurd z (by simp)
def Xh(X:Cx)(p:Addr)(ob:Obj):Cx:={ X with A:=X.A.mark (some (.ref p)),calm:=false,xe:=λ_ _=>False,pn:=(p,ob)::X.pn }
section
variable{X:Cx}{pins:List (Addr×Obj)}{σ:St}{H:Hp}{s:Shared}{p:Addr}{ob:Obj}
theorem Cc(I:aT X pins σ H s)(hp:s.heap.get? p=some ob)(hn:H p=none)(hl:p≠X.env.locals)(hf:p∉X.fs)(hc:∀v,ob.data≠.cell v):aT (Xh X p ob) pins σ H s:=by
 refine⟨⟨I.ok.mod,I.ok.kind,I.ok.glob,I.ok.blt,I.ok.above,I.ok.inj,I.ok.has,I.ok.cab,λz=>(by cases z),I.ok.frames,I.ok.stk,I.ok.exf,I.ok.bs,I.ok.bsz,I.ok.noex,I.ok.exfs,I.ok.funs,I.ok.frf⟩,I.os,I.bare,I.base,I.loc,I.cell,I.free,I.freeC,λq hq=>?_,I.hok,I.len⟩;have hq':q∈(p,ob)::(X.pn++pins):=hq;rcases List.mem_cons.mp hq' with rfl|z
 ·exact⟨hp,hn,hl,hf,hc⟩
 ·exact I.pin q z
theorem xO(ok:X.Ok)(I:aT (Xh X p ob) pins σ H s):aT X pins σ H s:=
 ⟨ok,I.os,I.bare,I.base,I.loc,I.cell,I.free,I.freeC,λq hq=>I.pin q (Qf _ hq),I.hok,I.len⟩
end
structure KA(X:Cx)(nl:Nat)(G:List Str):Prop where
 hu:X.A.units+64<cLine
 nd:X.N.Nodup
 vis:∀x∈X.N,Gu X.env.scope x/\(x==("__debug__" : Str))=false/\(x==("__classdict__" : Str))=false
 loc:∀x∈X.N.take nl,FN X.env.scope x/\(X.fn x=true\/X.env.scope.names.lookup x=some .local)
 gl:∀x∈G,Gl X x/\(x==("__debug__" : Str))=false/\x≠("__name__" : Str)
theorem Tb.h{X:Cx}{nl:Nat}{G:List Str}(T:Tb X nl G)(p:Addr)(ob:Obj):KA (Xh X p ob) nl G:=⟨T.hu,T.nd,T.vis,T.loc,T.gl⟩
section
variable{M:Model}{A:Around}{E:Value->Shared->Prop}{s:Shared}{C C2 p:Addr}{bm bm2:List Value}{ob:Obj}{Q:Bool->Shared->Prop}
theorem AE(hC:sG s.heap C bm)(hC2:sG s.heap C2 bm2)(he:s.heap.get? p=some ob)(hc:ob.cls=.ref C)(h:Q ((Value.ref C::bm).contains (.ref C2)) s):wpAny M A (excMatches (.ref p) (.ref C2)) Q E s:=by
 obtain⟨N,nm,qn,bs,hdct,sn,sub,ab,col,dd,k0,k1,k2,k3,k5,mN,hC,hN,hni,TL⟩:=hC;obtain⟨N',nm',qn',bs',hdct',sn',sub',ab',col',dd',k0',k1',k2',k3',k5',mN',hC2,hN',hni',TL'⟩:=hC2;obtain⟨hp,g,d,tk,os⟩:=s;have hb2:(Value.ref C2::bm2).contains (.type "BaseException")=true:=by rw[List.contains_cons,show bm2.contains (.type "BaseException")=true from TL'.hasType (by decide),Bool.or_true]
 have f:=tc_notTuple;unfold excMatches
 repeat (first| (with_reducible refine wpAny_loadPart_at he ?_;rw[hc])|with_reducible refine wpAny_loadPart_at hC2 ?_| (with_reducible refine wpAny_isSubtype_exc hC2 ?_;rw[hb2])|with_reducible refine wpAny_isSubtype_exc hC ?_|wp_step)
 cases hb:(Value.ref C::bm).contains (.ref C2)with
 |true=>rw[hb]at h;wp_walk;exact h
 |false=>rw[hb]at h;wp_walk;exact h
end
section
variable{K:PySem.W.Frag}{x t:Value}{Hh:Heap->Prop}
theorem EJ{c:Value}(ty:∀(M:Model) (h:Heap),K.In h->Hh h->PySem.W.Looks M h (typeOf x) t)(e:PySem.W.kitOne K t c=some true):Answers (λs=>K.In s.heap/\Hh s.heap) x c true:=by
 intro dep tk prog w A R s hs;obtain⟨h0,g,d,tt,os⟩:=s;obtain⟨⟨X,p⟩,hq⟩:=hs;have look:=ty (model prog w) h0 X p;unfold PySem.W.kitOne at e;unfold Builtin.«isinstance.nested»;refine Qb (look.at ?_);by_cases q:(t==c)=true
 ·rw[if_pos q];exact Qb (wpAny_rule (Qg (hq tt)))
 ·rw[if_neg q]at e;rw[if_neg q];obtain⟨hty,his,hsub⟩:=PySem.W.kit_cls (M:=model prog w) X e;have both:PySem.W.Looks (model prog w) h0 (isInstance x c) true:=look.andThen hsub;refine Qb (hty.at ?_);rw[if_pos (by decide)]
  k_delta "plainIsInstance"
  refine Qb (Qb (his.at ?_));simp only[if_false,Bool.false_eq_true,Bool.not_true];refine Qb (both.at ?_)
  first|exact Qg (Qg (hq tt))| (simp only[if_true];exact Qg (Qg (hq tt)))| (simp only[if_true];exact Qg (hq tt))|exact Qb (Qg (Qg (hq tt)))
end
def uF(i:Nat)(p:Addr):Fe:=λρ=>match ρ[i]? with
 |some (.exc q)=>if q=p then .ok (.bool true)else .no
 | _=>.no
section
variable{X:Cx}{nl:Nat}{G:List Str}{p C C2:Addr}{ob:Obj}{n cx:Str}{pi pe pc pos:Pos}
theorem BO(hp:(p,ob)∈X.pn)(hc:ob.cls=.ref C):fI X (.builtin "isinstance") (λxs H Q=>∃cv,xs=[.ref p,cv]/\(∀u,cA cv u->PySem.W.kitOne X.K (.ref C) u=some true)/\Q (.bl true) H):=by
 intro pins s σ H xs us Q I r h;obtain⟨cv,rfl,hk,q⟩:=h;obtain⟨u,v,rfl,rx,ry⟩:=wJ r;cases rx;have pin:=(I.pin (p,ob) (List.mem_append_left _ hp)).1;refine call_isinstance (S:=λ_ R s=>(X.K.In s.heap/\s.heap.get? p=some ob)/\∀tk,R (.ok (.ret (.bool true))) { s with toks:=tk })
  (λprog w A R s hs=>isinstance_outer (EJ (K:=X.K) (x:=.ref p) (t:=.ref C) (Hh:=λh=>h.get? p=some ob) (λM h _ hp=>hc▸(PySem.W.Looks.ld hp).andThen .now) (hk _ ry) 0 _ prog w A R s hs) (λz=>nomatch z)) ⟨⟨I.kIn,pin⟩,λtk=>⟨.bl true,H,I.tok tk,rfl,q⟩⟩
theorem GU{i:Nat}{σ:St}{H:Hp}{Q:VK}(h:lH X iM (uF i p) σ H Q):σ[i]?=some (some (.ref p))/\Q (.bl true) H:=by
 obtain⟨ρ,sl,q⟩:=h;unfold uF at q;split at q
 ·rename_i q' e;split at q
  ·rename_i e';subst e';obtain⟨o,h1,h2⟩:=sl.at e;have h2':o=some (.ref q'):=h2;subst h2';exact⟨h1,q _ H (aN.refl _) fR⟩
  ·exact q.elim
 ·exact q.elim
theorem BB(T:KA X nl G)(hp:(p,ob)∈X.pn)(hc:ob.cls=.ref C)(i:Nat)(hN:X.N[i]?=some n)(j:Nat)(hG:G[j]?=some ("isinstance" : Str))(hm:X.mg "isinstance" = none)(j':Nat)(hG':G[j']?=some cx)(hm':X.mg cx=some (.ref C2))(hk:PySem.W.kitOne X.K (.ref C) (.ref C2)=some true):Z.dA X (.Call (.Name "isinstance" pi) [.Name n pe,.Name cx pc] [] pos) (uF i p):=⟨by
 have g:=T.gl _ (List.mem_of_getElem? hG);have g':=T.gl _ (List.mem_of_getElem? hG');have v:=T.vis n (List.mem_of_getElem? hN);have h1:PE X (.Name n pe) (HX i):=jg hN v.1 v.2.1 v.2.2;have h2:PE X (.Name cx pc) (tC (.ref C2)):=zI g'.1 hm' rfl g'.2.1;refine PE.imp (nK (BO hp hc) g.1 hm PyProof.Rows.boot_isinstance (nJ h1 (nJ h2 x5)) g.2.2 g.2.1) λσ H Q h=>?_
 obtain⟨a,b⟩:=GU h;exact⟨_,a,.ref C2,rfl,λu r=>by cases r;exact hk,b⟩⟩
end
def Ks(X:Cx)(C:Addr)(hs:List ExceptHandler)(F:Addr->aV->R Qa):Prop:=
 ∀(pins:List (Addr×Obj)) (σ:St) (Hc H:Hp) (sc s:Shared) (p:Addr) (Fm:Hp) (ρ:aV) (D:r8),aT X pins σ Hc sc->oS X.prog X.w X.stack Hc sc C H (.ref p) s->iN Fm H σ ρ ->
  (match F p ρ with
   |.ok d=>∀v H',aN Fm H'->Rp H' d v->D.rt v H'
   | _=>False)->wpAny (model X.prog X.w) X.A (handleBy (.ref p) X.env hs) (SP X pins D) X.xe s
section
variable{X:Cx}{nl:Nat}{G:List Str}{C C2:Addr}{n cx:Str}{np rp hp:Pos}{e:Expr}{ge:List ExceptHandler}{F:Addr->aV->R Qa}{f:Addr->Fe}{name:Option Str}{body:List Stmt}
theorem GC{pins:List (Addr×Obj)}{σ:St}{Hc H:Hp}{sc s:Shared}{p:Addr}{Q:Flow->Shared->Prop}{E:Value->Shared->Prop}(T:Tb X nl G)(j:Nat)(hG:G[j]?=some cx)(hm:X.mg cx=some (.ref C2))(hq:PySem.W.excIn X.K C xn xJ=true)(hq2:PySem.W.excIn X.K C2 xn xJ=true)
  (I:aT X pins σ Hc sc) (fl:oS X.prog X.w X.stack Hc sc C H (.ref p) s)
  (h:if(Value.ref C::kT X.K C).contains (.ref C2)=true then codeAny (model X.prog X.w) (X.A.mark (some (.ref p))) (.handlers (.ref p) [.ExceptHandler none name body hp] X.env) (λr s₂=>match r with
     |.ok f=>(match name with
      |none=>Q f s₂
      |some n=>wpAny (model X.prog X.w) X.A (do bindName X.env n .none;unbindBehindTheSuite X.env n hp) (λ_ s₃=>Q f s₃) E s₂)
     |.error x=>cameBackBy (model X.prog X.w) X.A X.env E x s₂) s
   else wpAny (model X.prog X.w) X.A (handleBy (.ref p) X.env ge) Q E s) :
  wpAny (model X.prog X.w) X.A (handleBy (.ref p) X.env (.ExceptHandler (some (.Name cx np)) name body hp::ge)) Q E s:=by
 have I1:=fl.inv I;obtain⟨ob,vs,ho,hcls,hd,hn,hfr⟩:=fl.obj;have g:=T.gl cx (List.mem_of_getElem? hG);have hl:X.A.frames=some X.stack:=I.ok.frames;refine wpAny_handleBy_cons (codeAny_handlers_test ?_) (by intro z;cases z);refine Calls.Name_function_global I1.ok.kind g.1 (Calls.loadGlobal_global (by rw[I1.ok.glob];exact I1.mod.glob.keeps I1.bk) hm ?_) g.2.1;refine AE ((qC I1.ok.mod.kin hq).keep I1.bk) ((qC I1.ok.mod.kin hq2).keep I1.bk) ho hcls ?_;cases hb:(Value.ref C::kT X.K C).contains (.ref C2)with
 |true=>rw[hb]at h;exact h
 |false=>rw[hb]at h;exact h
end
theorem GI{X:Cx}{pins:List (Addr×Obj)}{σ:St}{H:Hp}{s:Shared}{M:Model}{A:Around}{E:Value->Shared->Prop}{i:Nat}{x:Str}{v:V}{Q:Unit->Shared->Prop}(I:aT X pins σ H s)(hN:X.N.Nodup)(hi:X.N[i]?=some x)(hk:X.env.scope.names.lookup x=some .local)
  (hv:σ[i]?=some (some v)) (h:∀s',aT X pins (σ.set i none) H s'->Q () s'):wpAny M A (unbindName X.env x) Q E s:=by
 obtain⟨m,hn,hl⟩:=id I.loc;obtain⟨u,ru,lk⟩:=hl i x v hi hv (.inl hk);have hm:m x=some u:=by
  rcases lk with⟨_,z⟩| ⟨k,_⟩
  ·exact z
  ·rcases k with k|k<;>(have k':X.env.scope.names.lookup x=_:=k;rw[hk]at k';cases k')
 have plain:(X.env.scope.kind==.class||(X.env.scope.kind==.module&&X.env.locals != X.env.globals))=false:=by rw[I.ok.kind];rfl
 refine wpAny_unbindName_local hk hn hm plain λh' w' hn' sb=>h _ ?_
 obtain⟨oL,_,_,hoL,_⟩:=id hn;have young:∀b o,X.s₀.heap.get? b=some o->b≠X.env.locals:=λb o q=>Nat.ne_of_lt (Nat.lt_of_lt_of_le (Heap.lt_size q) I.ok.above)
 refine⟨I.ok,I.os,I.bare,⟨λb o q n hb hx=>(sb.2 b (young b o q)).trans (I.base.keep b o q n hb hx),λb o q n hb hx=>?_,I.base.free,λb o q hx=>?_,I.base.tups,I.base.frzs,I.base.tbls⟩,⟨_,hn',λj y v' q1 q2 q3=>?_⟩,λy c q=>?_,I.free,I.freeC,λp hp=>?_,λb ob q=>?_,by simpa using I.len⟩
 ·obtain⟨sl,q1⟩:=I.base.slot b o q n hb hx;exact⟨sl,(sb.2 b (young b o q)).trans q1⟩
 ·obtain⟨o',q1⟩:=I.base.there b o q hx;exact⟨o',(sb.2 b (young b o q)).trans q1⟩
 ·by_cases hj:i=j
  ·subst hj;rw[List.getElem?_set,if_pos rfl]at q2;split at q2<;>cases q2
  ·rw[List.getElem?_set,if_neg hj]at q2;obtain⟨u',r',z⟩:=hl j y v' q1 q2 q3;refine⟨u',r',?_⟩;rcases z with⟨k,z⟩| ⟨k,c,z1,z2⟩
   ·refine .inl ⟨k,?_⟩;have ne:y≠x:=λt=>hj (rq hN hi (t▸q1))
    simp[ne,z]
   ·exact .inr ⟨k,c,z1,z2.sameBut sb (I.cne y c z1)⟩
 ·obtain⟨w2,z⟩:=I.cell y c q;exact⟨w2,z.sameBut sb (I.cne y c q)⟩
 ·obtain⟨q,n,ne,nf,d⟩:=I.pin p hp;exact⟨(sb.2 p.1 ne).trans q,n,ne,nf,d⟩
 ·refine(I.hok b ob q).stay (λc w2 hc z=>(sb.2 c ?_).trans z) (λ_ z=>z) λ_ _ z=>z
  rintro rfl;rcases hc with rfl|hc
  ·rw[I.free]at q;cases q
  ·rw[I.free]at hc;cases hc
section
variable{X:Cx}{nl:Nat}{G:List Str}{C C2:Addr}{n cx:Str}{np rp hp:Pos}{e:Expr}{ge:List ExceptHandler}{f:Addr->Fe}
theorem AH{pins:List (Addr×Obj)}{σ:St}{Hc H:Hp}{sc s:Shared}{p:Addr}(I:aT X pins σ Hc sc)(fl:oS X.prog X.w X.stack Hc sc C H (.ref p) s):∃ob,s.heap.get? p=some ob/\ob.cls=.ref C/\aT (Xh X p ob) pins σ H s:=by
 have I1:=fl.inv I;obtain⟨ob,vs,ho,hcls,hd,hn,hfr⟩:=fl.obj;refine⟨ob,ho,hcls,Cc I1 ho hn (λz=>?_) (λz=>?_) (λv z=>by rw[hd]at z;cases z)⟩
 ·obtain⟨m,⟨o,es,ep,q1,q2,_⟩,_⟩:=I1.loc;rw[<-z,ho]at q1;cases q1;rw[hd]at q2;cases q2
 ·apply hfr;rcases I.ok.stk with e| ⟨e,_⟩
  ·rw[e];exact z
  ·rw[e];obtain⟨env,he,hf⟩:=List.mem_filterMap.mp (show p∈X.outer.filterMap (·.frame)from z);exact List.mem_filterMap.mpr ⟨env,Qf _ he,hf⟩
theorem B1(T:Tb X nl G)(j:Nat)(hG:G[j]?=some cx)(hm:X.mg cx=some (.ref C2))(hq:PySem.W.excIn X.K C xn xJ=true)(hq2:PySem.W.excIn X.K C2 xn xJ=true)(hb:(Value.ref C::kT X.K C).contains (.ref C2)=true)
  (i:Nat) (hN:(X.N.take nl)[i]?=some n) (hk:X.env.scope.names.lookup n=some .local)
  (he:∀p ob,ob.cls=.ref C->KA (Xh X p ob) nl G->dA (Xh X p ob) e (f p)):Ks X C (.ExceptHandler (some (.Name cx np)) (some n) [.Return (some e) rp] hp::ge) (λp ρ=>f p (ρ.set i (.exc p))):=λpins σ Hc H sc s p Fm ρ D I fl sl q=>by
 obtain⟨hi,hl,hf⟩:=T.nm hN;refine GC T j hG hm hq hq2 I fl ?_;rw[hb];refine codeAny_handlers_suite_as (fl.land λh' fl'=>?_);obtain⟨ob,ho,hcls,Ih⟩:=AH I fl';refine lu (X:=Xh X p ob) (v:=.ref p) Ih T.nd hi hl rfl (λs2 I2=>?_) hf;dsimp only at q;have hi':i<σ.length:=by rw[I.len];exact(List.getElem?_eq_some_iff.mp hi).1
 cases ef:f p (ρ.set i (.exc p))with
 |ex c=>rw[ef]at q;exact q.elim
 |no=>rw[ef]at q;exact q.elim
 |ok d=>
  rw[ef]at q;have sl2:Sl H (σ.set i (some (.ref p))) (ρ.set i (.exc p)):=Sl.set (c:=.exc p) (o:=some (.ref p)) sl.sl i rfl;have hw:=he p ob hcls (T.h p ob) pins _ (σ.set i (some (.ref p))) H (λv H'=>aN H H'/\Rp H' d v) I2 ⟨_,sl2,by rw[ef];exact λv H' s' r=>⟨s',r⟩⟩;refine wpAny_execs_cons (wpAny_Return_some (wpAny_mono hw (λu s3 zq0=>?_) λ_ _ z=>False.elim z));obtain⟨v,H3,I3,r3,s13,rp⟩:=zq0;have I4:=xO I.ok I3;show wpAny _ X.A (do bindName X.env n .none;unbindBehindTheSuite X.env n hp) _ _ s3;refine Qb (wpAny_bindName (lu (v:=.non) I4 T.nd hi hl rfl (λs5 I5=>?_) hf));unfold unbindBehindTheSuite;refine wpAny_onRaise (GI (v:=.non) I5 T.nd hi hk (by rw[List.getElem?_set,if_pos rfl,if_pos (by simpa using hi')]) λs6 I6=>?_);exact⟨v,_,H3,I6,r3,q v H3 (sl.fm.trans s13) rp⟩
end
open Classical in
def AY(F:Addr->R Qa):R Qa:=if h:∃r,∀p,F p=r then h.choose else .no
theorem x8(r:R Qa):AY (λ_=>r)=r:=by
 have h:∃r',∀p:Addr,(λ_=>r) p=r':=⟨r,λ_=>rfl⟩
 unfold AY;rw[dif_pos h];exact(h.choose_spec 0).symm
theorem Fd{F:Addr->R Qa}{d:Qa}(h:AY F=.ok d)(p:Addr):F p=.ok d:=by
 unfold AY at h;split at h
 ·rename_i q;rw[q.choose_spec p];exact h
 ·cases h
abbrev Hs:=List (Str×(Addr->aV->R Qa))
def FG(hs:Hs)(ρ:aV)(k:Qa->rS):R Qa->R rS
 |.ok d=>.ok (k d)
 |.no=>.no
 |.ex c=>match hs.lookup c with
  |some h=>jG (AY (λp=>h p ρ))>>=λd=>.ok (.rt d)
  |none=>.no
inductive r9(X:Cx)(src:List ExceptHandler):Hs->Prop
 |nil:r9 X src []
 |cons {c:Str} {C:Addr} {h:Addr->aV->R Qa} {hs:Hs} (hm:X.mg c=some (.ref C)) (he:Ks X C src h) (r:r9 X src hs):r9 X src ((c,h)::hs)
theorem r9.at{X:Cx}{src:List ExceptHandler}{c:Str}{h:Addr->aV->R Qa}:∀{hs:Hs},r9 X src hs->hs.lookup c=some h->∃C,X.mg c=some (.ref C)/\Ks X C src h
 | _,.nil,e=>by cases e
 | _,.cons (c:=c') hm he r,e=>by
  rw[List.lookup_cons]at e;split at e
  ·rename_i q;have:c=c':=by simpa using q
   subst this;cases e;exact⟨_,hm,he⟩
  ·exact r9.at r e
section
variable{X:Cx}{k n:Nat}{f:Addr}{fd:Qh}{ps:List Str}{F:List Qa->R Qa}{x:Str}{p pos sp tp:Pos}{e:Expr}{es:List Expr}{fs:aV->R (List Qa)}{nl:Nat}{G:List Str}
theorem DB{pins:List (Addr×Obj)}{σ:St}{H:Hp}{s:Shared}{ρ:aV}{ds:List Qa}{Qv:Value->Shared->Prop}{Ev:Value->Shared->Prop}
  (C:bc X.prog X.w X.K X.mg X.base (cX X.prog X.w X.mg) k f fd ps (dN F n)) (hr:fW k X.A) (T:Tb X nl G) (j:Nat) (hG:G[j]?=some x) (hm:X.mg x=some (.ref f)) (hk:PySem.W.keepIn X.K (.ref f)=true) (hb:bx X.K fd ps []) (ha:tZ X.nox (e::es) fs)
  (hfs:∀ρ ds,fs ρ=.ok ds->ds.length=n) (he:(e::es).all bn=true) (I:aT X pins σ H s) (sl:Sl H σ ρ) (efs:fs ρ=.ok ds) (hno:F ds≠.no)
  (hok:∀d,F ds=.ok d->∀v u H' s',aT X pins σ H' s'->aN H H'->Rp H' d v->cA v u->Qv u s')
  (hex:∀c,F ds=.ex c->∀C Hc sc H1 e s',X.mg c=some (.ref C)->aT X pins σ Hc sc->aN H Hc->oS X.prog X.w X.stack Hc sc C H1 e s'->Ev e s') :
  wpAny (model X.prog X.w) X.A (eval (.Call (.Name x p) (e::es) [] pos) X.env) Qv Ev s:=by
 rw[List.all_cons,Bool.and_eq_true]at he;have g:=T.gl x (List.mem_of_getElem? hG);refine wpAny_Call_Name_kw (nE I g.1 hm ?_ g.2.1);have hw:=ha pos pins s σ H (λvs H'=>aN H H'/\RA Rp H' ds vs) (I.wish _) ⟨ρ,sl,by rw[efs];exact λvs H' s' r=>⟨s',r⟩⟩;refine PySem.W.callWith_K (h₀:=X.base) I.ok.mod.kin hk (wpAny_mono hw (λus s1 ⟨vs,H1,I1,r,s1',ra⟩=>⟨I1.unwish.kIn,?_⟩) λ_ _ z=>False.elim z) (bC he.1) (ls he.2);have I1:=I1.unwish;have ra':=my.mp ra;have hsp:dN F n vs H1 (λv H'=>aN H1 H'/\∃d,F ds=.ok d/\Rp H' d v) (λv _ H'=>∃c,F ds=.ex c/\v=.str c 0):=by
  refine⟨ds,ra',hfs ρ ds efs,?_⟩;cases ef:F ds with
  |ok d=>exact λv H' s' r=>⟨s',d,rfl,r⟩
  |ex c=>exact λH' s'=>⟨c,rfl,rfl⟩
  |no=>exact absurd ef hno
 have hl:(us++[]).length=ps.length:=by rw[List.append_nil,<-r.length];exact C.len _ _ _ _ hsp
 refine wpAny_call (codeAny_mono (C.run X.A X.stack s1 H1 ⟨us,[]⟩ (us++[]) vs _ _ hr I1.env0 (hb s1 us I1.kIn hl) (by rw[List.append_nil];exact r) hsp) λr' s' hq=>?_);cases r' with
 |error e'=>
  obtain⟨c',C',H',hm',fl,c,ef,ev⟩:=hq;have:c'=c:=by injection ev
  subst this;exact hex c' ef C' H1 s1 H' e' s' hm' I1 s1' fl
 |ok fl=>
  cases fl with
  |ret u=>
   obtain⟨v,H',I',rv,s2,d,ef,rp⟩:=I1.after hq;exact hok d ef v u H' s' I' (s1'.trans s2) rp rv
  |next=>exact False.elim hq
  |brk=>exact False.elim hq
  |cont=>exact False.elim hq
theorem yt{pins:List (Addr×Obj)}{σ:St}{H Fm:Hp}{ρ:aV}{D:r8}{h0:ExceptHandler}{src:List ExceptHandler}{hs:Hs}{kk:Qa->rS}{c:Str}{r:R Qa}(hstk:X.stack=X.env::X.outer/\X.env.frame=some X.env.locals)(hH:r9 X (h0::src) hs)(ec:r=.ex c)(sl:iN Fm H σ ρ)(q:Dc X Fm (FG hs ρ kk r) D)
  {C:Addr} {Hc H1:Hp} {sc s':Shared} {ev:Value} (hm:X.mg c=some (.ref C)) (I:aT X pins σ Hc sc) (sH:aN H Hc) (fl:oS X.prog X.w X.stack Hc sc C H1 ev s') :
  wpAny (model X.prog X.w) X.A (noteFrame ev X.env) (λ_ s₂=>wpAny (model X.prog X.w) X.A (setFlight ev none) (λ_ s₃=>wpAny (model X.prog X.w) X.A (handleBy ev X.env (h0::src)) (SP X pins D) X.xe s₃) X.xe s₂) X.xe s':=by
 subst ec;simp only[FG]at q;cases el:hs.lookup c with
 |none=>rw[el]at q;exact q.elim
 |some h=>
  rw[el]at q;dsimp only at q;obtain⟨C',hm',hE⟩:=hH.at el;rw[hm]at hm';cases hm';have fl':=fl;rw[hstk.1]at fl';refine fl'.look (by rw[I.ok.frames,hstk.1]) hstk.2 λp h' ep fl2=>?_
  subst ep;rw[<-hstk.1]at fl2;have sl1:iN Fm H1 σ ρ:=sl.mono (sH.trans fl.same);refine hE pins σ Hc H1 sc _ p Fm ρ D I fl2 sl1 ?_;cases ep:AY (λp=>h p ρ)with
  |ex c=>rw[ep]at q;exact q.elim
  |no=>rw[ep]at q;exact q.elim
  |ok d=>
   rw[ep]at q;rw[Fd ep p];exact q
def zU(F:List Qa->R Qa)(fs:aV->R (List Qa))(hs:Hs):Fs:=λρ=>jG (fs ρ)>>=λds=>FG hs ρ (λ_=>.nx ρ) (F ds)
variable{h0:ExceptHandler}{src:List ExceptHandler}{hs:Hs}
theorem An(C:bc X.prog X.w X.K X.mg X.base (cX X.prog X.w X.mg) k f fd ps (dN F n))(hr:fW k X.A)(T:Tb X nl G)(hstk:X.stack=X.env::X.outer/\X.env.frame=some X.env.locals)(j:Nat)(hG:G[j]?=some x)(hm:X.mg x=some (.ref f))(hk:PySem.W.keepIn X.K (.ref f)=true)(hb:bx X.K fd ps [])(ha:Z.tZ X.nox (e::es) fs)(hfs:∀ρ ds,fs ρ=.ok ds->ds.length=n)(hH:r9 X (h0::src) hs)(he:(e::es).all bn=true:=by rfl)(hsw:swapsWith (.Call (.Name x p) (e::es) [] pos) none sp.line X.env=pure false:=by rfl):Z.kG X (.Try [.Expr (.Call (.Name x p) (e::es) [] pos) sp] (h0::src) [] [] tp) (zU F fs hs):=⟨have ha:=ha.un;λFm=>by
 intro pins s σ H D I ⟨ρ,sl,q⟩;unfold zU at q;cases efs:fs ρ with
 |ex c=>rw[efs]at q;exact q.elim
 |no=>rw[efs]at q;exact q.elim
 |ok ds=>
  rw[efs]at q;simp only[jG,R.ok_bind]at q;refine wpAny_Try_except (wpAny_execs_cons (wpAny_Expr_any (DB C hr T j hG hm hk hb ha hfs he I sl.sl efs (λz=>by rw[z]at q;exact q) (λd ed v u H' s' I' sH rp rv=>?_) λc ec C' Hc sc H1 ev s' hm' I' sH fl=>yt hstk hH ec sl q hm' I' sH fl) I.quiet hsw));rw[ed]at q;exact wpAny_execs_nil (wpAny_execs_nil ⟨σ,H',I',q σ H' (sl.mono sH)⟩)⟩
end
def Dq:List Qa->Option (List Str)
 | []=>some []
 |.str y::ds=>(Dq ds).map λr=>y::r
 | _=>none
def LB(sep:Str):Qa->R Qa
 |.list ds=>match Dq ds with
  |some ys=>if(ys.map (·.length)).sum+ys.length*sep.length<=16777216 then .ok (.str (Txt.join sep ys))else .no
  |none=>.no
 | _=>.no
def nR(i:Nat)(f:Fe):Fs:=λρ=>jG (f ρ)>>=λd=>match ρ[i]? with
 |some (.own (.list ds))=>match d with
  |.list es=>if ds.length+es.length<=sizeLine then .ok (.nx (ρ.set i (.own (.list (ds++es)))))else .no
  | _=>.no
 | _=>.no
section
variable{X:Cx}{nl:Nat}{G:List Str}{x:Str}{e:Expr}{f:Fe}{q1 q2 q3 q4:Pos}
theorem EU:Ky X "list.extend" (λx vs H Q=>∃l b xs zs,x=.ref l/\vs=[.ref b]/\H l=some (.lst xs)/\Rd H b (.lst zs)/\xs.length+zs.length<=sizeLine/\Q .non (dj H l (.lst (xs++zs)))):=by
 intro pins s σ H x vs v us Q I rx rv h;obtain⟨l,b,xs,zs,rfl,rfl,hH,hB,hz,q⟩:=h;cases rx;obtain⟨u,rfl,ru⟩:=iY rv;cases ru;obtain⟨z,its,n,r,hl,e1⟩:=I.lstM hH;obtain⟨z2,its2,n2,r2,e2⟩:=hB.ok I.hok;have hl2:=r2.length;have fits:its.toArray.size+its2.toArray.size<=sizeLine:=by simp only[List.size_toArray];omega
 have door:¬(!its.toArray.isEmpty&&Builtin.List.listTooLong (its.toArray.size+its2.toArray.size))=true:=by
  rw[wq fits,Bool.and_false];exact Bool.false_ne_true
 refine call_meets F.slot_list_extend ⟨_,e1,rfl⟩ F.entry_list_extend (F.args_list_extend_2 _ _) (AutoSeq1.list_extend_list_list_0 l its.toArray n b its2.toArray n2 door (by simp only[List.size_toArray];omega) (by omega)) ⟨e1,e2,?_⟩;refine⟨.non,_,I.lset (its':=its++its2) hH e1 (by simp) (r.append r2) ?_,rfl,q⟩;rw[List.length_append];exact hz
theorem vC(T:Tb X nl G)(n:Nat)(hN:X.N[n]?=some x)(he:Z.dA X e f)(hst:bn e=true:=by rfl)(hline:(q2.endLine==q3.line)=true:=by rfl)(hs:swapsWith (.Call (.Attribute (.Name x q1) "extend" q2) [e] [] q3) none q4.line X.env=pure false:=by rfl)(hbase:attributeBase (.Name x q1) "extend" X.env (eval (.Name x q1) X.env)=eval (.Name x q1) X.env:=by rfl):Z.kG X (.Expr (.Call (.Attribute (.Name x q1) "extend" q2) [e] [] q3) q4) (nR n f):=⟨have he:=he.un;λFm=>by
 have hm:=T.vis x (List.mem_of_getElem? hN);have sc:starEach [e] X.env=(false,eval e X.env)::starEach [] X.env:=bC hst;refine PS.imp (zO (FZ PySem.F.plainAttrs_list PySem.F.slot_list_extend PySem.F.type_list_extend EU (jg hN hm.1 hm.2.1 hm.2.2) (jX he oo hst) hbase (by rw[sc];rfl) hline sc rfl) hs) λD σ H h=>?_
 obtain⟨ρ,sl,q⟩:=h;unfold nR at q;cases ef:f ρ with
 |ex c=>rw[ef]at q;exact q.elim
 |no=>rw[ef]at q;exact q.elim
 |ok d=>
  rw[ef]at q;simp only[jG,R.ok_bind]at q;cases er:ρ[n]? with
  |none=>rw[er]at q;exact q.elim
  |some c=>
   rw[er]at q;cases c with
   |non=>exact q.elim
   |exc p=>exact q.elim
   |val d'=>exact q.elim
   |own d'=>
    cases d' with
    |list ds=>
     cases d with
     |list es=>
      dsimp only at q;by_cases hz:ds.length+es.length<=sizeLine
      ·rw[if_pos hz]at q;obtain⟨o,h2,w',rfl,p2⟩:=sl.sl.at er;simp only[iB]at p2;obtain⟨a',vs,rfl,ha,r⟩:=p2;refine⟨.ref a',h2,.inl ⟨rfl,_,pX.of ha⟩,ρ,sl.sl,?_⟩;unfold ai az;rw[ef];intro us H1 s1 ra;simp only[RA]at ra;obtain⟨v,r',rfl,p1,rfl⟩:=ra;have ha1:=s1 _ _ ha;simp only[Rp]at p1;obtain⟨b,o2,ws,rfl,hb,rb⟩:=p1;refine⟨a',b,vs,ws,rfl,rfl,ha1,.inr ⟨o2,hb⟩,by rw[r.length,rb.length];exact hz,q _ _ ((sl.mono s1).change er h2 ha1 (.inl ⟨_,rfl⟩) ?_)⟩;simp only[iB];exact⟨a',_,rfl,bh,bI.kp (gA ha1 (.inl ⟨_,rfl⟩)) _ _ (bI.append (r.mono s1) rb)⟩
      ·rw[if_neg hz]at q;exact q.elim
     | _=>exact q.elim
    | _=>exact q.elim⟩
end
section
variable{X:Cx}{a b c:Expr}{fa fb fc:Fe}{pos p2:Pos}{nl:Nat}{G:List Str}{x:Str}{p:Pos}
theorem u7:∀{xs:List V} {vs:List Value},vs.length=xs.length->(∀(j:Nat) (v:Value),vs[j]?=some v->∃x,xs[j]?=some x/\cA x v)->bO xs vs
 | [],[],_,_=>.nil
 | [],_::_,e,_=>by cases e
 | _::_,[],e,_=>by cases e
 |x::xs,v::vs,e,h=>by
  obtain⟨y,e1,r⟩:=h 0 v rfl;cases e1;exact .cons r (u7 (by simpa using e) λj u hu=>by
   obtain⟨z,e2,r2⟩:=h (j+1) u (by simpa using hu);exact⟨z,by simpa using e2,r2⟩)
end
section
variable{prog:Program}{w:World}{A:Around}{E:Value->Shared->Prop}{s:Shared}
theorem sr{R:List Value->Shared->Prop}{r:Addr}{a b c:Int}{t u v:Tok}{n:Nat}(hh:A.handled=none)(hr:IsRange s.heap r a b c t u v)(hsmall:Builtin.Range.small a b c=true)
  (hn:Builtin.Range.rangeSize a b c=n) (hlen:n<=2 ^ 24)
  (h:∀(h':Heap) (tk:Nat) (acc:Array Value),(∀b o,s.heap.get? b=some o->h'.get? b=some o)->ItemsOf (λi v=>∃t,v=.int (a+i*c) t) acc n->R acc.toList { s with heap:=h',toks:=tk }) :
  wpAny (model prog w) A (collect (.ref r)) R E s:=by
 unfold collect;refine Qb (wpAny_runValue (codeAny_builtin F.entry_proto_collect ?_));rw[Around.under_plainId PySem.F.plain_proto_collect _];show wpAny _ A.in1 (newList []>>=λl=>again (.builtin "list.__iadd__" ⟨[l,.ref r],[]⟩)) _ _ s;refine Qb (wpAny_newObj_type ?_);refine Qg ⟨plainId_quiet PySem.F.plain_list_iadd _,codeAny_builtin F.entry_list_iadd ?_⟩;rw[Around.under_plainId PySem.F.plain_list_iadd _];have hS₁:(s.heap.push { cls:=.type "list",data:=.seq ([]:List Value).toArray }).get? s.heap.objs.size=some { cls:=.type "list",data:=.seq #[] }:=Heap.get?_push_size _ rfl;show wpAny _ A.in1 (Builtin.List.listExtendWith (.ref s.heap.objs.size) (.ref r) (.ref s.heap.objs.size)) _ _ _;have key:=wpAny_extend_range (prog:=prog) (w:=w) (A:=A) (s:={ s with heap:=s.heap.push { cls:=.type "list",data:=.seq ([]:List Value).toArray } })
  (R:=λ(q:Result) (s':Shared)=>∃(h':Heap) (tk:Nat) (acc':Array Value) (c':Nat),q=.ok (.ret (.ref s.heap.objs.size))/\s'={ s with heap:=h',toks:=tk } /\
   (∀b o,s.heap.get? b=some o->h'.get? b=some o)/\h'.get? s.heap.objs.size=some { cls:=.type "list",dict:=none,data:=.seq acc' c',slots:=#[] }/\ItemsOf (λi v=>∃t,v=.int (a+i*c) t) acc' n)
  hh (Qe _ hr) hsmall hn hlen s.heap.objs.size (.ref s.heap.objs.size) 0 hS₁
  (λh' tk acc' c' hk hS' hacc=>⟨h',tk,acc',c',rfl,rfl,λb o e=>hk b o (Nat.ne_of_lt (Heap.lt_size e)) (Qe _ e),hS',hacc⟩)
 refine wpAny_mono key (λfin s' x=>?_) λe s' x=>?_
 ·cases fin with
  |done f=>
   obtain⟨h',tk,acc',c',e,rfl,hk,hS',hacc⟩:=x;cases e;show wpAny _ A (load s.heap.objs.size>>=_) _ _ _;refine Qb (wpAny_load hS' ?_);exact Qg (h h' tk acc' hk hacc)
  |again c'=>
   obtain⟨hq,hc⟩:=x;refine⟨hq,codeAny_mono hc λq s' zq0=>?_⟩;obtain⟨h',tk,acc',c',e,e2,hk,hS',hacc⟩:=zq0;subst e e2;show wpAny _ A (load s.heap.objs.size>>=_) _ _ _;refine Qb (wpAny_load hS' ?_);exact Qg (h h' tk acc' hk hacc)
 ·obtain⟨h',tk,acc',c',e,_⟩:=x;cases e
theorem pU(r:Addr)(a b c:Int)(t u v:Tok)(n:Nat)(hsmall:Builtin.Range.small a b c=true)(hn:Builtin.Range.rangeSize a b c=n)(hlen:n<=2 ^ 24):Meets (Builtin.«tuple.__new__» ⟨[.type "tuple",.ref r],[]⟩)
   (λA R s=>A.handled=none/\IsRange s.heap r a b c t u v/\∀(h':Heap) (tk:Nat) (acc:Array Value),(∀b o,s.heap.get? b=some o->h'.get? b=some o)->ItemsOf (λi v=>∃t,v=.int (a+i*c) t) acc n ->
    R (.ok (.ret (.ref h'.objs.size))) { s with heap:=h'.push { cls:=.type "tuple",data:=.seq acc },toks:=tk }):=
 .of_wp λprog w A R s h=>by
  obtain⟨hh,hr,h⟩:=h;have hsub:=sub_tuple_self;have hinit:=init_tuple_lookup;have hmh:=madeHere_tuple;have hT:s.TypeIs (.ref r) "range" := ⟨_,hr,rfl⟩
  have hh1:A.in1.handled=none:=hh
  wp_walk using wpAny_typeOf hT,sr hh1 hr hsmall hn hlen
  intro h' tk acc hk hacc;show wpAny _ _ (Builtin.Tuple.tupleExact acc.toList.toArray>>=λv=>ret v) _ _ _;unfold Builtin.Tuple.tupleExact;refine Qb (wpAny_newObj_type ?_ (show acc.toList.toArray.size<=sizeLine by simp only[Array.toArray_toList];rw[hacc.1,sizeLine_eq];omega));refine Qg ⟨_,rfl,?_⟩;have e:acc.toList.toArray=acc:=by simp
  rw[e];exact h h' tk acc hk hacc
theorem oa{Q:Value->Shared->Prop}{r:Addr}{a b c:Int}{t u v:Tok}{n:Nat}(hh:A.handled=none)(hr:IsRange s.heap r a b c t u v)(hsmall:Builtin.Range.small a b c=true)(hn:Builtin.Range.rangeSize a b c=n)(hlen:n<=2 ^ 24)
  (h:∀(h':Heap) (tk:Nat) (acc:Array Value),(∀b o,s.heap.get? b=some o->h'.get? b=some o)->ItemsOf (λi v=>∃t,v=.int (a+i*c) t) acc n->Q (.ref h'.objs.size) { s with heap:=h'.push { cls:=.type "tuple",data:=.seq acc },toks:=tk }) :
  wpAny (model prog w) A (call (.type "tuple") [.ref r]) Q E s:=by
 refine callType_new F.called_tuple (by decide) (F.typeCall_tuple_1 _) (F.newCall_tuple_1 _) (λobj=>F.args_object_init_2 obj _) F.entry_tuple_new
  (pU r a b c t u v n hsmall hn hlen) ⟨hh,hr,λh' tk acc hk hacc=>⟨⟨_,Heap.get?_push_size _ rfl,rfl⟩,h h' tk acc hk hacc⟩⟩
end
section
variable{X:Cx}{a b c:Expr}{fa fb fc:Fe}{pos p2:Pos}{nl:Nat}{G:List Str}{x:Str}{p:Pos}{fs:aV->R (List Qa)}{pos2:Pos}
def lc(lo:Int)(n:Nat):List V:=(List.range n).map λ(k:Nat)=>.int (lo+k)
theorem A1{H:Hp}(lo:Int)(n:Nat):bI H (bM lo n) (lc lo n):=by
 have key:∀l:List Nat,bI H (l.map λ(k:Nat)=>Qa.int (lo+k)) (l.map λ(k:Nat)=>V.int (lo+k)):=by
  intro l;induction l with
  |nil=>exact bI.nil
  |cons k l ih=>exact bI.cons fF ih
 exact key _
theorem yz{lo:Int}{n:Nat}{acc:Array Value}(h:ItemsOf (λi v=>∃t,v=.int (lo+(i:Int)*1) t) acc n):bO (lc lo n) acc.toList:=by
 refine u7 (by rw[Array.length_toList,h.1];simp[lc]) λj v hj=>?_
 obtain⟨t,e⟩:=h.2 j v (by rw[<-Array.getElem?_toList];exact hj);have hjn:j<n:=by
  have:=(List.getElem?_eq_some_iff.mp hj).1;rw[Array.length_toList,h.1]at this;exact this
 refine⟨.int (lo+j),?_,t,by rw[e];simp⟩;unfold lc;rw[List.getElem?_map,List.getElem?_range hjn];rfl
theorem yf(lo:Int)(n:Nat):(lc lo n).length=n:=by simp[lc]
def Lo(mk:List V->HO)(ta:TA):TE:=λσ H Q=>ta σ H λvs H1=>∃j:Int,vs=[.int j]/\j<=16777216/\-(2 ^ 62)<=j/\∀l,H1 l=none->Q (.ref l) (dj H1 l (mk (lc 0 j.toNat)))
theorem CO{ta:TA}(T:Tb X nl G)(i:Nat)(hGi:G[i]?=some ("tuple" : Str))(hmi:X.mg "tuple" = none)(j:Nat)(hG:G[j]?=some ("range" : Str))(hm:X.mg "range" = none)(ha:PA X [a] ta)(hs:bn a=true:=by rfl) :
  PE X (.Call (.Name "tuple" p) [.Call (.Name "range" p2) [a] [] pos2] [] pos) (Lo .tup ta):=by
 intro pins s σ H Q I h;have g1:=T.gl _ (List.mem_of_getElem? hGi);have g2:=T.gl _ (List.mem_of_getElem? hG);have sc:starEach [Expr.Call (.Name "range" p2) [a] [] pos2] X.env=(false,eval (Expr.Call (.Name "range" p2) [a] [] pos2) X.env)::starEach [] X.env:=bC (by rfl);refine Call_ (j8 I g1.1 hmi PyProof.Rows.boot_tuple (PyProof.Rows.callWith_type1 ?_ sc rfl));rw[sc];refine Calls.spliced_cons ?_;refine Call_ (j8 I g2.1 hm boot_range (PyProof.Rows.callWith_type1 (eR (ha pos2 pins s σ H _ I h) λus s1 zq0=>?_) (bC hs) rfl));obtain⟨vs,H1,I1,r1,q1⟩:=zq0;obtain⟨n,e,h1,h2,q⟩:=q1;subst e;obtain⟨u,rfl,t,rfl⟩:=iY r1;refine call_range_1 (Calls.spliced_nil ?_);have hsz:Builtin.Range.rangeSize 0 n 1=n.toNat:=by rw[rangeSize_one];split<;>omega
 refine oa (n:=n.toNat) (I1.ok.hd T.calm) (IsRange.new ..) (small_one (by omega) (by omega) (by omega) (by omega)) hsz (by omega) λh' tk acc kp hacc=>?_
 have kp':∀b o,s1.heap.get? b=some o->h'.get? b=some o:=λb o e=>kp b o (Qe _ e)
 have hg:s1.heap.get? h'.objs.size=none:=by
  cases e:s1.heap.get? h'.objs.size with
  |none=>rfl
  |some o=>exact absurd (Heap.lt_size (kp' _ _ e)) (Nat.lt_irrefl _)
 have hn:=wd I1 hg;refine⟨.ref h'.objs.size,_,wc (s:=s1) (t':=tk) (o:=.tup (lc 0 n.toNat)) I1 (λb o e=>Qe _ (kp' b o e)) hg hn ⟨by rw[yf,sizeLine_eq];omega,acc.toList,yz hacc,_,Heap.get?_push_size _ rfl,rfl,⟨_,by simp;rfl⟩,rfl⟩,rfl,q _ hn⟩
def F7(mk:List Qa->Qa):List Qa->R Qa
 | [.int j]=>if j<=16777216/\-(2 ^ 62)<=j then .ok (mk (bM 0 j.toNat))else .no
 | _=>.no
def BZ(fs:aV->R (List Qa)):Fe:=λρ=>fs ρ>>=F7 .tuple
def IJ(fs:aV->R (List Qa)):Fe:=λρ=>fs ρ>>=F7 .list
theorem Ao(T:Tb X nl G)(i:Nat)(hGi:G[i]?=some ("tuple" : Str))(hmi:X.mg "tuple" = none)(j:Nat)(hG:G[j]?=some ("range" : Str))(hm:X.mg "range" = none)(ha:Z.tZ X [a] fs)(hs:bn a=true:=by rfl):Z.dA X (.Call (.Name "tuple" p) [.Call (.Name "range" p2) [a] [] pos2] [] pos) (BZ fs):=⟨have ha:=ha.un;PE.imp (CO T i hGi hmi j hG hm ha hs) λσ H Q h=>(qx (I:=Rp) (f:=fs) (k:=λ_=>F7 .tuple) (gJ (X:=X) iK Q) h).post λvs H1 ⟨_,ds,_,_,p1,q1⟩=>by
  unfold F7 at q1;split at q1
  ·rename_i n;split at q1
   ·rename_i hz;simp only[RA]at p1;obtain⟨v,r',rfl,p,rfl⟩:=p1;have ev:v=.int n:=by simpa only[Rp]using p
    subst ev;exact⟨n,rfl,hz.1,hz.2,λl hl=>q1 _ _ (cQ hl _) (fQ hl (A1 0 n.toNat))⟩
   ·exact q1.elim
  ·exact q1.elim⟩
end
def A2(b:Qa->aV->Option aV)(f:Fe):Fs:=λρ=>f ρ>>=λd=>match b d ρ with
 |some ρ'=>.ok (.nx ρ')
 |none=>.no
section
variable{X:Cx}{tg e:Expr}{f:Fe}{b:Qa->aV->Option aV}{pos:Pos}
theorem Bw(he:Z.dA X e f)(hg:Z.wZ X tg b)(hs:swapsWithSole [tg] e pos.line X.env=pure false:=by rfl)(hw:swappedStores [tg] e X.env=pure none:=by rfl)(h1:(assignEach [tg] X.env).map (·.2)=[assign tg X.env]:=by rfl):Z.kG X (.Assign [tg] e pos) (A2 b f):=⟨have he:=he.un;have hg:=hg.un;λFm=>by
 refine PS.imp (CT he hg hs hw h1) λD σ H h=>?_
 refine(me (P:=iM) (f:=f) (k:=λρ d=>match b d ρ with|some ρ'=>.ok (.nx ρ')|none=>.no) h).post λv H1 zq0=>?_
 obtain⟨ρ,d,sl,_,p,q⟩:=zq0;refine⟨ρ,d,sl.sl,p,?_⟩;cases eb:b d ρ with
 |none=>rw[eb]at q;exact q
 |some ρ3=>
  rw[eb]at q;intro σ4 sl4 hown;refine q σ4 H1 ⟨sl.fm,sl4,λj e a h1 h2=>?_,λj k e f a h1 h2 h3 h4=>?_⟩
  ·obtain⟨z1,z2⟩:=hown j e h1;exact sl.own j e a z1 (by rw[<-z2];exact h2)
  ·obtain⟨z1,z2⟩:=hown j e h1;obtain⟨z3,z4⟩:=hown k f h2;exact sl.apart j k e f a z1 z3 (by rw[<-z2];exact h3) (by rw[<-z4];exact h4)⟩
end
section
variable{X:Cx}{a b:Expr}{fa fb:Fe}{pos p2:Pos}
def oZ:Qa->Qa->R Qa
 |.list xs,.int k=>if -(2 ^ 63)<=k/\k<2 ^ 63/\xs.length*k.toNat<=sizeLine then .ok (.list (Qi k.toNat xs).flatten)else .no
 | _,_=>.no
theorem xi(ha:Z.mS X a fa)(hb:Z.dA X b fb):Z.mS X (.BinOp a .Mult b pos) (e2 oZ fa fb):=⟨have ha:=ha.un;have hb:=hb.un;by
 refine PE.imp (F1 Hf ha hb) λσ H Q h=>?_
 refine(fX (P:=Br) (f:=fa) (k:=λρ x=>fb ρ>>=λy=>oZ x y) (gJ (X:=X) vT Q) h).post λv H1 zq0=>?_
 obtain⟨ρ1,d1,sl1,_,p1,q1⟩:=zq0;refine(fX (P:=iM) (f:=fb) (k:=λ_ y=>oZ d1 y) (gJ (X:=X) vT Q) ⟨ρ1,sl1,q1⟩).post λu H2 zq0=>?_
 obtain⟨_,d2,_,s2,p2,q2⟩:=zq0;cases d1 with
 |list xs=>
  cases d2 with
  |int k=>
   simp only[oZ]at q2;split at q2
   ·rename_i hz;have p1':=p1.1;simp only[iB]at p1';obtain⟨a',vs,rfl,ha',r⟩:=p1';have ev:u=.int k:=by simpa only[Rp]using p2
    have r2:=r.mono s2;exact⟨a',k,vs,rfl,ev,s2 _ _ ha',hz.1,hz.2.1,by rw[r.length];exact hz.2.2,λp hp=>q2 _ _ (cQ hp _) (dL hp (r2.rep _))⟩
   ·exact q2.elim
  | _=>exact q2.elim
 | _=>exact q2.elim⟩
def qE:Qa->Qa->R Qa
 |.list xs,.list ys=>if xs.length+ys.length<=sizeLine then .ok (.list (xs++ys))else .no
 | _,_=>.no
theorem FC:cY X Br (CY X.K) qE:=λH x y dx dy Q hx hy q=>by
 cases dx with
 |list xs=>
  cases dy with
  |list ys=>
   simp only[qE]at q;split at q
   ·rename_i h;obtain⟨a,vs,rfl,ha,r⟩:=nr hx;obtain⟨b,us,rfl,hb,r2⟩:=nr hy;exact⟨a,b,vs,us,rfl,rfl,ha,hb,by rw[r.length,r2.length];exact h,λp hp=>q _ _ (cQ hp _) (dL hp (r.append r2))⟩
   ·exact q.elim
  | _=>exact q.elim
 | _=>exact q.elim
theorem xh(ha:Z.ff X a fa)(hb:Z.ff X b fb):Z.mS X (.BinOp a .Add b pos) (e2 qE fa fb):=⟨have ha:=ha.un;have hb:=hb.un;oq vT zE FC ha hb⟩
def Iz:Qa->Option Int->Option Int->R Qa
 |.list xs,lo,hi=>.ok (.list (qD xs lo hi))
 | _,_,_=>.no
def KP(fa:Fe)(lo hi:Fo):Fe:=λρ=>fa ρ>>=λd=>lo ρ>>=λl=>hi ρ>>=λu=>Iz d l u
end
theorem bI.set{H:Hp}{d:Qa}{v:V}(p:Rp H d v):∀{ds:List Qa} {vs:List V} (j:Nat),bI H ds vs->bI H (ds.set j d) (vs.set j v)
 | [],vs,j,r=>by rw[r.nil_inv];exact bI.nil
 |d'::ds,vs,j,r=>by
  obtain⟨v',r',rfl,p',t⟩:=r.cons_inv;cases j with
  |zero=>exact bI.cons p t
  |succ j=>exact bI.cons p' (bI.set p j t)
def jy(i:Nat)(fk fv:Fe):Fs:=λρ=>fv ρ>>=λv=>jG (fk ρ)>>=λk=>match ρ[i]?,k with
 |some (.own (.list ds)),.int n=>match zo ds.length n with
  |some j=>.ok (.nx (ρ.set i (.own (.list (ds.set j v)))))
  |none=>.no
 | _,_=>.no
section
variable{X:Cx}{nl:Nat}{G:List Str}{x:Str}{f:Fe}{e:Expr}
theorem lA{k v:Expr}{fk fv:Fe}{q1 q2 q3:Pos}(T:Tb X nl G)(n:Nat)(hN:X.N[n]?=some x)(hk:Z.dA X.nox k fk)(hv:Z.dA X v fv)(hs:swapsWithSole [.Subscript (.Name x q1) k q2] v q3.line X.env=pure false:=by rfl)(hw:swappedStores [.Subscript (.Name x q1) k q2] v X.env=pure none:=by rfl)(h1:(assignEach [.Subscript (.Name x q1) k q2] X.env).map (·.2)=[assign (.Subscript (.Name x q1) k q2) X.env]:=by rfl) (ha:∀v,assign (.Subscript (.Name x q1) k q2) X.env v=(do
   let ov <-holding [v] (eval (.Name x q1) X.env)
   let iv <-holding [v,ov] (eval k X.env)
   standAt q2
   holding [v,ov,iv] (setItem ov iv v)
   release [v,ov,iv] []):=by intro _;rfl):Z.kG X (.Assign [.Subscript (.Name x q1) k q2] v q3) (jy n fk fv):=⟨have hk:=hk.un;have hv:=hv.un;λFm=>by
 have hm:=T.vis x (List.mem_of_getElem? hN);have hkX:PE X k (λσ H Q=>lH X.nox iM fk σ H Q):=λpins s σ H Q I h=>wpAny_mono (hk pins s σ H Q (I.wish _) h) (λv s' ⟨y,H',I',r,q⟩=>⟨y,H',I'.unwish,r,q⟩) λ_ _ z=>False.elim z
 refine PS.imp (CT hv (Hv (jg hN hm.1 hm.2.1 hm.2.2) hkX Dj ha) hs hw h1) λD σ H h=>?_
 refine(me (P:=iM) (f:=fv) (k:=λρ v=>jG (fk ρ)>>=λk=>match ρ[n]?,k with
  |some (.own (.list ds)),.int m=>match zo ds.length m with
   |some j=>.ok (.nx (ρ.set n (.own (.list (ds.set j v)))))
   |none=>.no
  | _,_=>.no) h).post λvv H1 ⟨ρ1,dv,sl1,_,p1,q1⟩=>?_
 cases ef:fk ρ1 with
 |ex c=>rw[ef]at q1;exact q1.elim
 |no=>rw[ef]at q1;exact q1.elim
 |ok kd=>
  rw[ef]at q1;simp only[jG,R.ok_bind]at q1;cases er:ρ1[n]? with
  |none=>rw[er]at q1;exact q1.elim
  |some c=>
   rw[er]at q1;cases c with
   |non=>exact q1.elim
   |exc p=>exact q1.elim
   |val d'=>exact q1.elim
   |own d'=>
    cases d' with
    |list ds=>
     cases kd with
     |int m=>
      dsimp only at q1;cases ei:zo ds.length m with
      |none=>rw[ei]at q1;exact q1.elim
      |some j=>
       rw[ei]at q1;obtain⟨o,h2,w',rfl,p2⟩:=sl1.sl.at er;simp only[iB]at p2;obtain⟨a',vs,rfl,ha',r⟩:=p2;refine⟨.ref a',h2,ρ1,sl1.sl,?_⟩;rw[ef];intro yv H3 s3 p3;have ev:yv=.int m:=by simpa only[Rp]using p3
       have ha3:=s3 _ _ ha';have r3:=r.mono s3;refine⟨a',vs,m,j,rfl,ev,ha3,by rw[r.length];exact ei,q1 _ _ ((sl1.mono s3).change er h2 ha3 (.inl ⟨_,rfl⟩) ?_)⟩;simp only[iB];exact⟨a',_,rfl,bh,bI.kp (gA ha3 (.inl ⟨_,rfl⟩)) _ _ (bI.set (p1.mono s3) j r3)⟩
     | _=>exact q1.elim
    | _=>exact q1.elim⟩
def Kf(g:Int->Int->Int):Qa->Qa->R Qa
 |.int i,.int j=>.ok (.int (g i j))
 | _,_=>.no
def A4(i:Nat)(g:Int->Int->Int)(f:Fe):Fs:=λρ=>ag i ρ>>=λx=>f ρ>>=λy=>Kf g x y>>=λz=>.ok (.nx (ρ.set i (.val z)))
theorem Ew{op:Operator}{g:Int->Int->Int}{pos pos':Pos}(ho:Kz X op (LC g))(T:Tb X nl G)(i:Nat)(hN:(X.N.take nl)[i]?=some x)(he:dA X e f):kG X (.AugAssign (.Name x pos') op e pos) (A4 i g f):=λFm=>by
 obtain⟨n1,n2,n3⟩:=T.nm hN;refine PS.imp (Hy T.nd n1 n2 he ho n3) λD σ H h=>?_
 obtain⟨ρ,sl,q⟩:=h;unfold A4 at q;cases ev:ag i ρ with
 |ex c=>exact absurd ev (by unfold ag;split<;>simp)
 |no=>rw[ev]at q;exact q.elim
 |ok dx=>
  rw[ev]at q;simp only[R.ok_bind]at q;have hc:ρ[i]?=some (.val dx):=by
   unfold ag at ev;split at ev
   ·rename_i d hd;cases ev;exact hd
   ·cases ev
  obtain⟨o,h2,w',rfl,p2⟩:=sl.sl.at hc;refine⟨w',h2,?_⟩;refine(me (P:=iM) (f:=f) (k:=λρ y=>Kf g dx y>>=λz=>.ok (.nx (ρ.set i (.val z)))) ⟨ρ,sl,q⟩).post λv H1 zq0=>?_
  obtain⟨ρ1,d,sl1,s1,p,q1⟩:=zq0;cases dx with
  |int a=>
   cases d with
   |int b=>
    have e1:w'=.int a:=by simpa only[Rp]using p2
    have e2:v=.int b:=by simpa only[Rp]using p
    subst e1;subst e2;exact⟨a,b,rfl,rfl,q1 _ H1 (sl1.set i (λe z=>by cases z) ⟨.int (g a b),rfl,fF⟩)⟩
   | _=>exact q1.elim
  | _=>exact q1.elim
theorem Am{pos pos':Pos}(T:Tb X nl G)(i:Nat)(hN:(X.N.take nl)[i]?=some x)(he:Z.dA X e f):Z.kG X (.AugAssign (.Name x pos') .Add e pos) (A4 i (λa b=>a+b) f):=⟨have he:=he.un;Ew GS T i hN he⟩
end
def A5(i n:Nat):Fs:=λρ=>match ρ[n]? with
 |some (.own (.list ds))=>match ds[ds.length-1]? with
  |some d=>.ok (.nx ((ρ.set n (.own (.list ds.dropLast))).set i (.val d)))
  |none=>.no
 | _=>.no
theorem bI.dropLast{H:Hp}:∀{ds:List Qa} {vs:List V},bI H ds vs->bI H ds.dropLast vs.dropLast
 | [],vs,r=>by rw[r.nil_inv];exact bI.nil
 | [d],vs,r=>by
  obtain⟨v',r',rfl,p',t⟩:=r.cons_inv;rw[t.nil_inv];exact bI.nil
 |d::d2::ds,vs,r=>by
  obtain⟨v',r',rfl,p',t⟩:=r.cons_inv;obtain⟨v2,r2,rfl,p2,t2⟩:=t.cons_inv;exact bI.cons p' (bI.dropLast t)
section
variable{X:Cx}{nl:Nat}{G:List Str}{x y:Str}{f:Fe}{e:Expr}{q1 q2 q3 q4 q5:Pos}
theorem Bx(T:Tb X nl G)(i:Nat)(hi:(X.N.take nl)[i]?=some y)(n:Nat)(hN:X.N[n]?=some x)(hs:swapsWith (.Call (.Attribute (.Name x q1) "pop" q2) [] [] q3) (some (.Name y q5)) q4.line X.env=pure false:=by rfl)(hline:(q2.endLine==q3.line)=true:=by rfl)(hbase:attributeBase (.Name x q1) "pop" X.env (eval (.Name x q1) X.env)=eval (.Name x q1) X.env:=by rfl):Z.kG X (.Assign [.Name y q5] (.Call (.Attribute (.Name x q1) "pop" q2) [] [] q3) q4) (A5 i n):=⟨λFm=>by
 have hm:=T.vis x (List.mem_of_getElem? hN);obtain⟨n1,n2,n3⟩:=T.nm hi;refine PS.imp (yc T.nd n1 n2 (Hk PySem.F.plainAttrs_list PySem.F.slot_list_pop PySem.F.type_list_pop G7 (jg hN hm.1 hm.2.1 hm.2.2) hbase hline) hs n3) λD σ H h=>?_
 obtain⟨ρ,sl,q⟩:=h;unfold A5 at q;cases er:ρ[n]? with
 |none=>rw[er]at q;exact q.elim
 |some c=>
  rw[er]at q;cases c with
  |non=>exact q.elim
  |exc p=>exact q.elim
  |val d'=>exact q.elim
  |own d'=>
   cases d' with
   |list ds=>
    dsimp only at q;cases ed:ds[ds.length-1]? with
    |none=>rw[ed]at q;exact q.elim
    |some d=>
     rw[ed]at q;obtain⟨o,h2,w',rfl,p2⟩:=sl.sl.at er;simp only[iB]at p2;obtain⟨a',vs,rfl,ha,r⟩:=p2;obtain⟨v,hv,pv⟩:=r.get ed;refine⟨.ref a',h2,.inl ⟨rfl,_,pX.of ha⟩,a',vs,v,rfl,rfl,ha,by rw[r.length];exact hv,?_⟩;have kp:=gA (o':=.lst vs.dropLast) ha (.inl ⟨_,rfl⟩);refine q _ _ (iN.set (sl.change er h2 ha (.inl ⟨_,rfl⟩) ?_) i (λe z=>by cases z) ⟨v,rfl,Rp.kp kp _ _ pv⟩);simp only[iB];exact⟨a',_,rfl,bh,bI.kp kp _ _ (bI.dropLast r)⟩
   | _=>exact q.elim⟩
end
def rf:ba->ba
 |.own _=>.non
 |c=>c
def j9(i:Nat)(d:Qa)(ρ:aV):aV:=(ρ.map rf).set i (.val d)
def lV:Qa->R Qa
 |.none=>.ok .none
 |.bool b=>.ok (.bool b)
 |.int k=>.ok (.int k)
 |.str x=>.ok (.str x)
 |.tuple ds=>match eZ ds with
  |some _=>.ok (.tuple ds)
  |none=>.no
 | _=>.no
theorem BI{d:Qa}{c:Str}:lV d≠.ex c:=by
 cases d with
 |tuple ds=>
  show(match eZ ds with|some _=>R.ok (Qa.tuple ds)|none=>.no)≠_;cases eZ ds<;>exact λz=>nomatch z
 | _=>exact λz=>nomatch z
def jq(i:Nat)(f:Fe):Fe:=λρ=>match ρ[i]? with
 |some (.own d)=>jG (f (j9 i d ρ))>>=lV
 | _=>f ρ
section
variable{X:Cx}{pins:List (Addr×Obj)}{σ:St}{H H1:Hp}{s s':Shared}{a:Addr}{u:HO}{o:Obj}
theorem A6(h:H a=some u)(S:aN (dj H a (.frz o u)) H1):aN H (dj H1 a u):=λb x e=>by
 by_cases hb:b=a
 ·subst hb;rw[bh];rw[h]at e;exact e
 ·rw[aD hb];exact S b x (by rw[aD hb];exact e)
theorem Cd(I:aT X pins σ H s)(h:H a=some u)(hm:∀o' u',u≠.frz o' u')(S:aN (dj H a (.frz o u)) H1)(J:aT X pins σ H1 s'):aT X pins σ (dj H1 a u) s':=by
 have ha:H1 a=some (.frz o u):=S a _ bh;have nt:∀b xs,H1 b=some (.tup xs)->b≠a:=λb xs q z=>by subst z;rw[ha]at q;cases q
 have nb:∀b ps,H1 b=some (.tbl ps)->b≠a:=λb ps q z=>by subst z;rw[ha]at q;cases q
 have nw:∀b y,H1 b=some (.own y)->b≠a:=λb y q z=>by subst z;rw[ha]at q;cases q
 have nn:∀b,H1 b=none->b≠a:=λb q z=>by subst z;rw[ha]at q;cases q
 have st:∀b x,cD X.prog X.w H1 s'.heap b x->cD X.prog X.w (dj H1 a u) s'.heap b x:=λb x q=>
  q.stay (λc v _ e=>e) (λc e=>by rw[aD (nw _ _ e)];exact e) λc xs e=>by rw[aD (nt _ _ e)];exact e
 refine⟨J.ok,J.os,J.bare,⟨J.base.keep,J.base.slot,λb ob' e n hx=>?_,J.base.there,λb xs e=>?_,λb ob' v e=>?_,λb ps e=>?_⟩,J.loc,J.cell,?_,λx c e=>?_,λp hp=>?_,λb x e=>?_,J.len⟩
 ·have:=J.base.free b ob' e n hx;rw[aD (nn _ this)];exact this
 ·have:=J.base.tups b xs e;rw[aD (nt _ _ this)];exact this
 ·have q:=I.base.frzs b ob' v e;have hb:b≠a:=λz=>by subst z;rw[h]at q;exact hm _ _ (Option.some.inj q)
  rw[aD hb];exact J.base.frzs b ob' v e
 ·obtain⟨m,q⟩:=J.base.tbls b ps e;exact⟨m,by rw[aD (nb _ _ q)];exact q⟩
 ·rw[aD (nn _ J.free)];exact J.free
 ·rw[aD (nn _ (J.freeC x c e))];exact J.freeC x c e
 ·obtain⟨p1,p2,p3⟩:=J.pin p hp;exact⟨p1,by rw[aD (nn _ p2)];exact p2,p3⟩
 ·by_cases hb:b=a
  ·subst hb;rw[bh]at e;cases e;obtain⟨_,q⟩:=(show cD X.prog X.w H1 s'.heap b (.frz o u)from J.hok b _ ha)
   exact st b u q
  ·rw[aD hb]at e;exact st b x (J.hok b x e)
theorem uP{ρ:aV}{i:Nat}{d:Qa}{v:V}(sl:Sl H σ ρ)(k:Kp H H1)(hv:σ[i]?=some (some v))(hr:Rp H1 d v):Sl H1 σ (j9 i d ρ):=by
 unfold j9;refine⟨by rw[List.length_set,Qd];exact sl.1,λj c w' e1 e2=>?_⟩;rw[List.getElem?_set]at e1;by_cases hij:i=j
 ·subst hij;rw[if_pos rfl]at e1;split at e1
  ·cases e1;rw[hv]at e2;cases e2;exact⟨_,rfl,hr⟩
  ·cases e1
 ·rw[if_neg hij,List.getElem?_map]at e1;cases ec:ρ[j]? with
  |none=>rw[ec]at e1;cases e1
  |some c'=>
   rw[ec]at e1;have e1':rf c'=c:=Option.some.inj e1;subst e1';have q:=sl.2 j c' w' ec e2;cases c' with
   |exc p=>exact q
   |non=>exact True.intro
   |val d'=>obtain⟨v,z1,z2⟩:=q;exact⟨v,z1,Rp.kp k _ _ z2⟩
   |own d'=>exact True.intro
end
theorem tG{H H':Hp}:∀{ns:List Int} {vs:List V},bI H (ns.map .int) vs->bI H' (ns.map .int) vs
 | [],vs,r=>by rw[r.nil_inv];exact bI.nil
 |n::ns,vs,r=>by
  rw[List.map_cons]at r;obtain⟨v,r',rfl,p,t⟩:=r.cons_inv;exact bI.cons (by simp only[Rp]at p ⊢;exact p) (tG t)
theorem Ed{H H':Hp}{d d':Qa}{v:V}(kt:∀b xs,H b=some (.tup xs)->H' b=some (.tup xs))(h:lV d=.ok d')(r:Rp H d v):Rp H' d' v:=by
 cases d with
 |tuple ds=>
  cases ei:eZ ds with
  |none=>
   rw[show lV (.tuple ds)=(match eZ ds with|some _=>R.ok (Qa.tuple ds)|none=>.no)from rfl,ei]at h;cases h
  |some ns=>
   rw[show lV (.tuple ds)=(match eZ ds with|some _=>R.ok (Qa.tuple ds)|none=>.no)from rfl,ei]at h;cases h;simp only[Rp]at r ⊢;obtain⟨a,vs,e,ha,q⟩:=r;rw[jZ ei]at q ⊢;exact⟨a,vs,e,kt a vs ha,tG q⟩
 |none=>cases h;simp only[Rp]at r ⊢;exact r
 |bool b=>cases h;simp only[Rp]at r ⊢;exact r
 |int i=>cases h;simp only[Rp]at r ⊢;exact r
 |str x=>cases h;simp only[Rp]at r ⊢;exact r
 |list ds=>cases h
 |dict kvs=>cases h
theorem dA.lent{X:Cx}{e:Expr}{f:Fe}(i:Nat)(h:dA X e f):dA X e (jq i f):=by
 intro pins s σ H Q I q;obtain⟨ρ,sl,q⟩:=q;by_cases ho:∃d,ρ[i]?=some (.own d)
 ·obtain⟨d,ho⟩:=ho;have el:jq i f ρ=(jG (f (j9 i d ρ))>>=lV):=by unfold jq;rw[ho]
  rw[el]at q;have go:∀(a:Addr) (u:HO) (hu:H a=some u) (hm:∀o' u',u≠.frz o' u') (o:Obj) (J:aT X pins σ (dj H a (.frz o u)) s) (sl1:Sl (dj H a (.frz o u)) σ (j9 i d ρ)),wpAny (model X.prog X.w) X.A (eval e X.env) (EP X pins σ Q) X.xe s:=λa u hu hm o J sl1=>by
   cases ef:f (j9 i d ρ)with
   |no=>rw[ef]at q;exact q.elim
   |ex c=>rw[ef]at q;exact q.elim
   |ok d1=>
    rw[ef]at q;change yg X iM (lV d1) H Q at q;cases ea:lV d1 with
    |no=>rw[ea]at q;exact q.elim
    |ex c=>exact(BI ea).elim
    |ok d2=>
     rw[ea]at q;refine eR (h pins s σ (dj H a (.frz o u)) (λv H'=>aN (dj H a (.frz o u)) H'/\Rp H' d1 v) J ⟨j9 i d ρ,sl1,by rw[ef];exact λv H' hs p=>⟨hs,p⟩⟩) λw s' ⟨v,H',J',r,hs,p⟩=>?_
     exact⟨v,dj H' a u,Cd I hu hm hs J',r,q v _ (A6 hu hs) (Ed (λb xs e=>by
      have hb:b≠a:=λz=>by subst z;rw[hs b _ bh]at e;cases e
      rw[aD hb];exact e) ea p)⟩
  obtain⟨w',h2,v,rfl,qo⟩:=sl.at ho;cases d<;>simp only[iB]at qo
  ·rename_i ds;obtain⟨a,vs,rfl,ha,r⟩:=qo;obtain⟨o,J⟩:=iL I ha (.inl ⟨_,rfl⟩);have kp:=gA (o':=.frz o (.lst vs)) ha (.inl ⟨_,rfl⟩);have hr:Rp (dj H a (.frz o (.lst vs))) (.list ds) (.ref a):=by
    simp only[Rp];exact⟨a,o,vs,rfl,bh,bI.kp kp _ _ r⟩
   exact go a _ ha (λ_ _ z=>by cases z) o J (uP sl kp h2 hr)
  ·rename_i ds;rcases qo with⟨a,vs,rfl,ha,r⟩| ⟨a,vs,rfl,ha,r⟩
   ·obtain⟨o,J⟩:=iL I ha (.inr ⟨_,rfl⟩);have kp:=gA (o':=.frz o (.dK vs)) ha (.inr ⟨_,rfl⟩);have hr:Rp (dj H a (.frz o (.dK vs))) (.dict ds) (.ref a):=by
     simp only[Rp];exact .inl ⟨a,o,vs,rfl,bh,fL.kp kp _ _ r⟩
    exact go a _ ha (λ_ _ z=>by cases z) o J (uP sl kp h2 hr)
   ·obtain⟨o,J⟩:=k9 I ha;have kp:=lG (o':=.frz o (.dT vs)) ha;have hr:Rp (dj H a (.frz o (.dT vs))) (.dict ds) (.ref a):=by
     simp only[Rp];exact .inr (.inr ⟨a,o,vs,rfl,bh,pW.kp kp _ _ r⟩)
    exact go a _ ha (λ_ _ z=>by cases z) o J (uP sl kp h2 hr)
 ·have el:jq i f ρ=f ρ:=by
   unfold jq;split
   ·rename_i d e1;exact(ho ⟨d,e1⟩).elim
   ·rfl
  rw[el]at q;exact h pins s σ H Q I ⟨ρ,sl,q⟩
theorem qp{X:Cx}{e:Expr}{f:Fe}(i:Nat)(h:Z.dA X e f):Z.dA X e (jq i f):=
 ⟨D2.dA.lent i h.un⟩
def B9(C:Addr)(names:List Str)(ds:List Qa):Qa:=.dict ((.none,.int C)::(names.zip ds).map λp=>(.str p.1,p.2))
def xE(f:Str):List (Qa×Qa)->R Qa
 | []=>.no
 | (.str x,d)::r=>if x=f then .ok d else xE f r
 | _::_=>.no
def mn(C:Addr)(f:Str):Qa->R Qa
 |.dict ((.none,.int c)::kvs)=>if c=(C:Int)then xE f kvs else .no
 | _=>.no
def BX(C:Addr)(names:List Str)(fs:aV->R (List Qa)):Fe:=λρ=>fs ρ>>=λds=>.ok (B9 C names ds)
def Ko(C:Addr)(names:List Str):Sp:=λvs H Q _=>∃x dx ws,vs=.ref x::ws/\H x=some (.ins C dx [])/\ws.length=names.length/\∀H',H' x=some (.ins C dx (names.zip ws))->(∀b,b≠x->H' b=H b)->Q .non H'
section
variable{X:Cx}{pins:List (Addr×Obj)}{σ:St}{H:Hp}{s:Shared}{a C dx:Addr}{fs:List (Str×V)}
theorem wb(I:aT X pins σ H s)(h:H a=some (.ins C dx fs)):∃o,aT X pins σ (dj H a (.frz o (.ins C dx fs))) s:=by
 have ob:=I.hok a _ h;obtain⟨o,hg⟩:=uR ob;have nt:∀b xs,H b=some (.tup xs)->b≠a:=λb xs q z=>by subst z;rw[h]at q;cases q
 have nf:∀b o' u',H b=some (.frz o' u')->b≠a:=λb o' u' q z=>by subst z;rw[h]at q;cases q
 have nb:∀b ps,H b=some (.tbl ps)->b≠a:=λb ps q z=>by subst z;rw[h]at q;cases q
 have nw:∀b y,H b=some (.own y)->b≠a:=λb y q z=>by subst z;rw[h]at q;cases q
 have nn:∀b,H b=none->b≠a:=λb q z=>by subst z;rw[h]at q;cases q
 have st:∀b x,cD X.prog X.w H s.heap b x->cD X.prog X.w (dj H a (.frz o (.ins C dx fs))) s.heap b x:=λb x q=>
  q.stay (λc v _ e=>e) (λc e=>by rw[aD (nw _ _ e)];exact e) λc xs e=>by rw[aD (nt _ _ e)];exact e
 refine⟨o,⟨I.ok,I.os,I.bare,⟨I.base.keep,I.base.slot,λb ob' e n hx=>?_,I.base.there,λb xs e=>?_,λb ob' v e=>?_,λb ps e=>?_⟩,I.loc,I.cell,?_,λx c e=>?_,λp hp=>?_,λb x e=>?_,I.len⟩⟩
 ·have:=I.base.free b ob' e n hx;rw[aD (nn _ this)];exact this
 ·have:=I.base.tups b xs e;rw[aD (nt _ _ this)];exact this
 ·have:=I.base.frzs b ob' v e;rw[aD (nf _ _ _ this)];exact this
 ·obtain⟨m,q⟩:=I.base.tbls b ps e;exact⟨m,by rw[aD (nb _ _ q)];exact q⟩
 ·rw[aD (nn _ I.free)];exact I.free
 ·rw[aD (nn _ (I.freeC x c e))];exact I.freeC x c e
 ·obtain⟨p1,p2,p3⟩:=I.pin p hp;exact⟨p1,by rw[aD (nn _ p2)];exact p2,p3⟩
 ·by_cases hb:b=a
  ·subst hb;rw[bh]at e;cases e;exact⟨hg,st b _ ob⟩
  ·rw[aD hb]at e;exact st b x (I.hok b x e)
theorem ER{o':HO}(h:H a=some (.ins C dx fs)):Kp H (dj H a o'):=by
 refine⟨λb xs e=>?_,λb o v e=>?_⟩
 ·rw[aD];exact e;rintro rfl;rw[h]at e;cases e
 ·rw[aD];exact e;rintro rfl;rw[h]at e;cases e
end
theorem zT{H:Hp}:∀{names:List Str} {ds:List Qa} {vs:List V},bI H ds vs->wN H ((names.zip ds).map λp=>(.str p.1,p.2)) (names.zip vs)
 | [],ds,vs,_=>by simp only[List.zip_nil_left,List.map_nil,wN]
 |n::names,[],vs,r=>by
  simp only[bI]at r;subst r;simp only[List.zip_nil_right,List.map_nil,wN]
 |n::names,d::ds,vs,r=>by
  simp only[bI]at r;obtain⟨v,t,rfl,p,q⟩:=r;simp only[List.zip_cons_cons,List.map_cons,wN,FO];exact⟨n,v,_,rfl,⟨rfl,p⟩,zT q⟩
theorem zc{H:Hp}{f:Str}{d:Qa}:∀{kvs:List (Qa×Qa)} {fs:List (Str×V)},wN H kvs fs->xE f kvs=.ok d->∃v,fs.lookup f=some v/\Rp H d v
 | [],fs,_,e=>by cases e
 | (k,d')::kvs,fs,r,e=>by
  simp only[wN,FO]at r;obtain⟨x,v,t,rfl,⟨rfl,p⟩,q⟩:=r;simp only[xE]at e;by_cases h:x=f
  ·rw[if_pos h]at e;cases e;subst h;exact⟨v,by rw[List.lookup_cons_self],p⟩
  ·rw[if_neg h]at e;obtain⟨w,w1,w2⟩:=zc q e;refine⟨w,?_,w2⟩;rw[List.lookup_cons];have:(f==x)=false:=by
    cases z:f==x with
    |false=>rfl
    |true=>exact(h (eq_of_beq z).symm).elim
   rw[this];exact w1
theorem zb{f:Str}{c:Str}:∀{kvs:List (Qa×Qa)},xE f kvs≠.ex c
 | [],e=>by cases e
 | (k,d)::kvs,e=>by
  cases k<;>simp only[xE]at e<;>try cases e
  split at e
  ·cases e
  ·exact zb e
section
variable{X:Cx}{e:Expr}{es:List Expr}{fe:Fe}{pos p:Pos}{nl:Nat}{G:List Str}{x:Str}
theorem vD{k:Nat}{C f:Addr}{fd:Qh}{ps names:List Str}{fs:aV->R (List Qa)}(M:Mk X.K C f)(F:bc X.prog X.w X.K X.mg X.base (cX X.prog X.w X.mg) k f fd ps (Ko C names))(hr:fW (k+1) X.A)(T:Tb X nl G)(j:Nat)(hG:G[j]?=some x)(hm:X.mg x=some (.ref C))(hb:bx X.K fd ps [])(ha:Z.tZ X (e::es) fs)(hfs:∀ρ ds,fs ρ=.ok ds->ds.length=names.length)(he:(e::es).all bn=true:=by rfl):Z.dA X (.Call (.Name x p) (e::es) [] pos) (BX C names fs):=⟨have ha:=ha.un;by
 rw[List.all_cons,Bool.and_eq_true]at he;have g:=T.gl x (List.mem_of_getElem? hG);intro pins s σ H Q I ⟨ρ,sl,q⟩;unfold BX at q;have base:=E9 (p:=p) (pos:=pos) M F hr g.1 hm hb .nil uT ha g.2.1 (bC he.1) (ls he.2);cases e1:fs ρ with
 |ex c=>rw[e1]at q;exact eR (base pins s σ H (λ_ _=>False) I ⟨ρ,sl,by rw[e1];exact q⟩) λu s' ⟨v,H',I',r,z⟩=>z.elim
 |no=>rw[e1]at q;exact q.elim
 |ok ds=>
  rw[e1]at q;have q':yg X iM (.ok (B9 C names ds)) H Q:=q;refine eR (base pins s σ H (λv H'=>∃a dx vs,v=.ref a/\H a=none/\H' a=some (.ins C dx (names.zip vs))/\bI H' ds vs/\aN H H') I ⟨ρ,sl,?_⟩) λu s' ⟨v,H',I',r,a,dx,vs,ev,hn,ha',rp,sm⟩=>?_
  ·rw[e1];intro vs H1 s1 r1 y dy hy hdy hne;rw[List.append_nil];have r2:=my.mp r1;refine⟨y,dy,vs,rfl,bh,by rw[r2.length];exact hfs ρ ds e1,λH' h1 h2=>⟨rfl,y,dy,vs,rfl,s1.free hy,h1,?_,?_⟩⟩
   ·have sm:aN H1 H':=λb o eb=>by
     rw[h2 b (bo eb hy),aD (bo eb hy),aD (bo eb hdy)];exact eb
    exact r2.mono sm
   ·intro b o eb;have eb1:=s1 b o eb;rw[h2 b (bo eb1 hy),aD (bo eb1 hy),aD (bo eb1 hdy)];exact eb1
  ·subst ev;obtain⟨o,J⟩:=wb I' ha';have kp:=ER (o':=.frz o (.ins C dx (names.zip vs))) ha';refine⟨.ref a,_,J,r,q' _ _ (λb x eb=>by rw[aD (bo eb hn)];exact sm b x eb) ?_⟩;show Rp _ (B9 C names ds) _;unfold B9;simp only[Rp];refine .inr (.inl ⟨a,o,C,dx,_,rfl,bh,?_⟩);simp only[yG];exact⟨True.intro,wN.kp kp _ _ (zT rp)⟩⟩
def JN(K:PySem.W.Frag)(ta:TE)(f:Str):TE:=λσ H Q=>ta σ H λx H1=>∃a o C dx fs v,x=.ref a/\H1 a=some (.frz o (.ins C dx fs))/\Bk K C/\fV K C f/\fs.lookup f=some v/\Q v H1
theorem E8{f:Str}{ta:TE}(he:PE X e ta)(hb:attributeBase e f X.env (eval e X.env)=eval e X.env):PE X (.Attribute e f pos) (JN X.K ta f):=by
 intro pins s σ H Q I h;refine Ee hb (eR (he pins s σ H _ I h) λu s1 zq0=>?_);obtain⟨x,H1,I1,rx,a,o,C,dx,fs,v,ex,ea,c,n,l,q⟩:=zq0;subst ex;obtain rfl:u=Value.ref a:=rx;obtain⟨_,d,z,ne,ob,mA,nn,r,qq⟩:=(show cD X.prog X.w H1 s1.heap a (.frz o (.ins C dx fs))from I1.hok a _ ea)
 obtain⟨u',hu,ru⟩:=n5.some_of (v:=v) (o:=mA f) (by rw[<-l];exact r f);exact EE I1.kIn ⟨ob,nn,ne⟩ (c.get f) c.hd n hu (AI ru) ⟨v,H1,I1.tok _,ru,q⟩
theorem mX{C:Addr}{f:Str}(cl:Bk X.K C)(na:fV X.K C f)(he:Z.dA X e fe)(hb:attributeBase e f X.env (eval e X.env)=eval e X.env:=by rfl):Z.dA X (.Attribute e f pos) (e1 (mn C f) fe):=⟨have he:=he.un;by
 refine PE.imp (E8 he hb) λσ H Q h=>?_
 refine(fX (P:=iM) (f:=fe) (k:=λ_ x=>mn C f x) (gJ (X:=X) iK Q) h).post λv H1 zq0=>?_
 obtain⟨_,d1,_,_,p1,q1⟩:=zq0;unfold mn at q1;split at q1
 ·rename_i c kvs;split at q1
  ·rename_i hc;cases ef:xE f kvs with
   |no=>rw[ef]at q1;exact q1.elim
   |ex c=>exact(zb ef).elim
   |ok d=>
    rw[ef]at q1;have p2:Rp H1 (.dict ((.none,.int c)::kvs)) v:=p1;simp only[Rp]at p2;rcases p2 with⟨a,o,ks,rfl,ha,r⟩| ⟨a,o,C',dx,fs,rfl,ha,r⟩| ⟨a,o,ks,rfl,ha,r⟩
    ·simp only[fL,yH]at r;obtain⟨κ,_,_,_,⟨r1,_⟩,_⟩:=r;cases κ<;>cases r1
    ·simp only[yG]at r;obtain⟨r1,r2⟩:=r;have hC:c=(C':Int):=by injection r1 with _ r3;injection r3
     have hCC:C'=C:=by
      have:(C':Int)=(C:Int):=hC.symm.trans hc;exact Int.ofNat.inj this
     subst hCC;obtain⟨w,w1,w2⟩:=zc r2 ef;exact⟨a,o,C',dx,fs,w,rfl,ha,cl,na,w1,q1 w H1 (aN.refl _) w2⟩
    ·simp only[pW]at r;cases r.1
  ·exact q1.elim
 ·exact q1.elim⟩
end
theorem Jo{a b c:Str}{x y z:V}(h1:¬a=b)(h2:¬a=c)(h3:¬b=c):jx c z (jx b y (jx a x []))=[(a,x),(b,y),(c,z)]:=by
 simp only[jx,if_neg h1,if_neg h2,if_neg h3]
abbrev gh:=List Qa->R Qa
structure gt(P:Program)(w:World)(K:PySem.W.Frag)(mg:Str->Option Value)(base:Heap)(k:Nat)(x:Str)(ps:List Str)(F:gh)(f:Addr)(fd:Qh):Prop where
 ok:bc P w K mg base (cX P w mg) k f fd ps (dN F ps.length)
 m:mg x=some (.ref f)
 kp:PySem.W.keepIn K (.ref f)=true
 b:bx K fd ps []
theorem av{X:Cx}{k:Nat}{f:Addr}{fd:Qh}{ps:List Str}{F:gh}{x:Str}{p pos:Pos}{e:Expr}{es:List Expr}{fs:aV->R (List Qa)}{nl:Nat}{G:List Str}(C:gt X.prog X.w X.K X.mg X.base k x ps F f fd)(hr:fW k X.A)(T:Tb X nl G)(j:Nat)(hG:G[j]?=some x)(ha:Z.tZ X (e::es) fs)(hlen:(e::es).length=ps.length)(hfs:∀ρ ds,fs ρ=.ok ds->ds.length=ps.length)(he:(e::es).all bn=true:=by rfl):Z.dA X (.Call (.Name x p) (e::es) [] pos) (aC F fs):=⟨have ha:=ha.un;Ez C.ok hr T j hG C.m C.kp C.b ha hlen hfs he⟩
structure cC(K:PySem.W.Frag)(x:Str)(st:Stmt)(f:Addr)(fd:Qh):Prop where
 ns:PySem.W.nsIn K mainGlobals x=some (some (.ref f))
 fn:gq K x x st f fd
theorem BU{K:PySem.W.Frag}{x:Str}{st:Stmt}{f:Addr}{oc:Value}{od an:Option Addr}{osl:Array (Option Value)}{kV doc pm cdv ct:Value}(a:PySem.W.nsIn K mainGlobals x=some (some (.ref f)))(l:K.lookup f=some ⟨oc,od,.func (PySem.W.fnOf x x (eI st) (cZ st) (ao st) .none kV doc pm an cdv ct),osl⟩)(c:PySem.W.codeIn K cdv x=true)(k:PySem.W.keepIn K (.ref f)=true) :
  cC K x st f (PySem.W.fnOf x x (eI st) (cZ st) (ao st) .none kV doc pm an cdv ct):=⟨a,xH l c k⟩
def HI(i:Nat)(g:Fs):Fs:=λρ=>match ρ[i]? with
 |some (.own d)=>g (ρ.set i (.val d))
 | _=>g ρ
theorem yI{X:Cx}{st:Stmt}{g:Fs}(i:Nat)(h:Z.kG X st g):Z.kG X st (HI i g):=⟨have h:=h.un;λFm=>by
 intro pins s σ H D I ⟨ρ,sl,q⟩;unfold HI at q;split at q
 ·rename_i d e;obtain⟨H2,v,I2,sl2,_,_⟩:=FR I sl e;exact h Fm pins s σ H2 D I2 ⟨_,sl2,q⟩
 ·exact h Fm pins s σ H D I ⟨ρ,sl,q⟩⟩
end D2
namespace D2
open PySem PySem.Spec PySem.Calls PySem.W PyProof.Rows L2 Builtin Builtin.ObjectAttr Builtin.Getset_descriptor
end D2
namespace D2
open PySem PySem.Spec PyProof.Rows L2 PySem.Builtin PySem.Builtin.Str
end D2
set_option maxHeartbeats 400000
namespace D2
open PySem PySem.Spec PyProof.Rows L2 PySem.Builtin
end D2
namespace D2
open PySem PySem.Spec PyProof.Rows L2
section
variable{X:Cx}{nl:Nat}{G:List Str}{a:Expr}{fa:Fe}{p pos:Pos}
def cW:List Qa->Option (List (cI×Qa))
 | []=>some []
 |.tuple [.str y,d]::r=>(cW r).map λt=>(.inr y,d)::t
 |.tuple [.int i,d]::r=>(cW r).map λt=>(.inl i,d)::t
 | _=>none
end
section
variable{X:Cx}{tg o:Expr}{fo:Fe}{apos cpos:Pos}
def FV:Qa->R (List Qa)
 |.dict kvs=>if il kvs=true then .no else .ok (kvs.map (·.1))
 | _=>.no
def Gf:Qa->R (List Qa)
 |.dict kvs=>if il kvs=true then .no else .ok (kvs.map (·.2))
 | _=>.no
def IS(f:Fe):aV->R (List Qa):=λρ=>f ρ>>=FV
def IW(f:Fe):aV->R (List Qa):=λρ=>f ρ>>=Gf
end
end D2
namespace HT
open PySem PySem.Spec PyProof.Rows L2
section
open PySem.SeqAt
open PySem.AutoSeq1 (wpAny_loadPart')
open PySem.MeetsSeq PySem.MeetsSeq2 PySem.MeetsSeq3
end
end HT
namespace D2
open PySem PySem.Spec PyProof.Rows L2
section
variable{X:Cx}{tg a b c:Expr}{fa fb fc:Fe}{pos p2:Pos}{nl:Nat}{G:List Str}{x:Str}{p:Pos}{fs:aV->R (List Qa)}
def IG(lo:Int)(n:Nat):List Qa:=(List.range n).map λ(k:Nat)=>.int (lo-k)
def II:List Qa->R (List Qa)
 | [.int i,.int j,.int k]=>if k=-1/\-(2 ^ 62)<=i/\i<2 ^ 62/\-(2 ^ 62)<=j/\j<2 ^ 62 then .ok (IG i (i-j).toNat)else .no
 | _=>.no
def IQ(fs:aV->R (List Qa)):aV->R (List Qa):=λρ=>fs ρ>>=II
end
def ql(H:Hp):List V->List (List Int)->Prop
 | [],rs=>rs=[]
 |v::vs,rs=>∃a r rs',v=.ref a/\rs=r::rs'/\H a=some (.tup (r.map V.int))/\ql H vs rs'
theorem ql.len{H:Hp}:∀{vs:List V} {rs:List (List Int)},ql H vs rs->vs.length=rs.length
 | [],rs,h=>by simp only[ql]at h;rw[h];rfl
 |v::vs,rs,h=>by
  simp only[ql]at h;obtain⟨a,r,rs',_,rfl,_,t⟩:=h;rw[List.length_cons,List.length_cons,t.len]
def Gm(lo st:Int)(n:Nat):It:=⟨λi _=>i<n,λi H x H'=>H'=H/\x=.int (lo+i*st),λi _=>n<=i⟩
theorem Bh{P:Program}{w:World}{K:PySem.W.Frag}{tg:Expr}(it:Addr)(lo stp:Int)(n:Nat):uo P w K tg (Gm lo stp n) [it] it (λi h=>IsRangeIter h it (lo+(i:Nat)*stp) ((n:Int)-(i:Nat)) stp) where
 mem:=by simp
 obj:=λi h st b hb=>by
  have e:b=it:=by simpa using hb
  subst e;exact⟨_,st,λv z=>by
   have z':Data.fields _=Data.cell v:=z;cases z'⟩
 keep:=λi h h' st k=>k it (by simp) _ st
 item:=by
  intro X hP hw hK hc i pins s σ H E I hf st hg;subst hP hw hK;obtain⟨f0,f1,f2,f3,f4,f5⟩:=hf it (by simp);have W:=Walks.range (prog:=X.prog) (w:=X.w) (I.ok.hd hc) it lo stp n;refine W.item i s _ _ hg st λv h' tk hv st' kk=>?_
  obtain⟨t,rfl⟩:=hv;have I1:aT X pins σ H { s with heap:=h',toks:=tk }:=I.turned (λb o hb e=>kk b o (by simpa using hb) e) f0 f1 f3 f4 f5;exact⟨_,rfl,v8 (s:={ s with heap:=h',toks:=tk }) (n := "range_iterator") st' rfl rfl (by decide) ⟨.int (lo+i*stp),H,I1,⟨t,rfl⟩,⟨rfl,rfl⟩,st',λb hb=>(hf b hb).1⟩⟩
 done:=by
  intro X hP hw hK hc i pins s σ H E I hf st hg;subst hP hw hK;obtain⟨f0,f1,f2,f3,f4,f5⟩:=hf it (by simp);exact wpAny_pyNext_range_end (I.ok.hd hc) st (by have:n<=i:=hg;omega) λh' eb=>⟨rfl,I.turned (t':=s.toks) (λb o hb e=>eb b o hb e) f0 f1 f3 f4 f5⟩
 self:=λ_ _ _ _ _ st h=>wpAny_pyIter_rangeiter st h
def jD(a b c:Int):Nat:=(if a<b then(b-a-1) / c+1 else 0).toNat
theorem tH{a b c:Int}(hc:1<=c):Builtin.Range.rangeSize a b c=(jD a b c:Int):=by
 unfold Builtin.Range.rangeSize jD;rw[if_pos (by omega)];split
 ·have:=Int.ediv_nonneg (a:=b-a-1) (b:=c) (by omega) (by omega);omega
 ·rfl
theorem FB{a b c:Int}(hc:1<=c):(jD a b c:Int)<=(if a<b then b-a else 0)/\(jD a b c:Int)*c<=(if a<b then b-a-1+c else 0):=by
 unfold jD;split
 ·have h0:=Int.ediv_nonneg (a:=b-a-1) (b:=c) (by omega) (by omega);have h1:(b-a-1) / c<=b-a-1:=Int.ediv_le_self _ (by omega);have h2:(b-a-1) / c*c<=b-a-1:=Int.ediv_mul_le _ (by omega);have e:(((b-a-1) / c+1).toNat:Int)=(b-a-1) / c+1:=by omega
  rw[e];refine⟨by omega,?_⟩;rw[Int.add_mul,Int.one_mul];omega
 ·simp
theorem yo{a b c:Int}(ha:-(2 ^ 40)<=a)(ha':a<2 ^ 40)(hb:-(2 ^ 40)<=b)(hb':b<2 ^ 40)(hc:1<=c)(hc':c<1000000):Builtin.Range.small a b c=true:=by
 unfold Builtin.Range.small;rw[tH hc];have h:=FB (a:=a) (b:=b) hc;simp only[Builtin.Range.rangeFitsLong,Bool.and_eq_true,Bool.or_eq_true,decide_eq_true_eq,beq_iff_eq,show c>0 by omega,if_true];split at h<;>omega
section
variable{X:Cx}{tg a b c:Expr}{fa fb fc:Fe}{pos p2:Pos}{nl:Nat}{G:List Str}{x:Str}{p:Pos}{fs:aV->R (List Qa)}
abbrev qm(i j k:Int):Prop:=1<=k/\k<1000000/\-(2 ^ 40)<=i/\i<2 ^ 40/\-(2 ^ 40)<=j/\j<2 ^ 40
def IV(ta:TA):TI:=λσ H R=>ta σ H λvs H1=>∃i j k:Int,vs=[.int i,.int j,.int k]/\qm i j k/\R (Gm i k (jD i j k)) H1
theorem AX{ta:TA}(hg:Gl X "range")(hm:X.mg "range" = none)(ha:PA X [a,b,c] ta)(hs:starEach [a,b,c] X.env=[(false,eval a X.env),(false,eval b X.env),(false,eval c X.env)])(hs2:starEach [b,c] X.env=[(false,eval b X.env),(false,eval c X.env)]) :
  PI X tg (.Call (.Name "range" p) [a,b,c] [] pos) (IV ta):=by
 intro pins s σ H R I h;refine Call_ (j8 I hg hm boot_range (PyProof.Rows.callWith_type1 (eR (ha pos pins s σ H _ I h) λus s1 ⟨vs,H1,I1,r1,q1⟩=>?_) (by rw[hs,hs2]) (by rw[hs2];rfl)));obtain⟨i,j,k,e,⟨k1,k2,q1,q2,q3,q4⟩,q⟩:=q1;subst e;cases r1 with
 |cons r rr=>
  cases rr with
  |cons r' rr=>
   cases rr with
   |cons r'' rr=>
    cases rr;obtain⟨t,rfl⟩:=r;obtain⟨t',rfl⟩:=r';obtain⟨t'',rfl⟩:=r'';refine call_range_3 (by omega) ?_ (.inl (PyProof.noPylong_small (by omega)));refine wpAny_pyIter_range (IsRange.new ..) (yo q1 q2 q3 q4 k1 k2) ?_;have I2:aT X pins σ H1 { s1 with heap:=s1.heap.push { cls:=.type "range",data:=.fields #[.int i t,.int j t',.int k t''] },toks:=s1.toks }:=I1.kept λb o e=>Qe _ e
    refine⟨_,[_],_,_,H1,rfl,I2.kept (t':=s1.toks) λb o e=>Qe _ e,Bh _ i k (jD i j k),?_,λb hb=>?_,q⟩
    ·have e1:i+((0:Nat):Int)*k=i:=by simp
     have e2:((jD i j k:Nat):Int)-((0:Nat):Int)=Builtin.Range.rangeSize i j k:=by rw[tH k1];simp
     rw[e1,e2];exact Heap.get?_push_size _ rfl
    ·have e:=List.mem_singleton.mp hb;subst e;exact I2.fpOk (Nat.le_refl _) (I2.hok.fresh (Nat.le_refl _))
def jC(lo st:Int)(n:Nat):List Qa:=(List.range n).map λ(k:Nat)=>.int (lo+k*st)
def Dp:List Qa->R (List Qa)
 | [.int i,.int j,.int k]=>if qm i j k then .ok (jC i k (jD i j k))else .no
 | _=>.no
def zk(fs:aV->R (List Qa)):aV->R (List Qa):=λρ=>fs ρ>>=Dp
theorem Ci{lo st:Int}{n:Nat}:Bq (Gm lo st n) (λ_=>True) (jC lo st n) where
 go:=λi H _ hi=>by
  show i<n;simpa[jC]using hi
 yld:=λi H x H' d _ hd ⟨e,y⟩=>by
  subst e;subst y;refine⟨aN.refl _,?_⟩;unfold jC at hd;rw[List.getElem?_map]at hd;cases h:(List.range n)[i]? with
  |none=>rw[h]at hd;cases hd
  |some k=>
   rw[h]at hd;have hk:k=i:=by
    rw[List.getElem?_range]at h
    ·exact(Option.some.inj h).symm
    ·have:=(List.getElem?_eq_some_iff.mp h).1;simpa using this
   subst hk;cases hd;exact fF
 stop:=λi H _ hi=>by
  show n<=i;simpa[jC]using hi
theorem vB(T:Tb X nl G)(j:Nat)(hG:G[j]?=some ("range" : Str))(hm:X.mg "range" = none)(ha:Z.tZ X [a,b,c] fs)(hl:∀ρ ds,fs ρ=.ok ds->ds.length=3)(hs:bn a=true:=by rfl)(hs2:bn b=true:=by rfl)(hs3:bn c=true:=by rfl):Z.vm X tg (.Call (.Name "range" p) [a,b,c] [] pos) (zk fs):=⟨have ha:=ha.un;by
 have sc:starEach [c] X.env=[(false,eval c X.env)]:=bC hs3;have sb:starEach [b,c] X.env=[(false,eval b X.env),(false,eval c X.env)]:=(bC hs2).trans (by rw[sc]);have sa:starEach [a,b,c] X.env=[(false,eval a X.env),(false,eval b X.env),(false,eval c X.env)]:=(bC hs).trans (by rw[sb]);refine PI.imp (AX (T.gl _ (List.mem_of_getElem? hG)).1 hm ha sa sb) λσ H Rk zq0=>?_
 obtain⟨ρ,sl,q⟩:=zq0;refine⟨ρ,sl,?_⟩;dsimp only[zk]at q;cases e:fs ρ with
 |ex c=>rw[e]at q;exact q
 |no=>rw[e]at q;exact q
 |ok ds=>
  rw[e]at q;have hlen:=hl ρ ds e;intro vs H1 s1 r1
  match ds,hlen with
  | [d1,d2,d3],_=>
   simp only[RA]at r1;obtain⟨v1,r',rfl,p1,v2,r'',rfl,p2,v3,r''',rfl,p3,rfl⟩:=r1;cases d1 with
   |int i=>
    cases d2 with
    |int j=>
     cases d3 with
     |int k=>
      have e1:v1=.int i:=by simpa only[Rp]using p1
      have e2:v2=.int j:=by simpa only[Rp]using p2
      have e3:v3=.int k:=by simpa only[Rp]using p3
      subst e1 e2 e3;by_cases hz:qm i j k
      ·rw[R.ok_bind,show Dp [.int i,.int j,.int k]=.ok (jC i k (jD i j k))from if_pos hz]at q;exact⟨i,j,k,rfl,hz,q _ H1 s1 ⟨_,Ci,λ_ _ _=>True.intro⟩⟩
      ·rw[R.ok_bind,show Dp [.int i,.int j,.int k]=.no from if_neg hz]at q;exact q.elim
     | _=>exact q.elim
    | _=>exact q.elim
   | _=>exact q.elim⟩
end
end D2
namespace D2
open PySem PySem.Spec PyProof.Rows
end D2
namespace D2
open PySem PySem.Spec PyProof.Rows L2
abbrev tD(x:List cI):Qa:=.tuple (x.map fO)
def qZ:List Qa->Option (List cI)
 | []=>some []
 |d::ds=>match gQ d,qZ ds with
  |some k,some ks=>some (k::ks)
  | _,_=>none
def sx:Qa->Option (List cI)
 |.tuple ds=>qZ ds
 | _=>none
theorem xR(k:cI):gQ (fO k)=some k:=by cases k<;>rfl
theorem tf:∀x:List cI,qZ (x.map fO)=some x
 | []=>rfl
 |k::x=>by
  rw[List.map_cons];show(match gQ (fO k),qZ (x.map fO)with|some k,some ks=>some (k::ks)| _,_=>none)=_;rw[xR,tf x]
theorem zr(x:List cI):sx (tD x)=some x:=tf x
theorem s9:∀{ds:List Qa} {x:List cI},qZ ds=some x->ds=x.map fO
 | [],x,h=>by cases h;rfl
 |d::ds,x,h=>by
  have h':(match gQ d,qZ ds with|some k,some ks=>some (k::ks)| _,_=>none)=some x:=h;cases e1:gQ d with
  |none=>rw[e1]at h';cases h'
  |some k=>
   cases e2:qZ ds with
   |none=>rw[e1,e2]at h';cases h'
   |some ks=>
    rw[e1,e2]at h';cases h';rw[List.map_cons,<-s9 e2,<-sZ e1]
theorem wk{d:Qa}{x:List cI}(h:sx d=some x):d=tD x:=by
 cases d with
 |tuple ds=>exact congrArg Qa.tuple (s9 h)
 | _=>cases h
def Bd(a b:Qa):Bool:=decide (sx a=sx b)
theorem u6(x y:List cI):Bd (tD x) (tD y)=decide (x=y):=by
 unfold Bd;rw[zr,zr];exact decide_eq_decide.mpr ⟨Option.some.inj,congrArg some⟩
def ye(kvs:List (Qa×Qa))(k v:Qa):List (Qa×Qa):=
 if(kvs.any λkv=>Bd kv.1 k)=true then kvs.map (λkv=>if Bd kv.1 k=true then(kv.1,v)else kv)else kvs++[(k,v)]
def kz(kvs:List (Qa×Qa))(k:Qa):Option Qa:=(kvs.find? λkv=>Bd kv.1 k).map (·.2)
theorem gr.cons{H:Hp}{k d:Qa}{kvs:List (Qa×Qa)}{x:List cI}{v:V}{ks:List (List cI×V)}(e:k=tD x)(h:Rp H d v)(t:gr H kvs ks):gr H ((k,d)::kvs) ((x,v)::ks):=by
 simp only[gr,FP];exact⟨x,v,ks,rfl,⟨e,h⟩,t⟩
theorem gr.cons_inv{H:Hp}{k d:Qa}{kvs:List (Qa×Qa)}{ks:List (List cI×V)}(h:gr H ((k,d)::kvs) ks):∃x v r,ks=(x,v)::r/\k=tD x/\Rp H d v/\gr H kvs r:=by
 simp only[gr,FP]at h;obtain⟨x,v,r,e,⟨e1,p⟩,t⟩:=h;exact⟨x,v,r,e,e1,p,t⟩
theorem gr.nil_inv{H:Hp}{ks:List (List cI×V)}(h:gr H [] ks):ks=[]:=by simpa only[gr]using h
theorem gr.length{H:Hp}:∀{kvs:List (Qa×Qa)} {ks:List (List cI×V)},gr H kvs ks->ks.length=kvs.length
 | [],ks,h=>by rw[h.nil_inv];rfl
 | (k,d)::kvs,ks,h=>by
  obtain⟨x,v,r,rfl,_,_,t⟩:=h.cons_inv;rw[List.length_cons,List.length_cons,t.length]
theorem gr.any{H:Hp}(y:List cI):∀{kvs:List (Qa×Qa)} {ks:List (List cI×V)},gr H kvs ks->(kvs.any λkv=>Bd kv.1 (tD y))=ks.any λkv=>decide (kv.1=y)
 | [],ks,h=>by rw[h.nil_inv];rfl
 | (k,d)::kvs,ks,h=>by
  obtain⟨x,v,r,rfl,rfl,p,t⟩:=h.cons_inv;rw[List.any_cons,List.any_cons,gr.any y t,u6]
theorem gr.repl{H:Hp}(y:List cI){d:Qa}{v:V}(hv:Rp H d v):∀{kvs:List (Qa×Qa)} {ks:List (List cI×V)},gr H kvs ks ->
  gr H (kvs.map λkv=>if Bd kv.1 (tD y)=true then(kv.1,d)else kv) (ks.map λkv=>if kv.1=y then(kv.1,v)else kv)
 | [],ks,h=>by rw[h.nil_inv];simp only[List.map_nil,gr]
 | (k,d')::kvs,ks,h=>by
  obtain⟨x,v',r,rfl,rfl,p,t⟩:=h.cons_inv;rw[List.map_cons,List.map_cons];dsimp only;rw[u6];by_cases e:x=y
  ·rw[if_pos (decide_eq_true e),if_pos e];exact gr.cons rfl hv (gr.repl y hv t)
  ·rw[if_neg (by rw[decide_eq_false e];exact Bool.false_ne_true),if_neg e];exact gr.cons rfl p (gr.repl y hv t)
theorem gr.snoc{H:Hp}{y:List cI}{d:Qa}{v:V}(hv:Rp H d v):∀{kvs:List (Qa×Qa)} {ks:List (List cI×V)},gr H kvs ks->gr H (kvs++[(tD y,d)]) (ks++[(y,v)])
 | [],ks,h=>by rw[h.nil_inv];exact gr.cons rfl hv (by simp only[gr])
 | (k,d')::kvs,ks,h=>by
  obtain⟨x,v',r,rfl,rfl,p,t⟩:=h.cons_inv;exact gr.cons rfl p (gr.snoc hv t)
theorem gr.put{H:Hp}(y:List cI){d:Qa}{v:V}(hv:Rp H d v){kvs:List (Qa×Qa)}{ks:List (List cI×V)}(h:gr H kvs ks):gr H (ye kvs (tD y) d) (lT ks y v):=by
 unfold ye lT;rw[h.any y];split
 ·exact h.repl y hv
 ·exact h.snoc hv
theorem gr.look{H:Hp}(y:List cI):∀{kvs:List (Qa×Qa)} {ks:List (List cI×V)},gr H kvs ks->(kz kvs (tD y)=none/\jm ks y=none)\/∃d v,kz kvs (tD y)=some d/\jm ks y=some v/\Rp H d v
 | [],ks,h=>.inl (by rw[h.nil_inv];exact⟨rfl,rfl⟩)
 | (k,d)::kvs,ks,h=>by
  obtain⟨x,v,r,rfl,rfl,p,t⟩:=h.cons_inv;unfold kz jm;rw[List.find?_cons,List.find?_cons];dsimp only;rw[u6];by_cases e:x=y
  ·rw[decide_eq_true e];exact .inr ⟨d,v,rfl,rfl,p⟩
  ·rw[decide_eq_false e];exact gr.look y t
theorem yj{H:Hp}:∀{x:List cI} {vs:List V},bI H (x.map fO) vs->vs=x.map kV
 | [],vs,h=>by simpa only[List.map_nil,bI]using h
 |k::x,vs,h=>by
  rw[List.map_cons]at h;simp only[bI]at h;obtain⟨v,r,rfl,p,t⟩:=h;rw[Dg p,yj t];rfl
theorem Ft{H:Hp}{x:List cI}{y:V}(h:Rp H (tD x) y):∃b,y=.ref b/\H b=some (.tup (x.map kV)):=by
 simp only[Rp]at h;obtain⟨b,vs,e,hb,r⟩:=h;exact⟨b,e,by rw[hb,yj r]⟩
def DE:List (Qa×Qa)->Option (List (Qa×Qa))
 | (.bool true,.none)::r=>some r
 | _=>none
theorem qe{kvs r:List (Qa×Qa)}(h:DE kvs=some r):kvs=(.bool true,.none)::r:=by
 unfold DE at h;split at h
 ·cases h;rfl
 ·cases h
theorem Jh{H:Hp}{r:List (Qa×Qa)}{v:V}(h:iB H (.dict ((.bool true,.none)::r)) v):∃a ks,v=.ref a/\H a=some (.dT ks)/\gr H r ks:=by
 simp only[iB]at h;rcases h with⟨a,ks,e,ha,q⟩| ⟨a,ks,e,ha,q⟩
 ·simp only[fL]at q;obtain⟨k,v,r',_,q,_⟩:=q;simp only[yH]at q;cases k<;>cases q.1
 ·simp only[pW]at q;exact⟨a,ks,e,ha,q.2⟩
theorem CF{H:Hp}{r:List (Qa×Qa)}{a:Addr}{ks:List (List cI×V)}(ha:H a=some (.dT ks))(q:gr H r ks):iB H (.dict ((.bool true,.none)::r)) (.ref a):=by
 simp only[iB,pW];exact .inr ⟨a,ks,rfl,ha,True.intro,q⟩
section
variable{X:Cx}{pos:Pos}{nl:Nat}{G:List Str}{x:Str}
theorem mZ  : Z.mS X (.Dict [] [] pos) (eC (.dict [(.bool true,.none)])):=⟨PE.imp CL λσ H Q ⟨ρ,sl,q⟩ p hp=>q _ _ (cQ hp _) ⟨CF (ks:=[]) bh (by simp only[gr]),p,rfl,hp⟩⟩
def pB(i:Nat)(fk fv:Fe):Fs:=λρ=>fv ρ>>=λv=>jG (fk ρ)>>=λk=>match ρ[i]? with
 |some (.own (.dict kvs))=>match DE kvs with
  |some r=>match sx k with
   |some _=>if r.length<sizeLine then .ok (.nx (ρ.set i (.own (.dict ((.bool true,.none)::ye r k v)))))else .no
   |none=>.no
  |none=>.no
 | _=>.no
theorem sJ{k v:Expr}{fk fv:Fe}{q1 q2 q3:Pos}(T:Tb X nl G)(n:Nat)(hN:X.N[n]?=some x)(hk:Z.dA X k fk)(hv:Z.dA X v fv)(hs:swapsWith v (some (.Subscript (.Name x q1) k q2)) q3.line X.env=pure false:=by rfl):Z.kG X (.Assign [.Subscript (.Name x q1) k q2] v q3) (pB n fk fv):=⟨have hk:=hk.un;have hv:=hv.un;λFm=>by
 have hm:=T.vis x (List.mem_of_getElem? hN);refine PS.imp (zN (by have:=T.hu;omega) (jg hN hm.1 hm.2.1 hm.2.2) hk hv hs) λD σ H h=>?_
 refine(me (P:=iM) (f:=fv) (k:=λρ v=>jG (fk ρ)>>=λk=>match ρ[n]? with
  |some (.own (.dict kvs))=>match DE kvs with
   |some r=>match sx k with
    |some _=>if r.length<sizeLine then .ok (.nx (ρ.set n (.own (.dict ((.bool true,.none)::ye r k v)))))else .no
    |none=>.no
   |none=>.no
  | _=>.no) h).post λvv H1 ⟨ρ1,dv,sl1,_,p1,q1⟩=>?_
 have no:Dc X Fm (jG (fk ρ1)>>=λ_=>R.no) D->False:=λq=>by
  cases e2:fk ρ1 with
  |ok kd=>rw[e2]at q;exact q
  |ex _=>rw[e2]at q;exact q
  |no=>rw[e2]at q;exact q
 cases e:ρ1[n]? with
 |none=>rw[e]at q1;exact(no q1).elim
 |some c=>
  rw[e]at q1;cases c with
  |own d=>
   cases d with
   |dict kvs=>
    cases eu:DE kvs with
    |none=>
     dsimp only at q1;rw[eu]at q1;exact(no q1).elim
    |some r=>
     dsimp only at q1;rw[eu]at q1;dsimp only at q1;have ek:=qe eu;subst ek;obtain⟨o,h2,w',rfl,p2⟩:=sl1.sl.at e;obtain⟨a',ks,rfl,ha,rr⟩:=Jh p2;refine⟨.ref a',h2,?_⟩;refine⟨ρ1,sl1.sl,?_⟩;cases e2:fk ρ1 with
     |ex _=>rw[e2]at q1;exact q1.elim
     |no=>rw[e2]at q1;exact q1
     |ok kd=>
      rw[e2]at q1;simp only[jG,R.ok_bind]at q1;intro yv H3 s3 p3;cases e3:sx kd with
      |none=>rw[e3]at q1;exact q1.elim
      |some y=>
       rw[e3]at q1;dsimp only at q1;by_cases hz:r.length<sizeLine
       ·rw[if_pos hz]at q1;have ek:=wk e3;subst ek;obtain⟨b,ey,hb⟩:=Ft p3;subst ey;have ha3:=s3 _ _ ha;have r3:gr H3 r ks:=gr.kp (Kp.of s3) _ _ rr;refine⟨a',_,rfl,vc.t ha3 hb (by rw[r3.length];exact hz),q1 _ _ ((sl1.mono s3).changeK e h2 ha3 (lG ha3) ?_)⟩;exact CF bh (gr.kp (lG ha3) _ _ (gr.put y (p1.mono s3) r3))
       ·rw[if_neg hz]at q1;exact q1.elim
   | _=>exact(no q1).elim
  | _=>exact(no q1).elim⟩
end
section
variable{X:Cx}{a b:Expr}{fa fb:Fe}{pos:Pos}
def om(neg:Bool)(d:Qa):Qa->R Qa
 |.dict kvs=>match DE kvs with
  |some r=>match sx d with
   |some _=>.ok (.bool (if neg then !(kz r d).isSome else(kz r d).isSome))
   |none=>.no
  |none=>.no
 | _=>.no
theorem Ds{neg:Bool}:cY X iM (Fk X neg) (om neg):=λH x y dx dy Q hx hy q=>by
 cases dy with
 |dict kvs=>
  simp only[om]at q;cases eu:DE kvs with
  |none=>rw[eu]at q;exact q.elim
  |some r=>
   rw[eu]at q;dsimp only at q;cases ek:sx dx with
   |none=>rw[ek]at q;exact q.elim
   |some κ=>
    rw[ek]at q;dsimp only at q;have e1':=qe eu;subst e1';have e2':=wk ek;subst e2';obtain⟨p,ks,rfl,hp,rr⟩:=BK hy;obtain⟨b',vs,rfl,hb',rv⟩:=eX hx;rw[yj rv]at hb';have hg:pC H p (.ref b') (jm ks κ):=.inr ⟨ks,κ,b',hp,rfl,hb',rfl⟩;refine .inr ⟨p,_,rfl,hg,?_⟩;have el:(kz r (tD κ)).isSome=(jm ks κ).isSome:=by
     rcases rr.look κ with⟨l1,l2⟩| ⟨d,v,l1,l2,_⟩
     ·rw[l1,l2];rfl
     ·rw[l1,l2];rfl
    rw[<-el];exact q _ H (aN.refl _) fR
 | _=>exact q.elim
theorem Bz(hu:X.A.units+64<cLine)(ha:Z.ff X a fa)(hb:Z.ff X b fb)(hm:behindInMarks .In b=false):Z.dA X (.Compare a [.In] [b] pos) (e2 (om false) fa fb):=⟨have ha:=ha.un;have hb:=hb.un;ou (xY hu) Ds ha hb hm⟩
theorem ni(hu:X.A.units+64<cLine)(ha:Z.ff X a fa)(hb:Z.ff X b fb)(hm:behindInMarks .NotIn b=false):Z.pH X (.Compare a [.NotIn] [b] pos) (tE (e2 (om true) fa fb)):=⟨have ha:=ha.un;have hb:=hb.un;ip (tw hu) Ds ha hb hm⟩
end
section
variable{prog:Program}{w:World}{A:Around}{E:Value->Shared->Prop}{s:Shared}{d it:Addr}{od:Obj}{es:Array DictEntry}{ep i:Nat}
theorem FU{Q:Value->Shared->Prop}(hd:(d==sysModules)=false)(ty:s.TypeIs (.ref d) "dict")(ho:s.heap.get? d=some od)(hdat:od.data=.dict es ep)
  (h:Q (.ref s.heap.objs.size) { s with heap:=s.heap.push { cls:=.type "dict_keyiterator",data:=.fields #[.ref d,.int 0 0,.int es.size 0,.int ep 0] } }):wpAny (model prog w) A (pyIter (.ref d)) Q E s:=by
 refine wpAny_pyIter_slot ty F.slot_dict_iter (wpAny_call_entry F.slot_dict_iter ty F.entry_dict_iter ?_ (F.args_dict_iter_1 _));unfold Builtin.«dict.__iter__»;refine Qb ?_;unfold Builtin.Dict.dictSlotNone;refine Qb (wpAny_notOrdered_dict ty ?_);show wpAny _ _ (pure (Value.ref d)) _ _ s;refine Qg ?_;show wpAny _ _ (Builtin.Dict.showsAll d>>=_) _ _ s;unfold Builtin.Dict.showsAll;rw[if_neg (by rw[hd];exact Bool.false_ne_true)];refine Qb (Qg (Qb (wpAny_dictEntries ho hdat (Qb (wpAny_dictEpoch ho hdat ?_)))));refine Qb (wpAny_newObj_type (Qg ⟨_,rfl,"dict_keyiterator",_,⟨_,Heap.get?_push_size _ rfl,rfl⟩,F.slot_dict_keyiterator_next.lookup,?_⟩));simpa[rawInt]using h
theorem FW{Q:Option Value->Shared->Prop}(hit:s.heap.IsKeyIter it d i es.size ep)(hod:s.heap.get? d=some od)(hdd:od.data=.dict es ep)(hlt':i<es.size)
  (hQ:∀h',h'.IsKeyIter it d (i+1) es.size ep->Heap.SameBut it s.heap h'->Q (some es[i].key) { s with heap:=h' }):wpAny (model prog w) A (pyNext (.ref it)) Q E s:=by
 obtain⟨o,ho,hc,hd⟩:=id hit;unfold pyNext;refine Qb (wpAny_attempt (wpAny_callSpecial?_slot (name:=Str.ofString "__next__") hit.typeIs F.slot_dict_keyiterator_next (wpAny_call_entry F.slot_dict_keyiterator_next hit.typeIs F.entry_dict_keyiterator_next ?_ (F.args_dict_keyiterator_next_1 _))));refine Qb (Qg (Qb (Qb ?_)))
 first|refine Qb (wpAny_typeNameOfWhole_keyiter hit.typeIs (Qg ?_))|refine Qb (wpAny_typeNameOf_keyiter hit.typeIs (Qg ?_))
 refine Qb (wpAny_fieldsOf ho hd ?_);have hown:Builtin.Dict_items.ownsTuple "dict_keyiterator" = false:=by decide
 simp only[hown,Bool.false_eq_true,if_false];show wpAny _ _ (if(Value.ref d==Value.none)=true then _ else _) _ _ s;rw[if_neg (show ¬((Value.ref d==Value.none)=true)from Bool.false_ne_true)];refine Qb (Qg (Qb (wpAny_dictEntries hod hdd ?_)));rw[if_neg (by simp)];refine Qb (Qg (Qb (wpAny_dictEpoch hod hdd ?_)));rw[if_neg (by simp)];refine Qg ?_;simp only[show ¬((i:Int)<0)from by omega,if_false,Int.toNat_natCast,Array.getElem?_eq_getElem hlt'];refine Qb ?_
 first|refine Qb (wpAny_typeNameOfWhole_keyiter hit.typeIs (Qg ?_))|refine Qb (wpAny_typeNameOf_keyiter hit.typeIs (Qg ?_))
 refine Qb (wpAny_isOneOf_keyiter hit.typeIs ?_);show wpAny _ _ (setField (.ref it) 1 (rawInt ((i:Int)+1))>>=_) _ _ s;refine Qb (wpAny_setField ho hd (by simp) ?_);have hit':(s.heap.update it (Obj.mapFields (·.setIfInBounds 1 (rawInt ((i:Int)+1))))).IsKeyIter it d (i+1) es.size ep:=
  ⟨_,Heap.get?_update_self _ ho (Obj.isFreed_of_fields (Obj.data_mapFields hd _)),(Obj.cls_mapFields ..).trans hc,by rw[Obj.data_mapFields hd];simp[rawInt]⟩
 refine Qb (wpAny_holding (Qb (wpAny_isOneOf_keyiter (s:={ s with heap:=s.heap.update it (Obj.mapFields (·.setIfInBounds 1 (rawInt ((i:Int)+1)))) }) hit'.typeIs ?_)));show wpAny _ _ (pure es[i].key) _ _ _;exact Qg (Qg ⟨_,rfl,Qg (hQ _ hit' (Heap.SameBut.update ..))⟩)
theorem IM{Q:Option Value->Shared->Prop}(hh:A.handled=none)(hit:s.heap.IsKeyIter it d i es.size ep)(hod:s.heap.get? d=some od)(hdd:od.data=.dict es ep)(hge:es.size<=i)
  (hQ:∀h',Heap.ExtBut it s.heap h'->Q none { s with heap:=h' }):wpAny (model prog w) A (pyNext (.ref it)) Q E s:=by
 obtain⟨o,ho,hc,hd⟩:=id hit;unfold pyNext;refine Qb (wpAny_attempt (wpAny_callSpecial?_slot (name:=Str.ofString "__next__") hit.typeIs F.slot_dict_keyiterator_next (wpAny_call_entry F.slot_dict_keyiterator_next hit.typeIs F.entry_dict_keyiterator_next ?_ (F.args_dict_keyiterator_next_1 _))));refine Qb (Qg (Qb (Qb ?_)))
 first|refine Qb (wpAny_typeNameOfWhole_keyiter hit.typeIs (Qg ?_))|refine Qb (wpAny_typeNameOf_keyiter hit.typeIs (Qg ?_))
 refine Qb (wpAny_fieldsOf ho hd ?_);have hown:Builtin.Dict_items.ownsTuple "dict_keyiterator" = false:=by decide
 simp only[hown,Bool.false_eq_true,if_false];show wpAny _ _ (if(Value.ref d==Value.none)=true then _ else _) _ _ s;rw[if_neg (show ¬((Value.ref d==Value.none)=true)from Bool.false_ne_true)];refine Qb (Qg (Qb (wpAny_dictEntries hod hdd ?_)));rw[if_neg (by simp)];refine Qb (Qg (Qb (wpAny_dictEpoch hod hdd ?_)));rw[if_neg (by simp)];refine Qg ?_;simp only[show ¬((i:Int)<0)from by omega,if_false,Int.toNat_natCast,Array.getElem?_eq_none hge];refine Qb ?_
 first|refine Qb (wpAny_typeNameOfWhole_keyiter hit.typeIs (Qg ?_))|refine Qb (wpAny_typeNameOf_keyiter hit.typeIs (Qg ?_))
 show wpAny _ _ (setField (.ref it) 0 .none>>=_) _ _ s;refine Qb (wpAny_setField ho hd (by simp) ?_);show wpAny _ _ (newExc (.type "StopIteration") []>>=_) _ _ _;refine Qb ?_;simp only[newExc,newTuple];refine Qb (wpAny_newObj_type ?_ (by size_fits));refine Qb (m:=firstArgMember _ _) (wpAny_of_eq (a:=Value.none) (by first|rfl| (simp only[firstArgMember];rfl)) (wpAny_newObj_type ?_ (by size_fits)));simp only[raiseNew];refine Qb (wpAny_handled ?_);rw[show A.in1.handled=none from hh];refine Qb (Qg (wpAny_throw ?_));refine Qb (wpAny_isInstance (T := "StopIteration") (b:=true) ⟨_,Heap.get?_push_size _ rfl,rfl⟩ isSubtype_stop ?_);exact Qg (hQ _ (((Heap.SameBut.update ..).extBut.push _).push _))
end
def Gk(d:Addr)(ob:Obj):It:=
 ⟨λi H=>∃ks kv,H d=some (.frz ob (.dT ks))/\ks[i]?=some kv,λi H x H'=>H'=H/\∀ks kv,H d=some (.frz ob (.dT ks))->ks[i]?=some kv->∃b,x=.ref b/\H b=some (.tup (kv.1.map kV)),λi H=>∃ks,H d=some (.frz ob (.dT ks))/\ks.length<=i⟩
theorem ke{α β:Type}{F:α->β->Prop}:∀{xs:List α} {ys:List β} {i:Nat} {x:α},Paired F xs ys->xs[i]?=some x->∃y,ys[i]?=some y/\F x y
 | _,_,i,x,.nil,h=>by simp at h
 | _,_,0,x,.cons r t,h=>by simp at h;subst h;exact⟨_,rfl,r⟩
 | _,_,i+1,x,.cons r t,h=>by
  obtain⟨y,e,q⟩:=ke (i:=i) t (by simpa using h);exact⟨y,by simpa using e,q⟩
theorem xG{X:Cx}{pins:List (Addr×Obj)}{σ:L2.St}{H:Hp}{s:Shared}{d:Addr}{ob:Obj}{ks:List (List cI×V)}(I:aT X pins σ H s)(hd:H d=some (.frz ob (.dT ks))) :
  ∃(xs:List (List cI×Addr×Value)) (es:Array DictEntry) (ep:Nat),Paired (λ(p:List cI×V) (q:List cI×Addr×Value)=>p.1=q.1/\H q.2.1=some (.tup (p.1.map kV))/\cA p.2 q.2.2) ks xs/\(d==sysModules)=false/\s.heap.get? d=some ob/\ob.ExactDict/\ob.data=.dict es ep/\es.toList=xs.map (entryOfKey (tupleKind (dW X.prog X.w))):=by
 obtain⟨hob,_,hlo,xs,pr,o,es,ep,ho,ex,hdat,hes,_⟩:=(show cD X.prog X.w H s.heap d (.frz ob (.dT ks))from I.hok d _ hd)
 rw[hob]at ho;cases ho;exact⟨xs,es,ep,pr,hlo,hob,ex,hdat,hes⟩
theorem FH{P:Program}{w:World}{K:PySem.W.Frag}{tg:Expr}(d it:Addr){ob:Obj}{es:Array DictEntry}{ep:Nat}(hob:ob.data=.dict es ep):uo P w K tg (Gk d ob) [it] it (λi h=>h.IsKeyIter it d i es.size ep) where
 mem:=by simp
 obj:=λi h st b hb=>by
  have e:b=it:=by simpa using hb
  subst e;obtain⟨o,e,c,d⟩:=st;exact⟨o,e,λv z=>by rw[d]at z;cases z⟩
 keep:=λi h h' st k=>st.at λo e=>k it (by simp) o e
 item:=by
  intro X hP hw hK hc i pins s σ H E I hf st hg;subst hP hw hK;obtain⟨ks,kv,hd,hx⟩:=hg;obtain⟨xs,es',ep',rel,hlo,hg',_,hdat,hes⟩:=xG I hd;rw[hob]at hdat;cases hdat;obtain⟨q,hq,q1,q2,q3⟩:=ke rel hx;obtain⟨f0,f1,f2,f3,f4,f5⟩:=hf it (by simp);have hi:i<es.size:=by
   have e1:es.size=xs.length:=by rw[<-Array.length_toList,hes,Qd]
   rw[e1];exact(List.getElem?_eq_some_iff.mp hq).1
  have hkey:es[i].key=.ref q.2.1:=by
   have e1:es.toList[i]?=some (entryOfKey (tupleKind (dW X.prog X.w)) q):=by rw[hes,List.getElem?_map,hq];rfl
   rw[Array.getElem?_toList,Array.getElem?_eq_getElem hi]at e1;rw[Option.some.inj e1];rfl
  refine FW st hg' hob hi λh' st' sb=>?_
  have I1:aT X pins σ H { s with heap:=h' }:=I.turned (t':=s.toks) (λb o hb e=>(sb.2 b hb).trans e) f0 f1 f3 f4 f5;obtain⟨o,e,c,d'⟩:=id st';rw[hkey];exact⟨_,rfl,v8 (s:={ s with heap:=h' }) e c d' (by decide) ⟨.ref q.2.1,H,I1,rfl,⟨rfl,λks' kv' h1 h2=>by rw[hd]at h1;cases h1;rw[hx]at h2;cases h2;exact⟨_,rfl,q2⟩⟩,st',λb hb=>(hf b hb).1⟩⟩
 done:=by
  intro X hP hw hK hc i pins s σ H E I hf st hg;subst hP hw hK;obtain⟨ks,hd,hx⟩:=hg;obtain⟨xs,es',ep',rel,hlo,hg',_,hdat,hes⟩:=xG I hd;rw[hob]at hdat;cases hdat;obtain⟨f0,f1,f2,f3,f4,f5⟩:=hf it (by simp);have hl:es.size<=i:=by
   have e1:es.size=xs.length:=by rw[<-Array.length_toList,hes,Qd]
   have e2:ks.length=xs.length:=Paired.length rel;omega
  exact IM (I.ok.hd hc) st hg' hob hl λh' eb=>⟨rfl,I.turned (t':=s.toks) (λb o hb e=>eb b o hb e) f0 f1 f3 f4 f5⟩
 self:=λ_ _ _ _ _ st h=>wpAny_pyIter_keyiter st h
section
variable{X:Cx}{tg o:Expr}{fo:Fe}
def LP(tl:TE):TI:=λσ H R=>tl σ H λx H1=>∃a ob ks,x=.ref a/\H1 a=some (.frz ob (.dT ks))/\R (Gk a ob) H1
theorem Jl{tl:TE}(hl:PE X o tl):PI X tg o (LP tl):=by
 intro pins s σ H R I h;refine eR (hl pins s σ H _ I h) λv s1 zq0=>?_
 obtain⟨x,H1,I1,r1,q1⟩:=zq0;obtain⟨a,ob,ks,e,hd,q⟩:=q1;subst e;cases r1;obtain⟨xs,es,ep,rel,hlo,hg',ex,hdat,hes⟩:=xG I1 hd;refine FU hlo ⟨ob,hg',ex.1⟩ hg' hdat ?_;refine⟨s1.heap.objs.size,[s1.heap.objs.size],_,_,H1,rfl,I1.kept (t':=s1.toks) λb o e=>Qe _ e,FH a _ hdat,⟨_,Heap.get?_push_size _ rfl,rfl,rfl⟩,λb hb=>?_,q⟩;have e:b=s1.heap.objs.size:=by simpa using hb
 subst e;exact I1.fpOk (Nat.le_refl _) (I1.hok.fresh (Nat.le_refl _))
theorem Jy{H:Hp}{kvs:List (Qa×Qa)}{v:V}(h:Rp H (.dict ((.bool true,.none)::kvs)) v):∃a o ks,v=.ref a/\H a=some (.frz o (.dT ks))/\gr H kvs ks:=by
 simp only[Rp]at h;rcases h with⟨a,o,vs,e,ha,r⟩| ⟨a,o,C,dx,fs,e,ha,r⟩| ⟨a,o,vs,e,ha,r⟩
 ·simp only[fL]at r;obtain⟨k,v,r',_,q,_⟩:=r;simp only[yH]at q;cases k<;>cases q.1
 ·simp only[yG]at r;cases r.1
 ·simp only[pW]at r;exact⟨a,o,vs,e,ha,r.2⟩
def rc:Qa->R (List Qa)
 |.dict kvs=>match DE kvs with
  |some r=>.ok (r.map (·.1))
  |none=>.no
 | _=>.no
def qS(f:Fe):aV->R (List Qa):=λρ=>f ρ>>=rc
theorem uY{H:Hp}:∀x:List cI,bI H (x.map fO) (x.map kV)
 | []=>bI.nil
 |k::x=>bI.cons (by cases k<;>simp only[fO,kV,Rp]) (uY x)
theorem gr.key{H:Hp}:∀{kvs:List (Qa×Qa)} {ks:List (List cI×V)} {i:Nat} {d:Qa},gr H kvs ks->(kvs.map (·.1))[i]?=some d->∃kv,ks[i]?=some kv/\d=tD kv.1
 | [],ks,i,d,h,e=>by simp at e
 | (k,v)::kvs,ks,i,d,h,e=>by
  obtain⟨x,v',r,rfl,rfl,p,t⟩:=h.cons_inv;cases i with
  |zero=>simp at e;subst e;exact⟨_,rfl,rfl⟩
  |succ i=>
   obtain⟨kv,e1,e2⟩:=gr.key (i:=i) t (by simpa using e);exact⟨kv,by simpa using e1,e2⟩
theorem GV{a:Addr}{ob:Obj}{ks:List (List cI×V)}{kvs:List (Qa×Qa)}:Bq (Gk a ob) (λH=>H a=some (.frz ob (.dT ks))/\gr H kvs ks) (kvs.map (·.1)) where
 go:=λi H ⟨h,r⟩ hi=>by
  have hl:=r.length;rw[Qd]at hi;exact⟨ks,ks[i]'(by omega),h,List.getElem?_eq_getElem (by omega)⟩
 yld:=λi H x H' d ⟨h,r⟩ hd ⟨e,y⟩=>by
  subst e;obtain⟨kv,e1,e2⟩:=r.key hd;obtain⟨b,e3,e4⟩:=y ks kv h e1;subst e2 e3;refine⟨aN.refl _,?_⟩;simp only[Rp];exact⟨b,_,rfl,e4,uY _⟩
 stop:=λi H ⟨h,r⟩ hi=>by
  have hl:=r.length;rw[Qd]at hi;exact⟨ks,h,by omega⟩
theorem qr(ha:Z.dA X o fo):Z.vm X tg o (qS fo):=⟨have ha:=ha.un;PI.imp (Jl ha) λσ H Rk h=>(fX (P:=iM) (f:=fo) (k:=λ_=>rc) (Ge (X:=X) Rk) h).post λv H1 ⟨_,d,_,_,p1,q1⟩=>by
  cases d with
  |dict kvs=>
   simp only[rc]at q1;cases eu:DE kvs with
   |none=>rw[eu]at q1;exact q1.elim
   |some r=>
    rw[eu]at q1;have ek:=qe eu;subst ek;obtain⟨a',o',ks,rfl,h,rr⟩:=Jy p1;exact⟨a',o',ks,rfl,h,q1 _ H1 (aN.refl _) ⟨_,GV,λH2 k _=>⟨k.2 _ _ _ h,gr.kp k _ _ rr⟩⟩⟩
  | _=>exact q1.elim⟩
end
section
variable{prog:Program}{w:World}{A:Around}{d:Addr}{es:Array DictEntry}{ep:Nat}
def DX(h:Heap)(d:Addr)(es:Array DictEntry)(ep:Nat):Prop:=∃o,h.get? d=some o/\o.ExactDict/\o.data=.dict es ep
theorem DX.typeIs{s:Shared}(h:DX s.heap d es ep):s.TypeIs (.ref d) "dict" := by
 obtain⟨o,h1,h2,_⟩:=h;exact⟨o,h1,h2.1⟩
theorem GY(lo:(d==sysModules)=false):PySem.W.KdlSrc prog w "dict" d d es.size (λi v=>∃h:i<es.size,v=es[i].key) (λh=>DX h d es ep) where
 type:=λ_ hm=>hm.typeIs
 there:=λ_ ⟨o,h1,_⟩=>⟨Heap.lt_size h1,Heap.lt_size h1⟩
 keep:=λ_ _ ⟨o,h1,h2⟩ hk=>⟨o,hk d (.inl rfl) o h1,h2⟩
 notList:=by decide
 notTuple:=by decide
 hint:=λ_ _ _ _ hm hq=>PySem.W.kdl_hint_dict hm.typeIs hq
 iter:=λA s hh hm=>by
  obtain⟨o,h1,h2,h3⟩:=hm;refine⟨_,λi h=>h.IsKeyIter s.heap.objs.size d i es.size ep/\DX h d es ep,λ_ _ hq=>FU lo ⟨o,h1,h2.1⟩ h1 h3 hq,?_,⟨_,Heap.get?_push_size _ rfl,rfl,rfl⟩,o,Qe _ h1,h2,h3⟩;have ne:d≠s.heap.objs.size:=Nat.ne_of_lt (Heap.lt_size h1);refine⟨λb hb=>by simp at hb;simp[hb],λi h h' ⟨st,o,g1,g2⟩ k=>⟨st.at λo e=>k _ (by simp) o e,o,k d (by simp) o g1,g2⟩,λi s Q E hi ⟨st,o,g1,g2,g3⟩ q=>?_,λs Q E ⟨st,o,g1,g2,g3⟩ q=>?_,λi s Q E ⟨st,_⟩ q=>wpAny_pyIter_keyiter st q⟩
  ·exact FW st g1 g3 hi λh' st' sb=>q _ h' s.toks ⟨hi,rfl⟩ ⟨st',o,(sb.2 _ ne).trans g1,g2,g3⟩ λb o hb e=>(sb.2 b (by simpa using hb)).trans e
  ·exact IM hh st g1 g3 (Nat.le_refl _) λh' eb=>q h' s.toks λb o hb e=>eb b o (by simpa using hb) e
end
section
variable{X:Cx}{a:Expr}{fa:Fe}{pos p:Pos}{nl:Nat}{G:List Str}
theorem xo(hc:X.calm=true):fI X (.type "list") (λxs H Q=>∃p ks,xs=[.ref p]/\Rd H p (.dT ks)/\∀bs:List Addr,bs.length=ks.length->(∀(j:Nat) (kv:List cI×V),ks[j]?=some kv->∃b,bs[j]?=some b/\H b=some (.tup (kv.1.map kV)))->∀l,H l=none->Q (.ref l) (dj H l (.lst (bs.map V.ref)))):=by
 intro pins s σ H xs us Q I r h;obtain⟨p,ks,rfl,hq,q⟩:=h;obtain⟨u,rfl,rx⟩:=iY r;cases rx;obtain⟨hz,hlo,vs,rel,dd⟩:=sS I.hok hq;obtain⟨o,es,ep,hg,hx,hdt,hes,_⟩:=dd;have hvl:ks.length=vs.length:=rel.length;have hsz:es.size=vs.length:=by rw[<-Array.length_toList,hes,Qd]
 have key:∀i (hi:i<es.size),∃kv x,ks[i]?=some kv/\vs[i]?=some x/\es[i].key=.ref x.2.1/\H x.2.1=some (.tup (kv.1.map kV)):=λi hi=>by
  have hk:ks[i]?=some (ks[i]'(by omega)):=List.getElem?_eq_getElem (by omega);obtain⟨x,hx,q1,q2,q3⟩:=ke rel hk;refine⟨_,x,hk,hx,?_,q2⟩;have e1:es.toList[i]?=some (entryOfKey (tupleKind (dW X.prog X.w)) x):=by rw[hes,List.getElem?_map,hx];rfl
  rw[Array.getElem?_toList,Array.getElem?_eq_getElem hi]at e1;rw[Option.some.inj e1];rfl
 refine PySem.W.kdl_call (GY (es:=es) (ep:=ep) hlo) (I.ok.hd hc) ⟨o,hg,hx,hdt⟩ (by omega) λh' tk acc c kp hD hacc=>?_
 have hn:H s.heap.objs.size=none:=I.hok.fresh (Nat.le_refl _);have hv:bO ((vs.map (·.2.1)).map V.ref) acc.toList:=by
  refine u7 (by rw[Array.length_toList,hacc.1,Qd,Qd,hsz]) λj v hj=>?_
  obtain⟨hj',e⟩:=hacc.2 j v (by rw[<-Array.getElem?_toList];exact hj);obtain⟨kv,x,e1,e2,e3,e4⟩:=key j hj';subst e;refine⟨.ref x.2.1,by rw[List.getElem?_map,List.getElem?_map,e2];rfl,?_⟩;rw[e3];rfl
 refine⟨.ref s.heap.objs.size,_,I.laid (t':=tk) (o:=.lst ((vs.map (·.2.1)).map V.ref)) (λb o e=>kp b o e) (Nat.le_refl _) ⟨by rw[Qd,Qd,<-hvl];exact hz,acc.toList,c,hv,by simpa[seqObj]using hD⟩,rfl,q _ (by rw[Qd,hvl]) (λj kv hj=>?_) _ hn⟩;obtain⟨x,hx,q1,q2,q3⟩:=ke rel hj;exact⟨x.2.1,by rw[List.getElem?_map,hx];rfl,q2⟩
def qF:Qa->R Qa
 |.dict kvs=>match DE kvs with
  |some r=>.ok (.list (r.map (·.1)))
  |none=>.no
 | _=>.no
theorem Df{H:Hp}:∀{ds:List Qa} {vs:List V},vs.length=ds.length->(∀(j:Nat) (d:Qa),ds[j]?=some d->∃v,vs[j]?=some v/\Rp H d v)->bI H ds vs
 | [],[],_,_=>bI.nil
 | [],_::_,e,_=>by cases e
 | _::_,[],e,_=>by cases e
 |d::ds,v::vs,e,h=>by
  obtain⟨y,e1,r⟩:=h 0 d rfl;cases e1;exact bI.cons r (Df (by simpa using e) λj u hu=>by
   obtain⟨z,e2,r2⟩:=h (j+1) u (by simpa using hu);exact⟨z,by simpa using e2,r2⟩)
theorem vG(T:Tb X nl G)(j:Nat)(hG:G[j]?=some ("list" : Str))(hm:X.mg "list" = none)(ha:Z.ff X a fa)(he:bn a=true:=by rfl):Z.mS X (.Call (.Name "list" p) [a] [] pos) (e1 qF fa):=⟨have ha:=ha.un;by
 refine FI T j hG hm vT PyProof.Rows.boot_list (xo T.calm) (λH x d Q hx q=>?_) ha he;cases d with
 |dict kvs=>
  simp only[qF]at q;cases eu:DE kvs with
  |none=>rw[eu]at q;exact q.elim
  |some r=>
   rw[eu]at q;have ek:=qe eu;subst ek;obtain⟨a',ks,rfl,h,rr⟩:=BK hx;refine⟨a',ks,rfl,h,λbs hb hbs l hl=>q _ _ (cQ hl _) (dL hl (Df (by rw[Qd,Qd,hb,rr.length]) λj d hd=>?_))⟩;obtain⟨kv,e1,e2⟩:=rr.key hd;obtain⟨b,e3,e4⟩:=hbs j kv e1;subst e2;refine⟨.ref b,by rw[List.getElem?_map,e3];rfl,?_⟩;simp only[Rp];exact⟨b,_,rfl,e4,uY _⟩
 | _=>exact q.elim⟩
end
def Lb(X:Cx)(Fm:Hp)(r:R rS)(D:r8):Prop:=
 match r with
 |.ok (.rt d)=>∀v H,aN Fm H->Br Fm H d v->D.rt v H
 |.ex c=>Xw X c Fm/\Ia X c Fm
 | _=>False
def Lc(X:Cx)(Fm:Hp)(g:Fs):TS:=λD σ H=>∃ρ,iN Fm H σ ρ/\Lb X Fm (g ρ) D
structure Z.EvSN(X:Cx)(st:List Stmt)(g:Fs):Prop where
 un:∀Fm,rT X st (Lc X Fm g)
 rt:∀ρ o,g ρ=.ok o->∃d,o=.rt d
def Gn(g:Fs):Prop:=∀ρ o,g ρ=.ok o->∃ρ',o=.nx ρ'
theorem Cw:Gn bU:=λρ o e=>by cases e;exact⟨_,rfl⟩
theorem zC{i:Nat}{f:Fe}:Gn (bZ i f):=λρ o e=>by
 unfold bZ at e;cases ef:f ρ with
 |ex c=>rw[ef]at e;cases e
 |no=>rw[ef]at e;cases e
 |ok d=>rw[ef]at e;cases e;exact⟨_,rfl⟩
theorem G9{t:aV->R Bool}{g h:Fs}(hg:Gn g)(hh:Gn h):Gn (hW t g h):=λρ o e=>by
 unfold hW at e;cases et:t ρ with
 |ex c=>rw[et]at e;cases e
 |no=>rw[et]at e;cases e
 |ok b=>
  rw[et]at e;cases b with
  |true=>exact hg ρ o e
  |false=>exact hh ρ o e
theorem EW{b:Qa->aV->Option aV}{f:Fe}:Gn (A2 b f):=λρ o e=>by
 unfold A2 at e;cases ef:f ρ with
 |ex c=>rw[ef]at e;cases e
 |no=>rw[ef]at e;cases e
 |ok d=>
  rw[ef]at e;dsimp only[bind,R.bind]at e;split at e
  ·cases e;exact⟨_,rfl⟩
  ·cases e
section
variable{X:Cx}{st:Stmt}{sts:List Stmt}{g h:Fs}{f:Fe}{e:Expr}{pos:Pos}
theorem n9(h1:Z.kG X st g)(hn:Gn g)(h2:Z.EvSN X sts h):Z.EvSN X (st::sts) (aO g h):=⟨λFm=>by
 refine rT.imp (nM (h1.un Fm) (h2.un Fm)) λD σ H ⟨ρ,sl,q⟩=>⟨ρ,sl,?_⟩
 unfold aO at q;cases e:g ρ with
 |ex c=>rw[e]at q;exact q
 |no=>rw[e]at q;exact q
 |ok o=>
  obtain⟨ρ',rfl⟩:=hn ρ o e;rw[e]at q;exact λσ' H' s'=>⟨ρ',s',q⟩,λρ o e=>by
 unfold aO at e;cases e1:g ρ with
 |ex c=>rw[e1]at e;cases e
 |no=>rw[e1]at e;cases e
 |ok o1=>
  obtain⟨ρ',rfl⟩:=hn ρ o1 e1;rw[e1]at e;exact h2.rt ρ' o e⟩
theorem BF(he:Z.mS X e f):Z.EvSN X [.Return (some e) pos] (bQ f):=⟨λFm=>by
 refine rT.imp (uV (CU he.un)) λD σ H zq0=>?_
 obtain⟨ρ,sl,q⟩:=zq0;refine⟨ρ,sl.sl,?_⟩;unfold bQ at q;cases e:f ρ with
 |ex c=>rw[e]at q;exact q.1.mono sl.fm
 |no=>rw[e]at q;exact q
 |ok d=>
  rw[e]at q;exact λv H1 s p=>q v H1 (sl.fm.trans s) ⟨p.1,let ⟨a,e1,e2⟩:=p.2;⟨a,e1,sl.fm.free e2⟩⟩,λρ o e=>by
 unfold bQ at e;cases e1:f ρ with
 |ex c=>rw[e1]at e;cases e
 |no=>rw[e1]at e;cases e
 |ok d=>rw[e1]at e;cases e;exact⟨_,rfl⟩⟩
end
def Kq(F:List Qa->R Qa)(n:Nat):Sp:=λvs H Q E=>∃ds,bI H ds vs/\ds.length=n/\match F ds with
 |.ok d=>∀v H',aN H H'->Br H H' d v->Q v H'
 |.ex c=>∀H',aN H H'->E (.str c 0) none H'
 |.no=>False
theorem xj{P:Program}{w:World}{K:PySem.W.Frag}{mg:Str->Option Value}{base:Heap}{x qual:Str}{st:Stmt}{f:Addr}{fd:Qh}{N ps:List Str}{k:Nat}{g:Fs}{G:List Str}(F:gq K x qual st f fd)(S:aR N ps (ao st))(ck:vk (ao st) N G)
  (body:∀(cdv:Value) (A:Around) (outer:List Env) (s:Shared) (H:Hp) (E:XK),fW k (A.deeper (envOfC qual (ao st) s.heap.objs.size f cdv))->Tb (gK (cX P w mg) P w K mg base N qual (ao st) f cdv A outer s H E) N.length G ->
   Z.EvSN (gK (cX P w mg) P w K mg base N qual (ao st) f cdv A outer s H E) (cZ st) g):bc P w K mg base (cX P w mg) (k+1) f fd ps (Kq (dS N.length g) ps.length):=by
 obtain⟨oc,od,kV,doc,pm,an,cdv,ct,osl,rfl,lk,hcd⟩:=F.ex;refine zd lk hcd S (λvs H Q E ⟨ds,r,hl,_⟩=>by rw[r.length];exact hl) λA outer s H vs Q E hr h=>?_
 obtain⟨ds,r,hl,q⟩:=h;have noOwn:∀(i:Nat) (d:Qa),(ds.map ba.val++Qi (N.length-ds.length) ba.non)[i]?=some (.own d)->False:=λi d h1=>by
  by_cases hi:i<ds.length
  ·rw[List.getElem?_append_left (by simpa using hi),List.getElem?_map]at h1;cases e:ds[i]? with
   |none=>rw[e]at h1;cases h1
   |some d=>rw[e]at h1;cases h1
  ·rw[List.getElem?_append_right (by simpa using hi),List.getElem?_replicate]at h1;split at h1
   ·cases h1
   ·cases h1
 refine⟨_,(body cdv A outer s H E hr (xz hr ck)).un H,_,⟨aN.refl _,wF r,λi d a h1 h2=>(noOwn i d h1).elim,λi j d e a h1 h2 h3 h4=>(noOwn i d h1).elim⟩,?_⟩;unfold dS at q;cases eg:g (ds.map ba.val++Qi (N.length-ds.length) .non)with
 |ex c=>rw[eg]at q;exact⟨DK q,Ac q⟩
 |no=>rw[eg]at q;exact q.elim
 |ok o=>
  rw[eg]at q;cases o with
  |rt d=>exact λv H' s' p=>q v H' s' p
  |nx ρ=>
   obtain⟨d,z⟩:=(body cdv A outer s H E hr (xz hr ck)).rt _ _ eg;cases z
  |bk ρ=>exact q.elim
  |ct ρ=>exact q.elim
structure Gh(P:Program)(w:World)(K:PySem.W.Frag)(mg:Str->Option Value)(base:Heap)(k:Nat)(x:Str)(ps:List Str)(F:gh)(f:Addr)(fd:Qh):Prop where
 ok:bc P w K mg base (cX P w mg) k f fd ps (Kq F ps.length)
 m:mg x=some (.ref f)
 kp:PySem.W.keepIn K (.ref f)=true
 b:bx K fd ps []
theorem n6{X:Cx}{k:Nat}{f:Addr}{fd:Qh}{ps:List Str}{F:gh}{x:Str}{p pos:Pos}{e:Expr}{es:List Expr}{fs:aV->R (List Qa)}{nl:Nat}{G:List Str}(C:Gh X.prog X.w X.K X.mg X.base k x ps F f fd)(hr:fW k X.A)(T:Tb X nl G)(j:Nat)(hG:G[j]?=some x)(ha:Z.tZ X (e::es) fs)(hlen:(e::es).length=ps.length)(hfs:∀ρ ds,fs ρ=.ok ds->ds.length=ps.length)(he:(e::es).all bn=true:=by rfl):Z.mS X (.Call (.Name x p) (e::es) [] pos) (aC F fs):=⟨have ha:=ha.un;by
 rw[List.all_cons,Bool.and_eq_true]at he;have g:=T.gl x (List.mem_of_getElem? hG);refine PE.imp (zH C.ok hr g.1 C.m C.kp C.b .nil uT ha g.2.1 (bC he.1) (ls he.2)) λσ H Q zq0=>?_
 obtain⟨ρ,sl,q⟩:=zq0;refine⟨ρ,sl,?_⟩;unfold aC at q;cases e1:fs ρ with
 |ex c=>rw[e1]at q;exact q
 |no=>rw[e1]at q;exact q
 |ok ds=>
  rw[e1]at q;intro vs H1 s1 r1;rw[List.append_nil];refine⟨ds,my.mp r1,hfs ρ ds e1,?_⟩;have q':yg X Br (F ds) H Q:=q;cases e2:F ds with
  |ok d=>rw[e2]at q';exact λv H' s' p'=>q' v H' (s1.trans s') ⟨p'.1,let ⟨a,z1,z2⟩:=p'.2;⟨a,z1,s1.free z2⟩⟩
  |ex c=>rw[e2]at q';exact λH' s'=>Xw.ex q' H' (s1.trans s')
  |no=>rw[e2]at q';exact q'⟩
theorem Ap{P:Program}{w:World}{K:PySem.W.Frag}{mg:Str->Option Value}{base:Heap}{x qual:Str}{st:Stmt}{f:Addr}{fd:Qh}{N ps:List Str}{k:Nat}{g:Fs}(F:gq K x qual st f fd)(S:aR N ps (ao st))
  (body:∀(cdv:Value) (A:Around) (outer:List Env) (s:Shared) (H:Hp) (E:XK),fW k (A.deeper (envOfC qual (ao st) s.heap.objs.size f cdv)) ->
   Z.nY (gK (cX P w mg) P w K mg base N qual (ao st) f cdv A outer s H E) (cZ st) g):bc P w K mg base (cX P w mg) (k+1) f fd ps (dN (dS N.length g) ps.length):=
 D2.ED F S λcdv A outer s H E hr=>(body cdv A outer s H E hr).un
theorem aH{P:Program}{w:World}{K:PySem.W.Frag}{mg:Str->Option Value}{base:Heap}{x qual:Str}{st:Stmt}{f:Addr}{fd:Qh}{N ps:List Str}{k:Nat}{g:Fs}{G:List Str}(F:gq K x qual st f fd)(S:aR N ps (ao st))(ck:vk (ao st) N G)
  (body:∀(cdv:Value) (A:Around) (outer:List Env) (s:Shared) (H:Hp) (E:XK),fW k (A.deeper (envOfC qual (ao st) s.heap.objs.size f cdv))->Tb (gK (cX P w mg) P w K mg base N qual (ao st) f cdv A outer s H E) N.length G ->
   Z.nY (gK (cX P w mg) P w K mg base N qual (ao st) f cdv A outer s H E) (cZ st) g):bc P w K mg base (cX P w mg) (k+1) f fd ps (dN (dS N.length g) ps.length):=
 Ap F S λcdv A outer s H E hr=>body cdv A outer s H E hr (xz hr ck)
def qb(K:PySem.W.Frag):Bool:=K.all λp=>match p.2.cls with
 |.type n=>!(n == "list")
 | _=>true
theorem rh{α β:Type}[BEq α]{a:α}{o:β}:∀{K:List (α×β)},K.lookup a=some o->∃p∈K,p.2=o
 | [],e=>by cases e
 | (b,x)::r,e=>by
  rw[List.lookup_cons]at e;split at e
  ·cases e;exact⟨_,List.mem_cons_self,rfl⟩
  ·obtain⟨p,h1,h2⟩:=rh e;exact⟨p,Qf _ h1,h2⟩
theorem xX{K:PySem.W.Frag}(h:qb K=true){a:Addr}{o:Obj}(e:K.lookup a=some o)(c:o.cls=.type "list"):False:=by
 obtain⟨p,m,rfl⟩:=rh e;have q:=List.all_eq_true.mp h _ m;simp only[c]at q;simp at q
def Ck(F:List Qa->R Qa):Prop:=∀ns:List Int,ns.length<=63->F [.list (ns.map .int)]=.ok (.bool true)
theorem Lu{l:PySem.W.OpenLaw}{q:Program}{loose:List Str}{XP:(Str->Option Value)->Heap->Prop}{YP:World->Heap->Prop}{d:DefRec}{K:Params->PySem.W.Frag}{k:Nat}{x:Str}{F:List Qa->R Qa}(hn:l.most=some 63)(hdf:d.params.defaults=[])
  (hr:fW k callerA) (hY:∀(w:World) (h:Heap),YP w h->(K w.params).In h) (hF:Ck F)
  (G:∀(w:World) (mg:Str->Option Value) (fa:Addr) (h:Heap),(K w.params).In h->h.Ns mainGlobals mg->mg d.name=some (.ref fa) ->
   qb (K w.params)=true/\∃fd:Qh,(∀(s:Shared) (u:Value),BindsTo s fd ⟨[u],[]⟩ [(x,u)])/\∀base:Heap,(K w.params).In base->base.Ns mainGlobals mg->bc l.prog w (K w.params) mg base (cX l.prog w mg) k fa fd [x] (dN F 1)) :
  PySem.W.WalkO q loose XP YP l.row.toRowW d [] (λf vs=>PySem.call f vs):=by
 refine Att.attach_call hn hdf λw s₀ s₁ mg mb fa o pm cd doc a vs ns G0 Y ho hd hcd hmg hobj hints hlen hg=>?_
 have KX:=hY w _ Y;obtain⟨nl,fd,hb,hG⟩:=G w mg fa _ KX G0.T.g hmg;refine L2.Cm (sp:=dN F 1) KX G0.T.g G0.T.b G0.T.builtins G0.T.nolimit hg hobj hints (Nat.le_trans hlen (by decide)) hr hG hb (λH hO hS=>?_) λH e s' ⟨_,_,_,_,_,z⟩=>z
 refine⟨[.list (ns.map .int)],bI.cons ?_ bI.nil,rfl,?_⟩
 ·rcases hS with(h| ⟨o,h⟩)| ⟨o,its,n,h,c,_⟩
  ·rcases hO a with z| ⟨o,xs,z⟩
   ·rw[z]at h;cases h
   ·rw[z]at h;cases h
  ·simp only[Rp];exact⟨a,o,_,rfl,h,bI.ints ns⟩
  ·exact(xX nl h c).elim
 ·rw[hF ns hlen];intro v H' _ r;simpa only[Rp]using r
section
variable{K:PySem.W.Frag}{x qual:Str}{st:Stmt}{f:Addr}{fd:Qh}{p1 p2 p3 p4 p5 p6 p7:Str}
theorem FQ(F:gq K x qual st f fd)(h:∀(kV doc pm:Value) (an:Option Addr) (cdv ct:Value) (a1:Value),bindArgs (PySem.W.fnOf x qual (eI st) (cZ st) (ao st) .none kV doc pm an cdv ct) ⟨[a1],[]⟩=pure [(p1,a1)]):bx K fd [p1] []:=F.binds λkV doc pm an cdv ct us hl=>by
  obtain⟨a1,r0,rfl,q0⟩:=D2.gN hl;obtain rfl:=List.eq_nil_of_length_eq_zero q0;exact h kV doc pm an cdv ct a1
theorem va(F:gq K x qual st f fd)(h:∀(kV doc pm:Value) (an:Option Addr) (cdv ct:Value) (a1 a2:Value),bindArgs (PySem.W.fnOf x qual (eI st) (cZ st) (ao st) .none kV doc pm an cdv ct) ⟨[a1,a2],[]⟩=pure [(p1,a1),(p2,a2)]):bx K fd [p1,p2] []:=F.binds λkV doc pm an cdv ct us hl=>by
  obtain⟨a1,r0,rfl,q0⟩:=D2.gN hl;obtain⟨a2,r1,rfl,q1⟩:=D2.gN q0;obtain rfl:=List.eq_nil_of_length_eq_zero q1;exact h kV doc pm an cdv ct a1 a2
theorem DP(F:gq K x qual st f fd)(h:∀(kV doc pm:Value) (an:Option Addr) (cdv ct:Value) (a1 a2 a3:Value),bindArgs (PySem.W.fnOf x qual (eI st) (cZ st) (ao st) .none kV doc pm an cdv ct) ⟨[a1,a2,a3],[]⟩=pure [(p1,a1),(p2,a2),(p3,a3)]):bx K fd [p1,p2,p3] []:=F.binds λkV doc pm an cdv ct us hl=>by
  obtain⟨a1,r0,rfl,q0⟩:=D2.gN hl;obtain⟨a2,r1,rfl,q1⟩:=D2.gN q0;obtain⟨a3,r2,rfl,q2⟩:=D2.gN q1;obtain rfl:=List.eq_nil_of_length_eq_zero q2;exact h kV doc pm an cdv ct a1 a2 a3
theorem KC(F:gq K x qual st f fd)(h:∀(kV doc pm:Value) (an:Option Addr) (cdv ct:Value) (a1 a2 a3 a4:Value),bindArgs (PySem.W.fnOf x qual (eI st) (cZ st) (ao st) .none kV doc pm an cdv ct) ⟨[a1,a2,a3,a4],[]⟩=pure [(p1,a1),(p2,a2),(p3,a3),(p4,a4)]):bx K fd [p1,p2,p3,p4] []:=F.binds λkV doc pm an cdv ct us hl=>by
  obtain⟨a1,r0,rfl,q0⟩:=D2.gN hl;obtain⟨a2,r1,rfl,q1⟩:=D2.gN q0;obtain⟨a3,r2,rfl,q2⟩:=D2.gN q1;obtain⟨a4,r3,rfl,q3⟩:=D2.gN q2;obtain rfl:=List.eq_nil_of_length_eq_zero q3;exact h kV doc pm an cdv ct a1 a2 a3 a4
theorem LA(F:gq K x qual st f fd)(h:∀(kV doc pm:Value) (an:Option Addr) (cdv ct:Value) (a1 a2 a3 a4 a5:Value),bindArgs (PySem.W.fnOf x qual (eI st) (cZ st) (ao st) .none kV doc pm an cdv ct) ⟨[a1,a2,a3,a4,a5],[]⟩=pure [(p1,a1),(p2,a2),(p3,a3),(p4,a4),(p5,a5)]):bx K fd [p1,p2,p3,p4,p5] []:=F.binds λkV doc pm an cdv ct us hl=>by
  obtain⟨a1,r0,rfl,q0⟩:=D2.gN hl;obtain⟨a2,r1,rfl,q1⟩:=D2.gN q0;obtain⟨a3,r2,rfl,q2⟩:=D2.gN q1;obtain⟨a4,r3,rfl,q3⟩:=D2.gN q2;obtain⟨a5,r4,rfl,q4⟩:=D2.gN q3;obtain rfl:=List.eq_nil_of_length_eq_zero q4;exact h kV doc pm an cdv ct a1 a2 a3 a4 a5
theorem LM(F:gq K x qual st f fd)(h:∀(kV doc pm:Value) (an:Option Addr) (cdv ct:Value) (a1 a2 a3 a4 a5 a6:Value),bindArgs (PySem.W.fnOf x qual (eI st) (cZ st) (ao st) .none kV doc pm an cdv ct) ⟨[a1,a2,a3,a4,a5,a6],[]⟩=pure [(p1,a1),(p2,a2),(p3,a3),(p4,a4),(p5,a5),(p6,a6)]):bx K fd [p1,p2,p3,p4,p5,p6] []:=F.binds λkV doc pm an cdv ct us hl=>by
  obtain⟨a1,r0,rfl,q0⟩:=D2.gN hl;obtain⟨a2,r1,rfl,q1⟩:=D2.gN q0;obtain⟨a3,r2,rfl,q2⟩:=D2.gN q1;obtain⟨a4,r3,rfl,q3⟩:=D2.gN q2;obtain⟨a5,r4,rfl,q4⟩:=D2.gN q3;obtain⟨a6,r5,rfl,q5⟩:=D2.gN q4;obtain rfl:=List.eq_nil_of_length_eq_zero q5;exact h kV doc pm an cdv ct a1 a2 a3 a4 a5 a6
end
@[simp]theorem R.ite_bind{α β:Type}{c:Prop}[Decidable c](x y:R α)(k:α->R β):((if c then x else y)>>=k)=if c then x>>=k else y>>=k:=by
 by_cases h:c
 ·rw[if_pos h,if_pos h]
 ·rw[if_neg h,if_neg h]
@[simp]theorem cb{α:Type}(a:α):jG (R.ok a)=.ok a:=rfl
@[simp]theorem K1{α:Type}:jG (R.no:R α)=.no:=rfl
@[simp]theorem K0{α:Type}(c:Str):jG (R.ex c:R α)=.no:=rfl
def HF:rS->R Qa
 |.rt d=>.ok d
 |.nx _=>.ok .none
 | _=>.no
theorem fN(n:Nat)(g:Fs)(ds:List Qa):dS n g ds=(g (ds.map ba.val++Qi (n-ds.length) .non)>>=HF):=by
 unfold dS;congr 1
@[simp]theorem Kn(d:Qa):HF (.rt d)=.ok d:=rfl
@[simp]theorem Km(r:aV):HF (.nx r)=.ok .none:=rfl
section
variable(f g h:Fe)(ρ:aV)(i j:Nat)(t u:aV->R Bool)(a b:Fs)(fs:aV->R (List Qa))(F:List Qa->R Qa)(d e:Qa)
@[simp]theorem bA:eC d ρ=.ok d:=rfl
@[simp]theorem ap:ag 0 (.val d::ρ)=.ok d:=rfl
@[simp]theorem au(c:ba):ag (i+1) (c::ρ)=ag i ρ:=rfl
@[simp]theorem Et:eS 0 (.val d::ρ)=.ok d:=rfl
@[simp]theorem io:eS 0 (.own d::ρ)=.ok d:=rfl
@[simp]theorem gW(c:ba):eS (i+1) (c::ρ)=eS i ρ:=rfl
@[simp]theorem bL(k:Qa->R Qa):e1 k f ρ=(f ρ>>=λx=>k x):=rfl
@[simp]theorem bf(k:Qa->Qa->R Qa):e2 k f g ρ=(f ρ>>=λx=>g ρ>>=λy=>k x y):=rfl
@[simp]theorem bT:tE f ρ=(f ρ>>=vL):=rfl
@[simp]theorem ca(k:Bool):vL (.bool k)=.ok k:=rfl
@[simp]theorem gg:jE t u ρ=(t ρ>>=λk=>if k=true then u ρ else .ok false):=rfl
@[simp]theorem kr:nV t u ρ=(t ρ>>=λk=>if k=true then .ok true else u ρ):=rfl
@[simp]theorem fB:fg t ρ=(t ρ>>=λk=>.ok (!k)):=rfl
@[simp]theorem Kh:qH f g ρ=(f ρ>>=λd=>vL d>>=λk=>if k=true then g ρ else .ok (.bool false)):=rfl
@[simp]theorem KO:LO f g ρ=(f ρ>>=λd=>vL d>>=λk=>if k=true then .ok (.bool true)else g ρ):=rfl
@[simp]theorem Ki:BY f ρ=(f ρ>>=λd=>vL d>>=λk=>.ok (.bool (!k))):=rfl
@[simp]theorem xA:DR t f g ρ=(t ρ>>=λk=>if k=true then f ρ else g ρ):=rfl
@[simp]theorem aG:az ρ=.ok []:=rfl
@[simp]theorem ay:ai f fs ρ=(f ρ>>=λd=>fs ρ>>=λds=>.ok (d::ds)):=rfl
@[simp]theorem aS:aC F fs ρ=(fs ρ>>=F):=rfl
@[simp]theorem Ib(p q:Qa->Qa->R Qa):qI p q f g h ρ=(f ρ>>=λx=>g ρ>>=λy=>p x y>>=λd=>vL d>>=λk=>if k=true then h ρ>>=λz=>q y z else .ok (.bool false)):=rfl
@[simp]theorem gy:gM fs ρ=(fs ρ>>=λds=>if ds.length<=sizeLine then .ok (.tuple ds)else .no):=rfl
@[simp]theorem lE:kE fs ρ=(fs ρ>>=λds=>if ds.length<=sizeLine then .ok (.list ds)else .no):=rfl
@[simp]theorem Je:Jd ρ=.ok none:=rfl
@[simp]theorem Cy:pk f ρ=(f ρ>>=λd=>Ke d>>=λi=>.ok (some i)):=rfl
@[simp]theorem Iu(k:Int):Ke (.int k)=.ok k:=rfl
@[simp]theorem GK(lo hi:Fo):IL f lo hi ρ=(f ρ>>=λd=>lo ρ>>=λl=>hi ρ>>=λu=>DQ d l u):=rfl
@[simp]theorem wB:bU ρ=.ok (.nx ρ):=rfl
@[simp]theorem uZ:aO a b ρ=(a ρ>>=tL b):=rfl
@[simp]theorem JX:tL b (.nx ρ)=b ρ:=rfl
@[simp]theorem JY:tL b (.rt d)=.ok (.rt d):=rfl
@[simp]theorem JV:tL b (.bk ρ)=.ok (.bk ρ):=rfl
@[simp]theorem JW:tL b (.ct ρ)=.ok (.ct ρ):=rfl
@[simp]theorem cj:hW t a b ρ=(t ρ>>=λk=>if k=true then a ρ else b ρ):=rfl
@[simp]theorem da:bQ f ρ=(f ρ>>=λd=>.ok (.rt d)):=rfl
@[simp]theorem JF:JE ρ=.ok (.rt .none):=rfl
@[simp]theorem JD:JC f ρ=(f ρ>>=λ_=>.ok (.nx ρ)):=rfl
@[simp]theorem Ic:HH ρ=.ok (.bk ρ):=rfl
@[simp]theorem JA:Jz ρ=.ok (.ct ρ):=rfl
@[simp]theorem bp:bZ i f ρ=(f ρ>>=λd=>.ok (.nx (ρ.set i (.val d)))):=rfl
@[simp]theorem lI:gP i f ρ=(f ρ>>=λd=>.ok (.nx (ρ.set i (.own d)))):=rfl
@[simp]theorem bV:dY f ρ=(f ρ>>=km):=rfl
@[simp]theorem fD:eo fs ρ=(fs ρ>>=lU):=rfl
@[simp]theorem B8:zk fs ρ=(fs ρ>>=Dp):=rfl
@[simp]theorem IR:IQ fs ρ=(fs ρ>>=II):=rfl
@[simp]theorem IT:IS f ρ=(f ρ>>=FV):=rfl
@[simp]theorem IX:IW f ρ=(f ρ>>=Gf):=rfl
@[simp]theorem dG(ds:List Qa):km (.tuple ds)=.ok ds:=rfl
@[simp]theorem mI(ds:List Qa):km (.list ds)=.ok ds:=rfl
@[simp]theorem Iv:aE i d ρ=some (ρ.set i (.val d)):=rfl
@[simp]theorem dF:gk a ρ=jG (a ρ):=rfl
theorem dX(it:aV->R (List Qa))(bb:Qa->aV->Option aV):gO it bb a ρ=(it ρ>>=λds=>gc bb a ds ρ):=rfl
@[simp]theorem dw(bb:Qa->aV->Option aV):gc bb a [] ρ=.ok (.nx ρ):=by unfold gc;rfl
def tM(k:aV->R rS):rS->R rS
 |.nx ρ=>k ρ
 |.ct ρ=>k ρ
 |.bk ρ=>.ok (.nx ρ)
 |.rt r=>.ok (.rt r)
@[simp]theorem cO(k:aV->R rS):tM k (.nx ρ)=k ρ:=rfl
@[simp]theorem J0(k:aV->R rS):tM k (.ct ρ)=k ρ:=rfl
@[simp]theorem JZ(k:aV->R rS):tM k (.bk ρ)=.ok (.nx ρ):=rfl
@[simp]theorem J4(k:aV->R rS):tM k (.rt d)=.ok (.rt d):=rfl
theorem bY(i:Nat)(ds:List Qa):gc (aE i) a (d::ds) ρ=(a (ρ.set i (.val d))>>=tM (gc (aE i) a ds)):=by
 rw[gc];show(a (ρ.set i (.val d))>>=_)=_;congr 1
theorem aF{a b:Fs}{ρ ρ':aV}(h:a ρ=.ok (.nx ρ')):aO a b ρ=b ρ':=by rw[uZ,h];rfl
theorem yl{a b:Fs}{ρ:aV}{d:Qa}(h:a ρ=.ok (.rt d)):aO a b ρ=.ok (.rt d):=by rw[uZ,h];rfl
theorem eJ{n:Nat}{g:Fs}{ds:List Qa}{d:Qa}(h:g (ds.map ba.val++Qi (n-ds.length) .non)=.ok (.rt d)):dS n g ds=.ok d:=by rw[fN,h];rfl
theorem dM(bb:Qa->aV->Option aV):bJ bb t f ρ []=.ok []:=by unfold bJ;rfl
theorem fi(i:Nat)(ds:List Qa):bJ (aE i) t f ρ (d::ds)=(t (ρ.set i (.val d))>>=λk=>if k=true then f (ρ.set i (.val d))>>=λx=>bJ (aE i) t f ρ ds>>=λxs=>.ok (x::xs)else bJ (aE i) t f ρ ds):=by
 rw[bJ];rfl
theorem jU(i j:Nat)(x y:Qa)(ds:List Qa):bJ (fT i j) t f ρ (.tuple [x,y]::ds)=(t ((ρ.set i (.val x)).set j (.val y))>>=λk=>if k=true then f ((ρ.set i (.val x)).set j (.val y))>>=λx=>bJ (fT i j) t f ρ ds>>=λxs=>.ok (x::xs)else bJ (fT i j) t f ρ ds):=by
 rw[bJ];rfl
@[simp]theorem IZ:IY f g h ρ=(f ρ>>=λx=>g ρ>>=λy=>h ρ>>=λz=>yu x>>=λxs=>yu y>>=λys=>yu z>>=λzs=>.ok (DL xs ys zs)):=rfl
@[simp]theorem Lr(ds:List Qa):yu (.tuple ds)=.ok ds:=rfl
@[simp]theorem B0:BZ fs ρ=(fs ρ>>=F7 .tuple):=rfl
@[simp]theorem IK:IJ fs ρ=(fs ρ>>=F7 .list):=rfl
theorem Jw{mk:List Qa->Qa}{n:Int}(h0:0<=n)(h1:n<=1000000):F7 mk [.int n]=.ok (mk (bM 0 n.toNat)):=by
 show(if n<=16777216/\-(2 ^ 62)<=n then R.ok (mk (bM 0 n.toNat))else .no)=_;rw[if_pos (by omega)]
@[simp]theorem A3(x y:Qa)(e:f ρ=.ok (.tuple [x,y])):A2 (fT i j) f ρ=.ok (.nx ((ρ.set i (.val x)).set j (.val y))):=by unfold A2;rw[e];rfl
@[simp]theorem Kj(lo hi:Fo):KP f lo hi ρ=(f ρ>>=λd=>lo ρ>>=λl=>hi ρ>>=λu=>Iz d l u):=rfl
@[simp]theorem Fu(op:Int->Int->Int):A4 i op f ρ=(ag i ρ>>=λx=>f ρ>>=λy=>Kf op x y>>=λz=>.ok (.nx (ρ.set i (.val z)))):=rfl
@[simp]theorem Iy(op:Int->Int->Int)(m n:Int):Kf op (.int m) (.int n)=.ok (.int (op m n)):=rfl
theorem qc{ρ:aV}{i:Nat}{ds:List Qa}{fk fv:Fe}{n:Int}{v:Qa}(h:ρ[i]?=some (.own (.list ds)))(hk:fk ρ=.ok (.int n))(hv:fv ρ=.ok v)(h0:0<=n)(h1:n<ds.length):jy i fk fv ρ=.ok (.nx (ρ.set i (.own (.list (ds.set n.toNat v))))):=by
 unfold jy;rw[hv,hk,h];simp only[jG,R.ok_bind];have:L2.zo ds.length n=some n.toNat:=by unfold L2.zo;rw[if_pos h0,if_pos h1]
 rw[this]
@[simp]theorem EH:EG f g ρ=(f ρ>>=λx=>g ρ>>=λy=>km x>>=λxs=>km y>>=λys=>.ok (pV xs ys)):=rfl
@[simp]theorem nD:o5 f ρ=(f ρ>>=λx=>km x>>=λxs=>.ok (dR 0 xs)):=rfl
theorem oO{ρ:aV}{i:Nat}{ds:List Qa}(f:Fe)(h:ρ[i]?=some (.own (.list ds)))(hz:ds.length<sizeLine):gX i f ρ=(jG (f ρ)>>=λd=>.ok (.nx (ρ.set i (.own (.list (ds++[d])))))):=by
 unfold gX;congr 1;funext d;rw[h];exact if_pos hz
def G4:R (List Qa)->R Qa
 |.ok xs=>.ok (.list xs)
 |.ex c=>.ex c
 |.no=>.no
@[simp]theorem Kk(c:Str):G4 (.ex c)=.ex c:=rfl
@[simp]theorem iq(xs:List Qa):G4 (.ok xs)=.ok (.list xs):=rfl
theorem bg(it:aV->R (List Qa))(own:Nat)(fr:List Nat)(bb:Qa->aV->Option aV):bD it own fr bb t f ρ=(jG (it ρ)>>=λds=>if ds.length<=sizeLine then G4 (bJ bb t f (aB own fr ρ) ds)else .no):=by
 unfold bD;congr 1
theorem eA(i:Nat)(G:Qa->Qa):∀(ds:List Qa),(∀d∈ds,f (ρ.set i (.val d))=.ok (G d))->bJ (aE i) (λ_=>.ok true) f ρ ds=.ok (ds.map G)
 | [],_=>dM ..
 |d::ds,hh=>by
  rw[fi,hh d List.mem_cons_self,eA i G ds λx hx=>hh x (Qf _ hx)];rfl
end
section
variable(i j:Int)(xs ys:List Qa)
@[simp]theorem KJ:KI (.int i)=.ok (.int (-i)):=rfl
@[simp]theorem xu:eG (.int i) (.int j)=.ok (.int (i+j)):=rfl
@[simp]theorem GD:eG (.tuple xs) (.tuple ys)=if xs.length+ys.length<=sizeLine then .ok (.tuple (xs++ys))else .no:=rfl
@[simp]theorem KD:eG (.list xs) (.list ys)=if xs.length+ys.length<=sizeLine then .ok (.list (xs++ys))else .no:=rfl
@[simp]theorem xy:mm (.int i) (.int j)=.ok (.int (i-j)):=rfl
@[simp]theorem ml:dQ (.int i) (.int j)=if 0<j then .ok (.int (i%j))else .no:=rfl
@[simp]theorem xw:jV (.int i) (.int j)=if 0<j/\j<1073741824 then .ok (.int (i / j))else .no:=rfl
theorem GH:eY (.int i) (.int j)=if(-(2 ^ 64)<i/\i<2 ^ 64)\/(-(2 ^ 64)<j/\j<2 ^ 64)then .ok (.int (i*j))else .no:=rfl
@[simp]theorem mh(p:Int->Int->Bool):hV p (.int i) (.int j)=.ok (.bool (p i j)):=rfl
@[simp]theorem KH:GF (.int i) (.int j)=.ok (.int (if j<i then j else i)):=rfl
@[simp]theorem KG:GE (.int i) (.int j)=.ok (.int (if j>i then j else i)):=rfl
@[simp]theorem kW:ci (.tuple xs)=.ok (.int xs.length):=rfl
@[simp]theorem uE:ci (.list xs)=.ok (.int xs.length):=rfl
@[simp]theorem nC:cB (.list xs)=.ok (.tuple xs):=rfl
@[simp]theorem ID:cB (.tuple xs)=.ok (.tuple xs):=rfl
@[simp]theorem Kg:nB (.list xs)=.ok (.list xs):=rfl
@[simp]theorem Eo:nB (.tuple xs)=.ok (.list xs):=rfl
@[simp]theorem KF:su (.int i)=.ok (.int i):=rfl
@[simp]theorem KE(k:Bool):su (.bool k)=.ok (.int (if k then 1 else 0)):=rfl
@[simp]theorem IB(lo hi:Option Int):DQ (.tuple xs) lo hi=.ok (.tuple (qD xs lo hi)):=rfl
@[simp]theorem IA(lo hi:Option Int):DQ (.list xs) lo hi=.ok (.list (qD xs lo hi)):=rfl
@[simp]theorem KM:KL (.tuple xs)=.ok (.tuple xs.reverse):=rfl
theorem uu{α:Type}{xs:List α}{i:Int}(h0:0<=i)(h1:i<xs.length):L2.atI xs i=some (xs[i.toNat]'(by omega)):=by
 unfold L2.atI zo;rw[if_pos h0,if_pos h1];exact List.getElem?_eq_getElem (by omega)
theorem vR{xs:List Qa}{i:Int}(h0:0<=i)(h1:i<xs.length):aX (.tuple xs) (.int i)=.ok (xs[i.toNat]'(by omega)):=by
 show(match L2.atI xs i with|some d=>R.ok d|none=>.no)=_;rw[uu h0 h1]
theorem vQ{xs:List Qa}{i:Int}(h0:0<=i)(h1:i<xs.length):aX (.list xs) (.int i)=.ok (xs[i.toNat]'(by omega)):=by
 show(match L2.atI xs i with|some d=>R.ok d|none=>.no)=_;rw[uu h0 h1]
theorem uH:Qa.eqv (.int i) (.int j)=decide (i=j):=by
 simp only[Qa.eqv];by_cases h:i=j
 ·subst h;simp
 ·simp[h]
theorem fZ:jc (.int i) (.int j)=.ok (.bool (decide (i=j))):=by
 unfold jc;rw[if_pos (by rfl),uH]
theorem yX:mL (.int i) (.int j)=.ok (.bool (!decide (i=j))):=by
 unfold mL;rw[if_pos (by rfl),uH]
end
end D2
namespace G
open PySem PySem.Spec PyProof.Rows L2 D2
def KW:Qa->Bool
 |.int _=>true
 | _=>false
def noD:Qa->Prop
 |.dict _=>False
 | _=>True
def wP(d:Qa)(lo hi:Int):Bool:=match d with
 |.int i=>decide (lo<=i)&&decide (i<=hi)
 | _=>false
def pS(c:Int):Int->List Qa->Bool
 | _,[]=>true
 |l,d::r=>match d with
  |.int i=>(decide (l<=i)&&decide (i<c))&&pS c (i+1) r
  | _=>false
@[simp] def zX(c:Int):Qa->Bool
 |.tuple ds=>pS c 0 ds
 | _=>false
abbrev fK(d:Qa):Prop:=d.canLay0=true
theorem fK.noD{d:Qa}(h:fK d):noD d:=by
 cases d<;>first|trivial| (simp[fK,Qa.canLay0]at h)
theorem uI:∀{ds:List Qa},Qa.canLayAll0 ds=true->∀x∈ds,fK x
 | [],_,x,hx=>by cases hx
 |d::ds,h,x,hx=>by
  have h':d.canLay0=true/\Qa.canLayAll0 ds=true:=by simpa[Qa.canLayAll0]using h
  rcases List.mem_cons.mp hx with rfl|hx
  ·exact h'.1
  ·exact uI h'.2 x hx
theorem nk:∀{ds:List Qa},(∀x∈ds,fK x)->Qa.canLayAll0 ds=true
 | [],_=>by simp[Qa.canLayAll0]
 |d::ds,h=>by
  have h1:=h d List.mem_cons_self;have h2:=nk λx hx=>h x (Qf _ hx)
  simp only[Qa.canLayAll0,Bool.and_eq_true];exact⟨h1,h2⟩
theorem eP{ds:List Qa}:fK (.tuple ds)<->∀x∈ds,fK x:=by
 constructor
 ·intro h;exact uI (by simpa[fK,Qa.canLay0]using h)
 ·intro h;simp only[fK,Qa.canLay0];exact nk h
theorem sU{ds:List Qa}:fK (.list ds)<->∀x∈ds,fK x:=by
 constructor
 ·intro h;exact uI (by simpa[fK,Qa.canLay0]using h)
 ·intro h;simp only[fK,Qa.canLay0];exact nk h
theorem kZ(i:Int):fK (.int i):=by simp[fK,Qa.canLay0]
theorem sV:fK .none:=by simp[fK,Qa.canLay0]
theorem pY(p:Qa->Bool):∀ds:List Qa,D2.pO (ds.map λd=>.bool (p d))=some (ds.all p)
 | []=>rfl
 |d::ds=>by
  simp only[List.map_cons,D2.pO,pY p ds,List.all_cons,Option.map_some]
theorem bG{n:Nat}(h:n<=1000):n<=sizeLine:=Nat.le_trans h (by decide)
abbrev pT(ns:List Int):Qa:=.list (ns.map .int)
theorem gV{i j:Int}(h:(-(2 ^ 64)<i/\i<2 ^ 64)\/(-(2 ^ 64)<j/\j<2 ^ 64)):eY (.int i) (.int j)=.ok (.int (i*j)):=by rw[GH,if_pos h]
structure w4(c:Int)(n:Nat)(kvs:List (Qa×Qa)):Prop where
 ex:∃ns:List Int,kvs.map (·.1)=ns.map Qa.int/\(∀x∈ns,0<=x/\x<c)/\ns.length<=n/\(n=0\/ns≠[])/\ns.Nodup
theorem w4.put{c:Int}{n:Nat}{kvs:List (Qa×Qa)}(h:w4 c n kvs){k:Int}(h0:0<=k)(h1:k<c)(v:Qa):w4 c (n+1) (yd kvs (.int k) v):=by
 obtain⟨ns,e,hb,hl,hn,nd⟩:=h.ex;have hany:(kvs.any λkv=>iQ kv.1 (.int k))=ns.any λi=>decide (i=k):=by
  have:(kvs.any λkv=>iQ kv.1 (.int k))=(kvs.map (·.1)).any λd=>iQ d (.int k):=by rw[List.any_map];rfl
  rw[this,e,List.any_map];rfl
 unfold yd;rw[hany];by_cases hm:k∈ns
 ·have ha:(ns.any λi=>decide (i=k))=true:=by simp;exact hm
  rw[if_pos ha];refine⟨ns,?_,hb,by omega,.inr (by intro z;rw[z]at hm;cases hm),nd⟩;rw[<-e,List.map_map];apply List.map_congr_left;intro kv _;show(if iQ kv.1 (.int k)=true then(kv.1,v)else kv).1=kv.1;split<;>rfl
 ·have ha:¬(ns.any λi=>decide (i=k))=true:=by simp;exact hm
  rw[if_neg ha];refine⟨ns++[k],by rw[List.map_append,List.map_append,e];rfl,λx hx=>?_,by simp;omega,.inr (by simp),?_⟩
  ·rcases List.mem_append.mp hx with z|z
   ·exact hb x z
   ·simp at z;subst z;exact⟨h0,h1⟩
  ·rw[List.nodup_append];refine⟨nd,by simp,λa hma b hb'=>?_⟩;simp at hb';subst hb';rintro rfl;exact hm hma
theorem w4.len{c:Int}{n:Nat}{kvs:List (Qa×Qa)}(h:w4 c n kvs):kvs.length<=n:=by
 obtain⟨ns,e,_,hl,_⟩:=h.ex;have:=congrArg List.length e;simp at this;omega
theorem lb(lo:Int)(n:Nat):∀d∈bM lo n,∃k,d=.int k:=λd hd=>by
 unfold bM at hd;obtain⟨k,_,rfl⟩:=List.mem_map.mp hd;exact⟨_,rfl⟩
theorem dU(lo:Int)(n:Nat):(bM lo n).length=n:=by unfold bM;simp
theorem En{xs:List Qa}{i:Int}(h0:0<=i)(h1:i<xs.length):∃x∈xs,aX (.list xs) (.int i)=.ok x:=⟨_,List.getElem_mem _,vQ h0 h1⟩
inductive vn:Qa->Prop
 |int (i:Int) (h1:-20<=i) (h2:i<=24):vn (.int i)
 |none:vn .none
 |tuple (ds:List Qa) (h:ds.length<=100) (ha:∀x∈ds,vn x):vn (.tuple ds)
theorem vn.good{d:Qa}(h:vn d):fK d:=by
 induction h with
 |int i=>exact kZ i
 |none=>exact sV
 |tuple ds _ _ ih=>exact eP.mpr ih
structure P4 where
 w:Int
 m:Int
 g:Int
 ns:List Int
def P4.d(p:P4):Qa:=.tuple [.int p.w,.int p.m,.int p.g,.tuple (p.ns.map .int)]
structure Pl(c hi:Int)(p:P4):Prop where
 w0:0<=p.w
 w1:p.w<=1
 m0:0<=p.m
 m1:p.m<=hi
 g0:-20<=p.g
 g1:p.g<=20
 ne:p.ns≠[]
 so:p.ns.Pairwise (· < ·)
 inn:∀x∈p.ns,0<=x/\x<c
theorem mD:∀(ns:List Int) (l c:Int),ns.Pairwise (· < ·)->(∀x∈ns,l<=x/\x<c)->ns=[]\/l+(ns.length:Int)<=c
 | [],_,_,_,_=>.inl rfl
 |x::r,l,c,hp,hb=>by
  right;obtain⟨h1,h2⟩:=List.pairwise_cons.mp hp;have hx:=hb x List.mem_cons_self;rcases mD r (x+1) c h2 (λy hy=>⟨by have:=h1 y hy;omega,(hb y (Qf _ hy)).2⟩)with rfl|z
  ·simp;omega
  ·rw[List.length_cons];omega
theorem Pl.len{c hi:Int}{p:P4}(h:Pl c hi p):(p.ns.length:Int)<=c:=by
 rcases mD p.ns 0 c h.so h.inn with z|z
 ·exact absurd z h.ne
 ·omega
abbrev gD(ps:List P4):Qa:=.tuple (ps.map P4.d)
theorem tK{ns:List Int}(h:ns.Pairwise (·<=·))(nd:ns.Nodup):ns.Pairwise (· < ·):=by
 have:=h.and nd;exact this.imp λ⟨a,b⟩=>by omega
theorem uX(c:Int):∀(ns:List Int) (l:Int),ns.Pairwise (· < ·)->(∀x∈ns,l<=x/\x<c)->pS c l (ns.map .int)=true
 | [],_,_,_=>rfl
 |x::r,l,hp,hb=>by
  obtain⟨h1,h2⟩:=List.pairwise_cons.mp hp;have hx:=hb x List.mem_cons_self;simp only[List.map_cons,pS,Bool.and_eq_true,decide_eq_true_eq];exact⟨⟨hx.1,hx.2⟩,uX c r (x+1) h2 λy hy=>⟨by have:=h1 y hy;omega,(hb y (Qf _ hy)).2⟩⟩
end G
noncomputable section
namespace G
open PySem PySem.Spec PyProof.Rows L2 D2
def h9:Fs:=
 (aO (A2 (fT 5 6) (ag 4)) (aO (bZ 7 (e2 aX (e2 aX (ag 0) (ag 6)) (eC (.int 3)))) (aO (hW (tE (e2 (jc) (e2 aX (e2 aX (ag 0) (ag 6)) (eC (.int 0))) (ag 2))) (bZ 7 (bD (dY (kE (ai (e2 aX (e2 aX (ag 3) (ag 5)) (ag 6)) az))) 1 [] (aE 0) (tE (e2 (kx) (ag 0) (eC .none))) (ag 0))) bU) (bQ (bD (dY (ag 7)) 1 [1,5,0] (aE 0) (λ_=>.ok true) (gM (ai (e2 aX (e2 aX (e2 aX (ag 1) (ag 2)) (eC (.int 1))) (e2 aX (e2 aX (ag 3) (ag 0)) (eC (.int 1)))) (ai (ag 0) az))))))))
def aQ:List Qa->R Qa:=dS 8 (h9)
def l3(aQ:List Qa->R Qa):Fs:=
 (aO (gP 6 (eC (.dict [(.bool true,.none)]))) (aO (gP 7 (aC aQ (ai (ag 0) (ai (ag 1) (ai (ag 2) (ai (ag 3) (ai (ag 4) az))))))) (aO (gk (u0 1000000 (tE (e2 (mL) (eS 7) (kE az))) (aO (A5 8 7) (hW (jE (tE (e2 (pZ false) (ag 8) (ag 5))) (tE (e2 (om true) (ag 8) (eS 6)))) (aO (pB 6 (ag 8) (eC (.bool true))) (gP 7 (e2 qE (eS 7) (aC aQ (ai (ag 0) (ai (ag 1) (ai (ag 2) (ai (ag 3) (ai (ag 8) az))))))))) bU)))) (bQ (e2 (om false) (ag 4) (eS 6))))))
def dq:List Qa->R Qa:=dS 9 (l3 aQ)
def i6:Fs:=
 (aO (hW (tE (e2 (hV LD) (ag 1) (e1 ci (ag 0)))) (bQ (e2 aX (ag 0) (ag 1))) bU) (bQ (eC (.int 0))))
def dg:List Qa->R Qa:=dS 2 (i6)
def kN(dg:List Qa->R Qa):Fs:=
 (aO (bZ 2 (e2 dQ (e2 eY (e2 eG (e2 eG (aC dg (ai (ag 0) (ai (ag 1) az))) (e2 eY (eC (.int 7919)) (ag 1))) (eC (.int 1))) (eC (.int 48271))) (eC (.int 2147483647)))) (bQ (e2 dQ (e2 eG (e2 eG (e2 eY (ag 2) (ag 2)) (e2 eY (eC (.int 7)) (ag 2))) (ag 1)) (eC (.int 2147483629)))))
def aY:List Qa->R Qa:=dS 3 (kN dg)
def kL:Fs:=
 (aO (bZ 2 (e2 dQ (e2 eY (e2 eG (e2 eG (ag 0) (e2 eY (eC (.int 104729)) (ag 1))) (eC (.int 17))) (eC (.int 69621))) (eC (.int 2147483647)))) (bQ (e2 dQ (e2 eG (e2 eG (e2 eY (ag 2) (ag 2)) (e2 eY (eC (.int 3)) (ag 2))) (ag 1)) (eC (.int 2147483629)))))
def aJ:List Qa->R Qa:=dS 3 (kL)
def kM(aJ:List Qa->R Qa):Fs:=
 (aO (gP 2 (eC (.dict []))) (aO (gk (gO (eo (ai (e2 eG (e2 eG (eC (.int 1)) (e2 dQ (ag 0) (eC (.int 3)))) (e2 eY (eC (.int 20)) (e1 su (e2 (jc) (e2 dQ (e2 jV (ag 0) (eC (.int 3))) (eC (.int 29))) (eC (.int 7)))))) az)) (aE 3) (Fv 2 (e2 dQ (aC aJ (ai (ag 0) (ai (ag 3) az))) (ag 1)) (eC (.bool true))))) (bQ (e1 cB (e1 jW (eS 2))))))
def eE:List Qa->R Qa:=dS 4 (kM aJ)
def kO(aJ:List Qa->R Qa)(eE:List Qa->R Qa):Fs:=
 (aO (bZ 3 (e2 mm (e2 dQ (e2 jV (ag 0) (eC (.int 26))) (eC (.int 9))) (eC (.int 4)))) (aO (hW (tE (e2 (jc) (e2 dQ (e2 jV (ag 0) (eC (.int 234))) (eC (.int 11))) (eC (.int 3)))) (bZ 3 (e2 mm (e2 dQ (e2 jV (ag 0) (eC (.int 26))) (eC (.int 41))) (eC (.int 20)))) bU) (bQ (gM (ai (e2 dQ (ag 0) (eC (.int 2))) (ai (e2 dQ (e2 jV (ag 0) (eC (.int 2))) (e2 eG (ag 2) (eC (.int 1)))) (ai (ag 3) (ai (aC eE (ai (aC aJ (ai (ag 0) (ai (eC (.int 9)) az))) (ai (ag 1) az))) az))))))))
def dI:List Qa->R Qa:=dS 4 (kO aJ eE)
def jL(aY:List Qa->R Qa)(dI:List Qa->R Qa):Fs:=
 (aO (bZ 2 (aC aY (ai (ag 0) (ai (eC (.int 0)) az)))) (aO (bZ 3 (e2 eG (eC (.int 1)) (e2 dQ (ag 2) (e2 GF (ag 1) (e2 GE (eC (.int 4)) (e1 ci (ag 0))))))) (aO (bZ 4 (e2 aX (kE (ai (eC (.int 1)) (ai (eC (.int 2)) (ai (eC (.int 3)) (ai (eC (.int 5)) (ai (eC (.int 12)) (ai (eC (.int 12)) az))))))) (e2 dQ (e2 jV (ag 2) (eC (.int 24))) (eC (.int 6))))) (bQ (e1 cB (bD (eo (ai (ag 3) az)) 1 [0,3,4] (aE 0) (λ_=>.ok true) (aC dI (ai (aC aY (ai (ag 1) (ai (e2 eG (eC (.int 3)) (ag 0)) az))) (ai (ag 2) (ai (ag 3) az))))))))))
def cS:List Qa->R Qa:=dS 5 (jL aY dI)
def jM(aJ:List Qa->R Qa):Fs:=
 (aO (gP 1 (kE az)) (aO (gk (gO (eo (ai (e2 eG (eC (.int 1)) (e2 dQ (ag 0) (eC (.int 5)))) az)) (aE 2) (gX 1 (e1 cB (bD (eo (ai (eC (.int 13)) az)) 1 [0,2] (aE 0) (tE (e2 (jc) (e2 dQ (aC aJ (ai (ag 1) (ai (e2 eG (e2 eY (eC (.int 13)) (ag 2)) (ag 0)) az))) (eC (.int 3))) (eC (.int 0)))) (ag 0)))))) (bQ (e1 cB (eS 1)))))
def dh:List Qa->R Qa:=dS 3 (jM aJ)
def i7(aQ:List Qa->R Qa):Fs:=
 (aO (gk (gO (qS (ag 4)) (aE 5) (aO (bZ 6 (aC aQ (ai (ag 0) (ai (ag 1) (ai (ag 2) (ai (ag 3) (ai (ag 5) az))))))) (hW (nV (tE (e2 (jc) (ag 6) (kE az))) (tE (e2 (mL) (bD (dY (ag 6)) 1 [4] (aE 0) (tE (e2 (om true) (ag 0) (ag 1))) (ag 0)) (kE az)))) (bQ (eC (.bool false))) bU)))) (bQ (eC (.bool true))))
def cw:List Qa->R Qa:=dS 7 (i7 aQ)
def jH:Fs:=
 (bQ (BZ (ai (e1 ci (ag 0)) az)))
def dB:List Qa->R Qa:=dS 1 (jH)
def qg:Fs:=
 (bQ (qH (e1 (gL .int) (ag 0)) (BY (e1 (gL .bool) (ag 0)))))
def fJ:List Qa->R Qa:=dS 1 (qg)
def jJ(fJ:List Qa->R Qa):Fs:=
 (bQ (qH (aC fJ (ai (ag 0) az)) (qI (hV Kl) (hV Kl) (ag 1) (ag 0) (ag 2))))
def aW:List Qa->R Qa:=dS 3 (jJ fJ)
def lZ(aW:List Qa->R Qa):Fs:=
 (aO (hW (fg (tE (e1 (gL .tuple) (ag 0)))) (bQ (eC (.bool false))) bU) (aO (bZ 2 (eC (.int 0))) (aO (gk (gO (dY (ag 0)) (aE 3) (aO (hW (fg (tE (aC aW (ai (ag 3) (ai (ag 2) (ai (e2 mm (ag 1) (eC (.int 1))) az)))))) (bQ (eC (.bool false))) bU) (bZ 2 (e2 eG (ag 3) (eC (.int 1))))))) (bQ (eC (.bool true))))))
def cr:List Qa->R Qa:=dS 4 (lZ aW)
def qf:Fs:=
 (bQ (e1 cB (bD (dY (ag 0)) 1 [1] (aE 0) (tE (e2 (pZ false) (ag 0) (ag 1))) (ag 0))))
def ce:List Qa->R Qa:=dS 2 (qf)
def ia:Fs:=
 (bQ (e1 cB (bD (EG (ag 0) (ag 1)) 2 [] (fT 0 1) (λ_=>.ok true) (DR (tE (e2 (nA) (ag 0) (eC .none))) (ag 1) (ag 0)))))
def aZ:List Qa->R Qa:=dS 2 (ia)
def qh:Fs:=
 (bQ (e1 cB (bD (o5 (ag 0)) 2 [] (fT 0 1) (tE (e2 (kx) (ag 1) (eC .none))) (ag 0))))
def dt:List Qa->R Qa:=dS 1 (qh)
def ib(dt:List Qa->R Qa):Fs:=
 (aO (gP 3 (bD (dY (ag 2)) 1 [] (aE 0) (λ_=>.ok true) (eC .none))) (aO (gk (gO (dY (aC dt (ai (ag 2) az))) (aE 4) (hW (jE (tE (e2 (jc) (e2 aX (e2 aX (ag 0) (ag 4)) (eC (.int 0))) (ag 1))) (tE (e2 (hV rU) (e2 aX (ag 2) (ag 4)) (eC (.int 0))))) (jy 3 (ag 4) (e2 aX (bD (dY (e2 aX (e2 aX (ag 0) (ag 4)) (eC (.int 3)))) 1 [2,4] (aE 0) (tE (e2 (jc) (e2 aX (ag 1) (ag 0)) (e2 mm (e2 aX (ag 1) (ag 2)) (eC (.int 1))))) (ag 0)) (eC (.int 0)))) bU))) (bQ (e1 cB (eS 3)))))
def cy:List Qa->R Qa:=dS 5 (ib dt)
def kK:Fs:=
 (aO (bZ 4 (bD (dY (ag 1)) 1 [3] (aE 0) (tE (e2 (kx) (e2 aX (ag 1) (ag 0)) (eC .none))) (ag 0))) (aO (hW (tE (e2 (jc) (e2 aX (ag 0) (eC (.int 0))) (ag 2))) (bQ (e2 (hV rU) (e1 ci (ag 4)) (eC (.int 0)))) bU) (bQ (e2 (jc) (e1 ci (ag 4)) (e1 ci (ag 1))))))
def cK:List Qa->R Qa:=dS 5 (kK)
def l5(ce:List Qa->R Qa)(cK:List Qa->R Qa):Fs:=
 (aO (bZ 4 (bD (dY (ag 0)) 1 [1] (aE 0) (λ_=>.ok true) (aC ce (ai (e2 aX (ag 0) (eC (.int 3))) (ai (ag 1) az))))) (aO (gP 5 (bD (eo (ai (e1 ci (ag 0)) az)) 1 [3] (aE 0) (λ_=>.ok true) (DR (tE (e2 (pZ false) (ag 0) (ag 1))) (eC (.int 0)) (eC .none)))) (aO (bZ 6 (eC (.int 0))) (aO (bZ 7 (e1 nB (ag 3))) (aO (gk (u0 1000000 (tE (e2 (hV rU) (e1 ci (ag 7)) (eC (.int 0)))) (aO (A4 6 (λa b=>a+b) (eC (.int 1))) (aO (bZ 8 (bD (dY (ag 1)) 1 [5] (aE 0) (tE (e2 (nA) (e2 aX (eS 1) (ag 0)) (eC .none))) (ag 0))) (aO (bZ 7 (bD (dY (ag 8)) 1 [0,4,2,5] (aE 0) (tE (jq 4 (aC cK (ai (e2 aX (ag 1) (ag 0)) (ai (e2 aX (ag 2) (ag 0)) (ai (ag 3) (ai (ag 4) az))))))) (ag 0))) (gk (gO (dY (ag 7)) (aE 9) (jy 5 (ag 9) (ag 6))))))))) (bQ (e1 cB (eS 5))))))))
def eN:List Qa->R Qa:=dS 10 (l5 ce cK)
def l4:Fs:=
 (bQ (e1 cB (bD (dY (ag 0)) 1 [] (aE 0) (λ_=>.ok true) (eC .none))))
def cJ:List Qa->R Qa:=dS 1 (l4)
def ic(ce:List Qa->R Qa)(cJ:List Qa->R Qa):Fs:=
 (aO (gP 3 (e1 nB (aC cJ (ai (ag 0) az)))) (aO (gk (gO (dY (ag 2)) (aE 4) (hW (tE (e2 (jc) (e2 aX (e2 aX (ag 0) (ag 4)) (eC (.int 0))) (ag 1))) (jy 3 (ag 4) (e2 aX (aC ce (ai (e2 aX (e2 aX (ag 0) (ag 4)) (eC (.int 3))) (ai (ag 2) az))) (eC (.int 0)))) bU))) (bQ (e1 cB (eS 3)))))
def cz:List Qa->R Qa:=dS 5 (ic ce cJ)
def n4:Fs:=
 (bQ (e1 cB (bD (dY (ag 0)) 1 [1] (aE 0) (tE (e2 (pZ true) (ag 0) (ag 1))) (ag 0))))
def cV:List Qa->R Qa:=dS 2 (n4)
def gw(ce:List Qa->R Qa)(aZ:List Qa->R Qa)(cy:List Qa->R Qa)(dt:List Qa->R Qa)(eN:List Qa->R Qa)(cz:List Qa->R Qa)(cV:List Qa->R Qa)(c_Share:Addr):Fs:=
 (aO (bZ 4 (aC eN (ai (ag 0) (ai (ag 1) (ai (ag 2) (ai (aC ce (ai (ag 3) (ai (ag 1) az))) az)))))) (aO (bZ 5 (aC cV (ai (ag 1) (ai (aC dt (ai (ag 4) az)) az)))) (aO (hW (tE (e2 (jc) (e1 ci (ag 5)) (eC (.int 0)))) (aO (bZ 6 (aC aZ (ai (aC cy (ai (ag 0) (ai (ag 2) (ai (ag 4) az)))) (ai (aC cz (ai (ag 0) (ai (ag 2) (ai (ag 1) az)))) az)))) (bQ (BX c_Share ["who","places","moves"] (ai (ag 2) (ai (ag 1) (ai (ag 6) az)))))) bU) (aO (bZ 7 (e2 mm (eC (.int 1)) (ag 2))) (aO (bZ 4 (aC eN (ai (ag 0) (ai (ag 1) (ai (ag 7) (ai (ag 5) az)))))) (aO (bZ 6 (aC aZ (ai (aC cy (ai (ag 0) (ai (ag 7) (ai (ag 4) az)))) (ai (aC cz (ai (ag 0) (ai (ag 7) (ai (ag 5) az)))) az)))) (bQ (BX c_Share ["who","places","moves"] (ai (ag 7) (ai (aC dt (ai (ag 4) az)) (ai (ag 6) az)))))))))))
def bN(c_Share:Addr):List Qa->R Qa:=dS 8 (gw ce aZ cy dt eN cz cV c_Share)
def fU(aZ:List Qa->R Qa)(cJ:List Qa->R Qa)(c_Share:Addr):Fs:=
 (aO (gP 2 (bD (dY (ag 0)) 1 [] (aE 0) (λ_=>.ok true) (eC .none))) (aO (bZ 3 (aC cJ (ai (ag 0) az))) (aO (gk (gO (dY (ag 1)) (aE 4) (aO (gk (gO (dY (e1 (mn c_Share "places") (ag 4))) (aE 5) (jy 2 (ag 5) (e1 (mn c_Share "who") (ag 4))))) (bZ 3 (aC aZ (ai (ag 3) (ai (e1 (mn c_Share "moves") (ag 4)) az))))))) (bQ (gM (ai (e1 cB (eS 2)) (ai (ag 3) az)))))))
def bK(c_Share:Addr):List Qa->R Qa:=dS 6 (fU aZ cJ c_Share)
def ua(dB:List Qa->R Qa)(cr:List Qa->R Qa)(bN:List Qa->R Qa)(bK:List Qa->R Qa)(cV:List Qa->R Qa)(c_Share:Addr):Fs:=
 (aO (hW (fg (tE (aC cr (ai (ag 2) (ai (e1 ci (ag 0)) az))))) (rF (PySem.Str.ofString "NoPart") (eC (.str (PySem.Str.ofString "goals are not some places")))) bU) (aO (gP 3 (kE az)) (aO (bZ 4 (aC dB (ai (ag 0) az))) (aO (gk (u0 1000000 (tE (e2 (hV rU) (e1 ci (ag 4)) (eC (.int 0)))) (aO (bZ 5 (aC bN (ai (ag 0) (ai (ag 4) (ai (ag 1) (ai (ag 2) az)))))) (aO (gX 3 (ag 5)) (bZ 4 (aC cV (ai (ag 4) (ai (e1 (mn c_Share "places") (ag 5)) az)))))))) (HI 3 (bQ (aC bK (ai (ag 0) (ai (ag 3) az)))))))))
def im(c_Share:Addr):List Qa->R Qa:=dS 6 (ua dB cr (bN c_Share) (bK c_Share) cV c_Share)
def kJ:Fs:=
 (bQ (e1 cB (bD (zk (ai (eC (.int 0)) (ai (e1 ci (ag 0)) (ai (ag 1) az)))) 1 [0,1] (aE 0) (λ_=>.ok true) (e1 cB (IL (ag 1) (pk (ag 0)) (pk (e2 eG (ag 0) (ag 2))))))))
def dH:List Qa->R Qa:=dS 2 (kJ)
def jI:Fs:=
 (aO (bZ 2 (e1 ci (ag 0))) (bQ (e1 cB (bD (eo (ai (e2 eY (ag 2) (e1 ci (ag 1))) az)) 1 [1,2] (aE 0) (tE (e2 (jc) (e2 aX (e2 aX (ag 1) (e2 jV (ag 0) (ag 2))) (eC (.int 0))) (eC (.int 1)))) (ag 0)))))
def dC:List Qa->R Qa:=dS 3 (jI)
def jP:Fs:=
 (bQ (gM (ai (e2 aX (ag 0) (eC (.int 0))) (ai (e2 aX (ag 0) (eC (.int 1))) (ai (e2 aX (ag 0) (eC (.int 2))) (ai (e1 cB (ag 1)) az))))))
def dE:List Qa->R Qa:=dS 2 (jP)
def nZ(dE:List Qa->R Qa):Fs:=
 (aO (bZ 3 (bD (dY (e2 aX (ag 2) (eC (.int 3)))) 1 [1,0] (aE 0) (λ_=>.ok true) (e2 eG (e2 eY (e2 aX (e2 aX (ag 1) (eC (.int 1))) (e2 aX (e2 aX (ag 2) (ag 0)) (eC (.int 1)))) (e1 ci (ag 2))) (ag 0)))) (bQ (aC dE (ai (ag 2) (ai (e1 jW (ag 3)) az)))))
def ez:List Qa->R Qa:=dS 4 (nZ dE)
def gu(ez:List Qa->R Qa):Fs:=
 (aO (gP 2 (kE az)) (aO (gk (gO (dY (ag 1)) (aE 3) (nR 2 (bD (dY (ag 0)) 1 [0,3] (aE 0) (λ_=>.ok true) (aC ez (ai (ag 1) (ai (ag 2) (ai (ag 0) az)))))))) (bQ (e1 cB (eS 2)))))
def cf:List Qa->R Qa:=dS 4 (gu ez)
def i4:Fs:=
 (bQ (qH (e1 (gL .tuple) (ag 0)) (qI (hV Kl) (hV Kl) (ag 1) (e1 ci (ag 0)) (ag 2))))
def aM:List Qa->R Qa:=dS 3 (i4)
def kI(aW:List Qa->R Qa)(aM:List Qa->R Qa):Fs:=
 (aO (hW (fg (tE (aC aM (ai (ag 0) (ai (eC (.int 13)) (ai (eC (.int 13)) az)))))) (bQ (eC (.bool false))) bU) (bQ (e1 pP (bD (dY (ag 0)) 1 [1] (aE 0) (λ_=>.ok true) (aC aW (ai (ag 0) (ai (eC (.int 0)) (ai (e2 mm (ag 1) (eC (.int 1))) az))))))))
def eB:List Qa->R Qa:=dS 2 (kI aW aM)
def l0(eB:List Qa->R Qa)(aW:List Qa->R Qa)(aM:List Qa->R Qa):Fs:=
 (aO (hW (fg (tE (aC aM (ai (ag 0) (ai (eC (.int 2)) (ai (eC (.int 2)) az)))))) (bQ (eC (.bool false))) bU) (bQ (qH (aC aW (ai (e2 aX (ag 0) (eC (.int 0))) (ai (eC (.int 0)) (ai (eC (.int 1)) az)))) (aC eB (ai (e2 aX (ag 0) (eC (.int 1))) (ai (ag 1) az))))))
def eM:List Qa->R Qa:=dS 2 (l0 eB aW aM)
def jK(eM:List Qa->R Qa)(aM:List Qa->R Qa):Fs:=
 (bQ (qH (aC aM (ai (ag 0) (ai (eC (.int 1)) (ai (eC (.int 6)) az)))) (e1 pP (bD (dY (ag 0)) 1 [0] (aE 0) (λ_=>.ok true) (aC eM (ai (ag 0) (ai (e1 ci (ag 1)) az)))))))
def dD:List Qa->R Qa:=dS 1 (jK eM aM)
def lx(im:List Qa->R Qa)(dH:List Qa->R Qa)(dC:List Qa->R Qa)(cf:List Qa->R Qa)(dD:List Qa->R Qa):Fs:=
 (aO (hW (fg (tE (aC dD (ai (ag 1) az)))) (rF (PySem.Str.ofString "NoWatcher") (eC (.str (PySem.Str.ofString "this is no watcher")))) bU) (aO (bZ 3 (e1 ci (ag 0))) (aO (bZ 4 (aC im (ai (aC cf (ai (ag 0) (ai (ag 1) az))) (ai (ag 2) (ai (aC dC (ai (ag 0) (ai (ag 1) az))) az))))) (aO (bZ 5 (aC dH (ai (e2 aX (ag 4) (eC (.int 0))) (ai (ag 3) az)))) (aO (bZ 6 (aC dH (ai (bD (dY (e2 aX (ag 4) (eC (.int 1)))) 1 [3] (aE 0) (λ_=>.ok true) (DR (tE (e2 (nA) (ag 0) (eC .none))) (eC .none) (e2 dQ (ag 0) (ag 1)))) (ai (ag 3) az)))) (aO (bZ 7 (e2 aX (e2 aX (ag 1) (eC (.int 0))) (eC (.int 1)))) (aO (bZ 8 (e1 cB (bD (o5 (ag 0)) 2 [5,7] (fT 0 1) (λ_=>.ok true) (e2 aX (e2 aX (ag 2) (e2 aX (ag 3) (e2 aX (ag 1) (eC (.int 1))))) (ag 0))))) (bQ (gM (ai (ag 8) (ai (ag 5) (ai (ag 6) az))))))))))))
def cm(c_Share:Addr):List Qa->R Qa:=dS 9 (lx (im c_Share) dH dC cf dD)
def i8(cm:List Qa->R Qa):Fs:=
 (aO (zU cm (ai (ag 0) (ai (ag 1) (ai (ag 2) az))) ((PySem.Str.ofString "NoWatcher",(λp ρ=>(uF 3 p) (ρ.set 3 (.exc p))))::[])) (bQ (eC (.bool false))))
def cF(c_Share:Addr):List Qa->R Qa:=dS 4 (i8 (cm c_Share))
def gv:Fs:=
 (aO (hW (nV (fg (tE (e1 (gL .tuple) (ag 0)))) (tE (e2 (mL) (e1 ci (ag 0)) (ag 1)))) (bQ (eC (.bool false))) bU) (bQ (e1 pP (bD (dY (ag 0)) 1 [] (aE 0) (λ_=>.ok true) (qH (e1 (gL .int) (ag 0)) (qH (BY (e1 (gL .bool) (ag 0))) (e2 (pZ false) (ag 0) (gM (ai (eC (.int 0)) (ai (eC (.int 1)) az))))))))))
def br:List Qa->R Qa:=dS 2 (gv)
def jN(br:List Qa->R Qa):Fs:=
 (aO (hW (nV (fg (tE (e1 (gL .tuple) (ag 0)))) (nV (tE (e2 (mL) (e1 ci (ag 0)) (eC (.int 3)))) (fg (tE (aC br (ai (e2 aX (ag 0) (eC (.int 0))) (ai (e1 ci (ag 1)) az))))))) (bQ (eC (.bool false))) bU) (aO (gk (gO (dY (gM (ai (e2 aX (ag 0) (eC (.int 1))) (ai (e2 aX (ag 0) (eC (.int 2))) az)))) (aE 3) (aO (hW (nV (fg (tE (e1 (gL .tuple) (ag 3)))) (tE (e2 (mL) (bD (dY (ag 3)) 1 [] (aE 0) (λ_=>.ok true) (e1 ci (ag 0))) (e2 oZ (kE (ai (e1 ci (ag 1)) az)) (e1 ci (ag 2)))))) (bQ (eC (.bool false))) bU) (hW (fg (tE (e1 pP (bD (dY (ag 3)) 1 [] (aE 0) (λ_=>.ok true) (e1 (gL .tuple) (ag 0)))))) (bQ (eC (.bool false))) bU)))) (aO (gk (gO (eo (ai (e1 ci (ag 2)) az)) (aE 4) (gk (gO (eo (ai (e1 ci (ag 1)) az)) (aE 5) (aO (bZ 6 (e2 aX (e2 aX (e2 aX (ag 0) (eC (.int 1))) (ag 4)) (ag 5))) (aO (bZ 7 (e2 aX (e2 aX (e2 aX (ag 0) (eC (.int 2))) (ag 4)) (ag 5))) (aO (hW (nV (fg (tE (aC br (ai (gM (ai (ag 6) az)) (ai (eC (.int 1)) az))))) (tE (e2 (mL) (e2 (nA) (ag 7) (eC .none)) (e2 (mL) (e2 aX (e2 aX (ag 1) (ag 5)) (eC (.int 0))) (ag 6))))) (bQ (eC (.bool false))) bU) (hW (jE (tE (e2 (kx) (ag 7) (eC .none))) (nV (tE (e1 (gL .bool) (ag 7))) (tE (e2 (pZ true) (ag 7) (e2 aX (e2 aX (ag 1) (ag 5)) (eC (.int 3))))))) (bQ (eC (.bool false))) bU)))))))) (bQ (eC (.bool true))))))
def cH:List Qa->R Qa:=dS 8 (jN br)
def i9(aJ:List Qa->R Qa):Fs:=
 (aO (bZ 1 (e2 eG (eC (.int 1)) (e2 dQ (ag 0) (eC (.int 6))))) (aO (gP 2 (kE az)) (aO (gk (gO (eo (ai (ag 1) az)) (aE 3) (aO (bZ 4 (bD (eo (ai (eC (.int 13)) az)) 1 [0,3,1] (aE 0) (λ_=>.ok true) (e2 dQ (aC aJ (ai (ag 1) (ai (e2 eG (e2 eY (eC (.int 20)) (ag 2)) (ag 0)) az))) (ag 3)))) (gX 2 (gM (ai (e2 dQ (e2 dQ (aC aJ (ai (ag 0) (ai (e2 eG (eC (.int 99)) (ag 3)) az))) (eC (.int 3))) (eC (.int 2))) (ai (e1 cB (ag 4)) az))))))) (bQ (e1 cB (eS 2))))))
def cR:List Qa->R Qa:=dS 5 (i9 aJ)
def l6:Fs:=
 (bQ (e1 cB (bD (eo (ai (eC (.int 13)) az)) 1 [0,1] (aE 0) (λ_=>.ok true) (DR (tE (e2 (pZ false) (ag 0) (ag 1))) (e2 eG (ag 2) (eC (.int 1))) (ag 2)))))
def eO:List Qa->R Qa:=dS 2 (l6)
def jO(cr:List Qa->R Qa)(aM:List Qa->R Qa)(eO:List Qa->R Qa):Fs:=
 (aO (hW (nV (fg (tE (aC aM (ai (ag 0) (ai (eC (.int 1)) (ai (e2 mm (eC (.int 6)) (eC (.int 1))) az)))))) (fg (tE (e1 pP (bD (dY (ag 0)) 1 [] (aE 0) (λ_=>.ok true) (aC cr (ai (ag 0) (ai (eC (.int 13)) az)))))))) (rF (PySem.Str.ofString "NoWatcher") (eC (.str (PySem.Str.ofString "these are no groups of marks")))) bU) (aO (bZ 1 (bD (o5 (ag 0)) 2 [] (fT 0 1) (λ_=>.ok true) (gM (ai (eC (.int 0)) (ai (aC eO (ai (ag 1) (ai (ag 0) az))) az))))) (bQ (e2 eG (e1 cB (ag 1)) (gM (ai (gM (ai (eC (.int 1)) (ai (e2 aX (e2 aX (ag 1) (eC (.int 0))) (eC (.int 1))) az))) az))))))
def di:List Qa->R Qa:=dS 2 (jO cr aM eO)
def yE(dq:List Qa->R Qa)(cS:List Qa->R Qa)(dh:List Qa->R Qa)(cw:List Qa->R Qa)(aY:List Qa->R Qa)(cF:List Qa->R Qa)(cH:List Qa->R Qa)(cR:List Qa->R Qa)(cm:List Qa->R Qa)(di:List Qa->R Qa):Fs:=
 (aO (bZ 1 (aC cS (ai (ag 0) (ai (e2 aX (gM (ai (eC (.int 9)) (ai (eC (.int 4)) az))) (e2 dQ (aC aY (ai (ag 0) (ai (eC (.int 3)) az))) (eC (.int 2)))) az)))) (aO (bZ 2 (aC cR (ai (aC aY (ai (ag 0) (ai (eC (.int 1)) az))) az))) (aO (hW (tE (e2 (jc) (e2 dQ (aC aY (ai (ag 0) (ai (eC (.int 2)) az))) (eC (.int 3))) (eC (.int 1)))) (bZ 2 (aC di (ai (aC dh (ai (e2 jV (aC aY (ai (ag 0) (ai (eC (.int 2)) az))) (eC (.int 3))) az)) az))) bU) (aO (hW (jE (tE (e2 (hV rU) (e1 ci (ag 1)) (eC (.int 4)))) (tE (e2 (hV rU) (e1 ci (ag 2)) (eC (.int 4))))) (bZ 1 (aC cS (ai (ag 0) (ai (eC (.int 4)) az)))) bU) (aO (bZ 3 (e2 dQ (e2 jV (aC aY (ai (ag 0) (ai (eC (.int 2)) az))) (eC (.int 7))) (eC (.int 2)))) (aO (hW (jE (tE (e2 (jc) (e2 dQ (e2 jV (aC aY (ai (ag 0) (ai (eC (.int 2)) az))) (eC (.int 14))) (eC (.int 6))) (eC (.int 1)))) (fg (tE (aC cF (ai (ag 1) (ai (e2 aX (kE (ai (gM az) (ai (e2 eY (ag 2) (eC (.int 7))) (ai (eC .none) az)))) (e2 dQ (e1 ci (ag 0)) (eC (.int 3)))) (ai (ag 3) az))))))) (bQ (eC (.bool false))) bU) (aO (bZ 4 (aC cm (ai (ag 1) (ai (ag 2) (ai (ag 3) az))))) (aO (hW (fg (tE (aC cH (ai (ag 4) (ai (ag 1) (ai (ag 2) az)))))) (bQ (eC (.bool false))) bU) (aO (bZ 5 (bD (o5 (ag 1)) 2 [4,2] (fT 0 1) (λ_=>.ok true) (e2 aX (e2 aX (e2 aX (ag 2) (eC (.int 1))) (e2 aX (e2 aX (e2 aX (ag 3) (eC (.int 0))) (eC (.int 1))) (e2 aX (ag 1) (eC (.int 1))))) (ag 0)))) (aO (hW (tE (e2 (mL) (e1 nB (e2 aX (ag 4) (eC (.int 0)))) (ag 5))) (bQ (eC (.bool false))) bU) (aO (gk (gO (dY (gM (ai (eC (.int 0)) (ai (eC (.int 1)) az)))) (aE 6) (aO (gP 7 (eC (.dict [(.bool true,.none)]))) (aO (gk (gO (eo (ai (e1 ci (ag 2)) az)) (aE 8) (gk (gO (eo (ai (e1 ci (ag 1)) az)) (aE 9) (hW (tE (e2 (jc) (e2 aX (e2 aX (e2 aX (ag 4) (eC (.int 1))) (ag 8)) (ag 9)) (ag 6))) (pB 7 (gM (ai (ag 8) (ai (ag 9) az))) (eC (.bool true))) bU))))) (aO (hW (fg (tE (jq 7 (aC cw (ai (ag 1) (ai (ag 2) (ai (ag 6) (ai (e2 aX (ag 4) (eC (.int 2))) (ai (ag 7) az))))))))) (bQ (eC (.bool false))) bU) (aO (HI 7 (bZ 10 (bD (qS (ag 7)) 1 [2,6,3] (aE 0) (tE (e2 (jc) (e2 aX (e2 aX (ag 1) (e2 aX (ag 0) (eC (.int 0)))) (eC (.int 0))) (e1 su (e2 (mL) (ag 2) (ag 3))))) (ag 0)))) (aO (bZ 11 (e1 qF (eS 7))) (aO (hW (tE (e2 (jc) (ag 6) (ag 3))) (bZ 11 (ag 10)) bU) (gk (gO (dY (ag 10)) (aE 12) (hW (tE (aC dq (ai (ag 1) (ai (ag 2) (ai (ag 6) (ai (e2 aX (ag 4) (eC (.int 2))) (ai (ag 12) (ai (ag 11) az)))))))) (bQ (eC (.bool false))) bU))))))))))) (bQ (eC (.bool true))))))))))))))
def Bp(c_Share:Addr):List Qa->R Qa:=dS 13 (yE dq cS dh cw aY (cF c_Share) cH cR (cm c_Share) di)
end G
end
namespace G
open PySem PySem.Spec PyProof.Rows L2 D2
theorem Eh(ns:List Int){k:Int}(hk:0<=k):∃v,dg [pT ns,.int k]=.ok (.int v):=by
 unfold dg i6;by_cases h:k<ns.length
 ·refine⟨ns[k.toNat]'(by omega),?_⟩;have hx:=vQ (xs:=ns.map Qa.int) (i:=k) hk (by simpa using h);rw[fN];simp[h,hx]
 ·refine⟨0,?_⟩;rw[fN];simp[h]
theorem ju(ns:List Int){k:Int}(hk:0<=k):∃v,aY [pT ns,.int k]=.ok (.int v)/\0<=v/\v<2147483629:=by
 obtain⟨c,hc⟩:=Eh ns hk;unfold aY kN;have m1:eY (.int 7919) (.int k)=.ok (.int (7919*k)):=gV (.inl (by omega));have m2:eY (.int (c+7919*k+1)) (.int 48271)=.ok (.int ((c+7919*k+1)*48271)):=gV (.inr (by omega));generalize hd:(c+7919*k+1)*48271%2147483647=d;have hd0:0<=d:=by omega
 have hd1:d<2147483647:=by omega
 have m3:eY (.int d) (.int d)=.ok (.int (d*d)):=gV (.inl (by omega));have m4:eY (.int 7) (.int d)=.ok (.int (7*d)):=gV (.inl (by omega));refine⟨(d*d+7*d+k)%2147483629,?_,by omega,by omega⟩;rw[fN];simp[hc,m1,m2,hd,m3,m4,Qi]
theorem kY(n k:Int):∃v,aJ [.int n,.int k]=.ok (.int v)/\0<=v/\v<2147483629:=by
 unfold aJ kL;have m1:eY (.int 104729) (.int k)=.ok (.int (104729*k)):=gV (.inl (by omega));have m2:eY (.int (n+104729*k+17)) (.int 69621)=.ok (.int ((n+104729*k+17)*69621)):=gV (.inr (by omega));generalize hd:(n+104729*k+17)*69621%2147483647=d;have hd0:0<=d:=by omega
 have hd1:d<2147483647:=by omega
 have m3:eY (.int d) (.int d)=.ok (.int (d*d)):=gV (.inl (by omega));have m4:eY (.int 3) (.int d)=.ok (.int (3*d)):=gV (.inl (by omega));refine⟨(d*d+3*d+k)%2147483629,?_,by omega,by omega⟩;rw[fN];simp[m1,m2,hd,m3,m4,Qi]
theorem Ca{kvs:List (Qa×Qa)}{ns:List Int}(e:kvs.map (·.1)=ns.map Qa.int):il kvs=false:=by
 cases kvs with
 |nil=>rfl
 |cons kd kvs=>
  obtain⟨k,d⟩:=kd;cases ns with
  |nil=>simp at e
  |cons n ns=>
   simp at e;rw[e.1];rfl
theorem qQ(n c:Int)(hc:1<=c):∀(ds:List Qa) (m:Nat) (kvs:List (Qa×Qa)) (x:ba),w4 c m kvs->(∀d∈ds,∃k,d=.int k)->m+ds.length<=1000 ->
  ∃kvs' x',w4 c (m+ds.length) kvs'/\gc (aE 3) (Fv 2 (e2 dQ (aC aJ (ai (ag 0) (ai (ag 3) az))) (ag 1)) (eC (.bool true))) ds [.val (.int n),.val (.int c),.own (.dict kvs),x]
   = .ok (.nx [.val (.int n),.val (.int c),.own (.dict kvs'),x'])
 | [],m,kvs,x,hk,_,_=>⟨kvs,x,hk,by rw[dw]⟩
 |d::ds,m,kvs,x,hk,hi,hl=>by
  obtain⟨k,rfl⟩:=hi d List.mem_cons_self;obtain⟨v,hv,v0,v1⟩:=kY n k;have hk':=hk.put (k:=v%c) (Int.emod_nonneg _ (by omega)) (Int.emod_lt_of_pos _ (by omega)) (.bool true);obtain⟨kvs',x',h1,h2⟩:=qQ n c hc ds (m+1) _ (.val (.int k)) hk' (λd hd=>hi d (Qf _ hd)) (by simp at hl;omega);refine⟨kvs',x',by rw[List.length_cons];simpa[Nat.add_comm,Nat.add_left_comm,Nat.add_assoc]using h1,?_⟩;have hlen:=hk.len;have hsz:kvs.length<sizeLine:=Nat.lt_of_le_of_lt (show kvs.length<=1000 by simp at hl;omega) (by decide);have hc':0<c:=by omega
  rw[bY,<-h2];obtain⟨ns0,e0,_⟩:=hk.ex;have hni:il kvs=false:=Ca e0;simp[Fv,hv,hc',gQ,hsz,hni]
theorem AR{n c:Int}(hn:0<=n)(hc:1<=c):∃ns:List Int,eE [.int n,.int c]=.ok (.tuple (ns.map .int))/\(∀x∈ns,0<=x/\x<c)/\ns≠[]/\ns.Pairwise (· < ·):=by
 unfold eE kM;have m1:∀k:Int,eY (.int 20) (.int k)=.ok (.int (20*k)):=λk=>gV (.inl (by omega))
 generalize hN:(1+n%3+20*(if n / 3%29=7 then 1 else 0):Int)=N;have hN0:1<=N:=by split at hN<;>omega
 have hN1:N<=23:=by split at hN<;>omega
 obtain⟨kvs,x,hk,hf⟩:=qQ n c hc (bM 0 N.toNat) 0 [] .non ⟨[],rfl,by simp,by simp,.inl rfl,by simp⟩ (lb _ _) (by rw[dU];omega);obtain⟨ns,e,hb,hl,hz,nd⟩:=hk.ex;rw[dU]at hl hz;have hi:eZ (kvs.map (·.1))=some ns:=by rw[e,k7]
 have hs:jW (.dict kvs)=.ok (.list ((fA ns).map Qa.int)):=by
  show(match eZ (kvs.map (·.1))with|some ns=>if ns.length<64 then R.ok (Qa.list ((fA ns).map Qa.int))else .no|none=>.no)=_;rw[hi];exact if_pos (by omega)
 have hr:-(2 ^ 62)<=N/\N<2 ^ 62:=by omega
 refine⟨fA ns,?_,λx hx=>hb x ((fq ns).mem_iff.mp hx),?_,tK (iA ns) ((fq ns).nodup_iff.mpr nd)⟩
 ·rw[fN];have hg:lU [.int N]=.ok (bM 0 N.toNat):=by
   show(if -(2 ^ 62)<=N/\N<2 ^ 62 then R.ok (bM 0 N.toNat)else .no)=_;rw[if_pos hr]
  simp[dX,fZ,m1,Qi,hN,hg,hf,hs]
 ·intro z;have:=(fq ns).length_eq;rw[z]at this;rcases hz with q|q
  ·omega
  ·exact q (List.eq_nil_of_length_eq_zero this.symm)
theorem AT{n c h:Int}(hn:0<=n)(hc:1<=c)(h0:0<=h):∃p:P4,dI [.int n,.int c,.int h]=.ok p.d/\Pl c h p:=by
 obtain⟨v,hv,v0,v1⟩:=kY n 9;obtain⟨ns,hg,hb,hne,hso⟩:=AR (n:=v) (c:=c) v0 hc;unfold dI kO;have hh:0<h+1:=by omega
 have s4:4<=sizeLine:=by decide
 have a1:=Int.emod_nonneg (n / 2) (show h+1≠0 by omega);have a2:=Int.emod_lt_of_pos (n / 2) hh;by_cases hq:n / 234%11=3
 ·refine⟨⟨n%2,n / 2%(h+1),n / 26%41-20,ns⟩,?_,⟨by dsimp only;omega,by dsimp only;omega,a1,by dsimp only;omega,by dsimp only;omega,by dsimp only;omega,hne,hso,hb⟩⟩;rw[fN];simp[hh,fZ,hq,hv,hg,s4,P4.d]
 ·refine⟨⟨n%2,n / 2%(h+1),n / 26%9-4,ns⟩,?_,⟨by dsimp only;omega,by dsimp only;omega,a1,by dsimp only;omega,by dsimp only;omega,by dsimp only;omega,hne,hso,hb⟩⟩;rw[fN];simp[hh,fZ,hq,hv,hg,s4,P4.d]
theorem vO(f:Fe)(ρ:aV)(i:Nat)(P:P4->Prop):∀ds:List Qa,(∀d∈ds,∃p:P4,f (ρ.set i (.val d))=.ok p.d/\P p)->∃ps:List P4,bJ (aE i) (λ_=>.ok true) f ρ ds=.ok (ps.map P4.d)/\ps.length=ds.length/\∀p∈ps,P p
 | [],_=>⟨[],dM ..,rfl,by simp⟩
 |d::ds,h=>by
  obtain⟨x,h1,h2⟩:=h d List.mem_cons_self;obtain⟨xs,h3,h4,h5⟩:=vO f ρ i P ds λd hd=>h d (Qf _ hd)
  refine⟨x::xs,?_,by simp[h4],λy hy=>?_⟩
  ·rw[fi,h1,h3];rfl
  ·rcases List.mem_cons.mp hy with rfl|hy
   ·exact h2
   ·exact h5 y hy
theorem rg(ns:List Int){most:Int}(hm0:1<=most)(hm1:most<=24):∃(ps:List P4) (hi:Int),cS [pT ns,.int most]=.ok (gD ps)/\(∀p∈ps,Pl ps.length hi p)/\1<=ps.length/\(ps.length:Int)<=most/\0<=hi/\hi<=12:=by
 obtain⟨v,hv,v0,v1⟩:=ju ns (k:=0) (by omega);unfold cS jL;generalize hm:(if(if(ns.length:Int)>4 then(ns.length:Int)else 4)<most then(if(ns.length:Int)>4 then(ns.length:Int)else 4)else most)=m;have m0:0<m:=by split at hm<;>split at hm<;>omega
 have m1:m<=most:=by split at hm<;>split at hm<;>omega
 generalize hc:1+v%m=c;have c0:1<=c:=by have:=Int.emod_nonneg v (show m≠0 by omega);omega
 have c1:c<=most:=by have:=Int.emod_lt_of_pos v m0;omega
 have hix:∃h,aX (.list [.int 1,.int 2,.int 3,.int 5,.int 12,.int 12]) (.int (v / 24%6))=.ok (.int h)/\0<=h/\h<=12:=by
  obtain⟨x,hx,e⟩:=En (xs:=[.int 1,.int 2,.int 3,.int 5,.int 12,.int 12]) (i:=v / 24%6) (by omega) (by simp;omega);rw[e];simp at hx;rcases hx with rfl|rfl|rfl|rfl|rfl<;>exact⟨_,rfl,by decide,by decide⟩
 obtain⟨h,hh,h0,h1⟩:=hix;have s6:6<=sizeLine:=by decide
 have hr:lU [.int c]=.ok (bM 0 c.toNat):=by
  show(if -(2 ^ 62)<=c/\c<2 ^ 62 then R.ok (bM 0 c.toNat)else .no)=_;rw[if_pos (by omega)]
 obtain⟨xs,e1,e2,e3⟩:=vO (aC dI (ai (aC aY (ai (ag 1) (ai (e2 eG (eC (.int 3)) (ag 0)) az))) (ai (ag 2) (ai (ag 3) az)))) (aB 1 [0,3,4] [.val (pT ns),.val (.int most),.val (.int v),.val (.int c),.val (.int h)]) 0 (Pl c h) (bM 0 c.toNat) λd hd=>by
  unfold bM at hd;obtain⟨k,_,rfl⟩:=List.mem_map.mp hd;obtain⟨w,hw,w0,w1⟩:=ju ns (k:=3+(0+(k:Int))) (by omega);obtain⟨d,hd1,hd2⟩:=AT (n:=w) (c:=c) (h:=h) w0 c0 h0;refine⟨d,?_,hd2⟩;simp at hw;simp[aB,Qi,hw,hd1]
 rw[dU]at e2;have ec:(xs.length:Int)=c:=by omega
 refine⟨xs,h,?_,by rw[ec];exact e3,by omega,by omega,h0,h1⟩;rw[fN];simp[hv,hm,m0,hc,s6,hh,Qi,bg,hr,dU,bG (show c.toNat<=1000 by omega),e1]
def e8(ns:List Int)(i:Int):Bool:=ns.any λj=>decide (j=i)
theorem cN{ns:List Int}{i:Int}:e8 ns i=true<->i∈ns:=by
 unfold e8;rw[List.any_eq_true];constructor
 ·rintro⟨j,hj,e⟩;have:=of_decide_eq_true e;exact this▸hj
 ·exact λh=>⟨i,h,decide_eq_true rfl⟩
theorem kX:∀ns:List Int,Qa.depthAll (ns.map .int)=0
 | []=>by simp[Qa.depthAll]
 |n::ns=>by simp[Qa.depthAll,Qa.depth,kX ns]
theorem qR(ns:List Int):Qa.canLayAll0 (ns.map .int)=true:=nk λx hx=>by
 obtain⟨i,_,rfl⟩:=List.mem_map.mp hx;exact kZ i
theorem sW(ns:List Int)(i:Int):pQ (ns.map .int) (.int i)=true:=by
 unfold pQ;rw[qR,kX];simp[Qa.canLay0]
theorem vK(ns:List Int)(i:Int):((ns.map Qa.int).any λy=>Qa.eqv y (.int i))=e8 ns i:=by
 rw[List.any_map];congr 1
theorem GQ(ns:List Int)(i:Int)(neg:Bool):pZ neg (.int i) (.tuple (ns.map .int))=.ok (.bool (if neg then !e8 ns i else e8 ns i)):=by
 show(if pQ (ns.map .int) (.int i)=true then R.ok (Qa.bool _)else .no)=_;rw[if_pos (sW ns i),vK]
theorem KU(ns:List Int)(i:Int)(neg:Bool):pZ neg (.int i) (.list (ns.map .int))=.ok (.bool (if neg then !e8 ns i else e8 ns i)):=by
 show(if pQ (ns.map .int) (.int i)=true then R.ok (Qa.bool _)else .no)=_;rw[if_pos (sW ns i),vK]
theorem qM:∀ns ms:List Int,Qa.eqvAll (ns.map .int) (ms.map .int)=decide (ns=ms)
 | [],[]=>by simp[Qa.eqvAll]
 | [],_::_=>by simp[Qa.eqvAll]
 | _::_,[]=>by simp[Qa.eqvAll]
 |n::ns,m::ms=>by
  simp only[List.map_cons,Qa.eqvAll,qM ns ms,uH];by_cases h:n=m<;>by_cases h2:ns=ms<;>simp[h,h2]
theorem Eu(ns ms:List Int):sv (.list (ns.map .int)) (.list (ms.map .int))=true:=by
 unfold sv;simp[Qa.canLay0,qR,Qa.depth,kX]
theorem Jb(ns ms:List Int):mL (.list (ns.map .int)) (.list (ms.map .int))=.ok (.bool (!decide (ns=ms))):=by
 unfold mL;rw[if_pos (Eu ns ms)];simp only[Qa.eqv,qM]
theorem eL{t:aV->R Bool}{ρ:aV}{p:Int->Bool}:∀ns:List Int,(∀x∈ns,t ((ba.non::ρ).set 0 (.val (.int x)))=.ok (p x))->bJ (aE 0) t (ag 0) (.non::ρ) (ns.map .int)=.ok ((ns.filter p).map .int)
 | [],_=>dM ..
 |x::ns,h=>by
  rw[List.map_cons,fi,h x List.mem_cons_self,eL ns λy hy=>h y (Qf _ hy)];cases hp:p x with
  |true=>rw[List.filter_cons_of_pos hp];rfl
  |false=>rw[List.filter_cons_of_neg (by rw[hp];simp)];rfl
theorem kf(c:Nat):bM 0 c=((List.range c).map λ(k:Nat)=>(k:Int)).map .int:=by
 unfold bM;rw[List.map_map];apply List.map_congr_left;intro k _;simp
def bj(ps:List P4)(i:Int):List Int:=(ps[i.toNat]?.map (·.ns)).getD []
theorem ky{ps:List P4}{i:Int}(h0:0<=i)(h1:i<ps.length):aX (gD ps) (.int i)=.ok (ps[i.toNat]'(by omega)).d:=by
 rw[vR h0 (by simpa using h1)];simp
theorem fj{ps:List P4}{i:Int}(h0:0<=i)(h1:i<ps.length):bj ps i=(ps[i.toNat]'(by omega)).ns:=by
 unfold bj;rw[List.getElem?_eq_getElem (by omega)];rfl
theorem rA(p:P4):aX p.d (.int 3)=.ok (.tuple (p.ns.map .int)):=rfl
theorem oH(p:P4):aX p.d (.int 0)=.ok (.int p.w):=rfl
def aL(ps:List P4)(i:Int):Int:=(ps[i.toNat]?.map (·.w)).getD 0
theorem mw{ps:List P4}{i:Int}(h0:0<=i)(h1:i<ps.length):aL ps i=(ps[i.toNat]'(by omega)).w:=by
 unfold aL;rw[List.getElem?_eq_getElem (by omega)];rfl
def cE(ps:List P4)(js:List Int)(i:Int):List Int:=(bj ps i).filter (e8 js)
def o4(ps:List P4)(js kn:List Int)(i:Int):List Int:=(cE ps js i).filter (e8 kn)
def kU(ps:List P4)(js:List Int)(who:Int)(kn:List Int)(i:Int):Bool:=
 !e8 kn i&&(decide (0<(o4 ps js kn i).length)&&(decide (aL ps i=who)||decide ((o4 ps js kn i).length=(cE ps js i).length)))
def gp(ps:List P4)(js:List Int)(who:Int)(kn is:List Int):List Int:=is.filter (kU ps js who kn)
def eQ(ps:List P4)(js:List Int)(who r:Int)(kvs:List (Int×Int)):List (Int×Int):=kvs++(gp ps js who (kvs.map (·.1)) js).map λi=>(i,r)
def iT(ps:List P4)(js:List Int)(who:Int):Int->Nat->List (Int×Int)->List (Int×Int)
 | _,0,kvs=>kvs
 |r,n+1,kvs=>iT ps js who (r+1) n (eQ ps js who r kvs)
theorem oF:∀{l m:List Int},l.Nodup->(∀x∈l,x∈m)->l.length<=m.length
 | [],m,_,_=>Nat.zero_le _
 |x::l,m,nd,h=>by
  obtain⟨n1,n2⟩:=List.nodup_cons.mp nd;have hx:=h x List.mem_cons_self;have:=oF (m:=m.erase x) n2 λy hy=>(List.mem_erase_of_ne (by rintro rfl;exact n1 hy)).mpr (h y (Qf _ hy))
  rw[List.length_erase_of_mem hx]at this;have hp:=List.length_pos_of_mem hx;rw[List.length_cons];omega
structure kH(js:List Int)(kvs:List (Int×Int)):Prop where
 nd:(kvs.map (·.1)).Nodup
 sub:∀x∈kvs.map (·.1),x∈js
theorem kH.len{js:List Int}{kvs:List (Int×Int)}(h:kH js kvs)(nj:js.Nodup):kvs.length<=js.length:=by
 have:=oF h.nd h.sub;simpa using this
theorem mr(ps:List P4)(js:List Int)(who r:Int)(kvs:List (Int×Int)):(eQ ps js who r kvs).map (·.1)=kvs.map (·.1)++gp ps js who (kvs.map (·.1)) js:=by
 unfold eQ;rw[List.map_append,List.map_map];congr 1;exact List.map_id _
theorem rm{ps:List P4}{js:List Int}{who:Int}{kn is:List Int}{x:Int}(h:x∈gp ps js who kn is):x∈is/\x∉kn:=by
 obtain⟨h1,h2⟩:=List.mem_filter.mp h;refine⟨h1,λz=>?_⟩;unfold kU at h2;rw[cN.mpr z]at h2;simp at h2
theorem kH.round{ps:List P4}{js:List Int}{who r:Int}{kvs:List (Int×Int)}(h:kH js kvs)(nj:js.Nodup):kH js (eQ ps js who r kvs):=by
 refine⟨?_,λx hx=>?_⟩
 ·rw[mr,List.nodup_append];refine⟨h.nd,List.Pairwise.filter _ nj,λa ha b hb e=>?_⟩;subst e;exact(rm hb).2 ha
 ·rw[mr,List.mem_append]at hx;rcases hx with z|z
  ·exact h.sub x z
  ·exact(rm z).1
theorem nQ(ps:List P4)(js:List Int)(who:Int):∀(n:Nat) (r:Int) (kvs:List (Int×Int)),iT ps js who r (n+1) kvs=eQ ps js who (r+n) (iT ps js who r n kvs)
 | 0,r,kvs=>by
  show eQ ps js who r kvs=eQ ps js who (r+((0:Nat):Int)) kvs;simp
 |n+1,r,kvs=>by
  show iT ps js who (r+1) (n+1) (eQ ps js who r kvs)=_;rw[nQ ps js who n (r+1)];show eQ ps js who (r+1+n) _=eQ ps js who (r+((n+1:Nat):Int)) _;rw[show r+1+(n:Int)=r+((n+1:Nat):Int) by omega];rfl
def aK(ps:List P4)(js:List Int)(who:Int)(gs:List Int):Nat->List Int
 | 0=>gs
 |m+1=>aK ps js who gs m++gp ps js who (aK ps js who gs m) js
def Ba(ps:List P4)(js:List Int)(who:Int)(gs:List Int)(m:Nat):List (Int×Int):=iT ps js who 1 m (gs.map λi=>(i,0))
theorem rL(ps:List P4)(js:List Int)(who:Int)(gs:List Int)(m:Nat):Ba ps js who gs (m+1)=eQ ps js who (m+1) (Ba ps js who gs m):=by
 unfold Ba;rw[nQ];congr 1;omega
theorem gI(ps:List P4)(js:List Int)(who:Int)(gs:List Int):∀m,(Ba ps js who gs m).map (·.1)=aK ps js who gs m
 | 0=>by
  show(gs.map λi=>((i,0):Int×Int)).map (·.1)=gs;rw[List.map_map];exact List.map_id _
 |m+1=>by
  rw[rL,mr,gI ps js who gs m];rfl
def look(kvs:List (Int×Int))(i:Int):Option Int:=(kvs.find? λq=>decide (q.1=i)).map (·.2)
theorem pb(a b:List (Int×Int))(i:Int):look (a++b) i=(look a i).or (look b i):=by
 unfold look;rw[List.find?_append];cases a.find? _<;>rfl
theorem iE{kvs:List (Int×Int)}{i:Int}:look kvs i=none<->i∉kvs.map (·.1):=by
 unfold look;rw[Option.map_eq_none_iff,List.find?_eq_none];constructor
 ·intro h z;obtain⟨q,hq,e⟩:=List.mem_map.mp z;exact h q hq (decide_eq_true e)
 ·intro h q hq e;exact h (List.mem_map.mpr ⟨q,hq,of_decide_eq_true e⟩)
theorem ka(r:Int)(i:Int):∀l:List Int,look (l.map λj=>(j,r)) i=if i∈l then some r else none
 | []=>rfl
 |j::l=>by
  have ih:=ka r i l;unfold look at ih ⊢;by_cases h:j=i
  ·subst h;rw[List.map_cons,List.find?_cons_of_pos (by simp)];simp
  ·rw[List.map_cons,List.find?_cons_of_neg (by simpa using h),ih];by_cases h2:i∈l
   ·simp[h2]
   ·have:¬(i=j):=λz=>h z.symm
    simp[h2,this]
section
variable{ps:List P4}{js:List Int}{who:Int}{gs:List Int}
theorem lB{i:Int}{k:Nat}(h:i∈aK ps js who gs k):∀{m:Nat},k<=m->i∈aK ps js who gs m
 | 0,hm=>by
  have:k=0:=by omega
  subst this;exact h
 |m+1,hm=>by
  by_cases e:k=m+1
  ·subst e;exact h
  ·show i∈aK ps js who gs m++_;exact List.mem_append_left _ (lB h (by omega))
theorem gB{i:Int}:∀{m:Nat} {q:Int},look (Ba ps js who gs m) i=some q<->∃k:Nat,q=k/\k<=m/\i∈aK ps js who gs k/\(k=0\/i∉aK ps js who gs (k-1))
 | 0,q=>by
  show look (gs.map λj=>(j,0)) i=some q<->_;rw[ka];constructor
  ·intro h;split at h
   ·rename_i hi;cases h;exact⟨0,rfl,Nat.le_refl _,hi,.inl rfl⟩
   ·cases h
  ·rintro⟨k,rfl,hk,hi,_⟩;have:k=0:=by omega
   subst this;rw[if_pos (show i∈gs from hi)];rfl
 |m+1,q=>by
  have ih:=λq=>gB (i:=i) (m:=m) (q:=q)
  have e:Ba ps js who gs (m+1)=Ba ps js who gs m++(gp ps js who (aK ps js who gs m) js).map λj=>(j,((m+1:Nat):Int)):=by
   rw[rL];unfold eQ;rw[gI];rfl
  rw[e,pb,ka];by_cases hi:i∈aK ps js who gs m
  ·cases h0:look (Ba ps js who gs m) i with
   |none=>rw[iE,gI]at h0;exact(h0 hi).elim
   |some q0=>
    rw[Option.some_or,<-h0,ih q];constructor
    ·rintro⟨k,a,b,c,d⟩;exact⟨k,a,by omega,c,d⟩
    ·rintro⟨k,a,b,c,d⟩;refine⟨k,a,?_,c,d⟩;by_cases hk:k=m+1
     ·subst hk;rcases d with d|d
      ·omega
      ·exact(d hi).elim
     ·omega
  ·have h0:look (Ba ps js who gs m) i=none:=by rw[iE,gI];exact hi
   rw[h0,Option.none_or];constructor
   ·intro h;split at h
    ·rename_i hn;cases h;exact⟨m+1,rfl,Nat.le_refl _,List.mem_append_right _ hn,.inr hi⟩
    ·cases h
   ·rintro⟨k,rfl,b,c,d⟩;have hk:k=m+1:=by
     by_cases hk:k=m+1
     ·exact hk
     ·exact(hi (lB c (by omega))).elim
    subst hk;have c':i∈aK ps js who gs m++gp ps js who (aK ps js who gs m) js:=c;rw[if_pos ((List.mem_append.mp c').elim (λz=>(hi z).elim) id)]
theorem yM{k:Nat}(h:gp ps js who (aK ps js who gs k) js=[]):∀d,aK ps js who gs (k+d)=aK ps js who gs k
 | 0=>rfl
 |d+1=>by
  show aK ps js who gs (k+d)++gp ps js who (aK ps js who gs (k+d)) js=_;rw[yM h d,h,List.append_nil]
theorem uq(ng:gs.Nodup)(hg:∀x∈gs,x∈js)(nj:js.Nodup):∀m,kH js (Ba ps js who gs m)
 | 0=>⟨by rw[gI];exact ng,λx hx=>by rw[gI]at hx;exact hg x hx⟩
 |m+1=>by rw[rL];exact(uq ng hg nj m).round nj
theorem xk(ng:gs.Nodup)(hg:∀x∈gs,x∈js)(nj:js.Nodup){m:Nat}{i:Int}(h:i∈aK ps js who gs m):i∈js:=by
 have:=(uq (ps:=ps) (who:=who) ng hg nj m).sub;rw[gI]at this;exact this i h
theorem Gx(ng:gs.Nodup)(hg:∀x∈gs,x∈js)(nj:js.Nodup)(m:Nat):(aK ps js who gs m).length<=js.length:=by
 have:=(uq (ps:=ps) (who:=who) ng hg nj m).len nj;rw[<-gI,Qd];exact this
theorem yL:∀m,(∀k,k<m->gp ps js who (aK ps js who gs k) js≠[])->m+gs.length<=(aK ps js who gs m).length
 | 0,_=>by show 0+gs.length<=gs.length;omega
 |m+1,h=>by
  have:=yL m λk hk=>h k (by omega)
  have h1:=h m (by omega);have h2:=List.length_pos_iff.mpr h1;show _<=(aK ps js who gs m++gp ps js who (aK ps js who gs m) js).length;rw[List.length_append];omega
theorem Gw(ng:gs.Nodup)(hg:∀x∈gs,x∈js)(nj:js.Nodup){n:Nat}(hn:js.length<=n):gp ps js who (aK ps js who gs n) js=[]:=by
 by_cases h:gp ps js who (aK ps js who gs n) js=[]
 ·exact h
 ·have:=yL (ps:=ps) (js:=js) (who:=who) (gs:=gs) (n+1) λk hk e=>h (by
   have s:=yM e (n-k);rw[show k+(n-k)=n by omega]at s;rw[s];exact e)
  have:=Gx (ps:=ps) (who:=who) ng hg nj (n+1);omega
theorem jd{α:Type}(p:α->Bool):∀l:List α,(l.filter p).length=l.length<->∀x∈l,p x=true
 | []=>by simp
 |x::l=>by
  have ih:=jd p l;have le:=List.length_filter_le p l;cases h:p x with
  |true=>rw[List.filter_cons_of_pos h];simp[ih,h]
  |false=>rw[List.filter_cons_of_neg (by rw[h];simp)];simp[h];omega
theorem re{α:Type}(p:α->Bool)(l:List α):0<(l.filter p).length<->∃x∈l,p x=true:=by
 rw[List.length_pos_iff_exists_mem];simp[List.mem_filter]
theorem hU{kn:List Int}{i:Int}:kU ps js who kn i=true<->i∉kn/\(∃g∈cE ps js i,g∈kn)/\(aL ps i=who\/∀g∈cE ps js i,g∈kn):=by
 unfold kU o4;rw[Bool.and_eq_true,Bool.and_eq_true,Bool.or_eq_true,decide_eq_true_iff,decide_eq_true_iff,decide_eq_true_iff,re,jd,Bool.not_eq_true',<-Bool.not_eq_true,cN];simp only[cN]
def rK(ps:List P4)(js:List Int)(who:Int)(gs:List Int)(i:Int):Option Int:=look (Ba ps js who gs ps.length) i
structure wQ(ps:List P4)(js:List Int)(who:Int)(gs:List Int)(rk:Int->Option Int):Prop where
 nneg:∀i q,rk i=some q->0<=q
 sub:∀i q,rk i=some q->i∈js
 zero:∀i,rk i=some 0<->i∈gs
 own:∀i q,rk i=some q->0<q->aL ps i=who->∃g∈cE ps js i,rk g=some (q-1)
 low:∀i q g t,rk i=some q->0<q->aL ps i=who->g∈cE ps js i->rk g=some t->q-1<=t
 oth:∀i q,rk i=some q->0<q->aL ps i≠who->(∃g,g∈cE ps js i)/\∀g∈cE ps js i,∃t,rk g=some t/\t<q
 outO:∀i,i∈js->rk i=none->aL ps i=who->∀g∈cE ps js i,rk g=none
 outX:∀i,i∈js->rk i=none->aL ps i≠who->(∃g,g∈cE ps js i)->∃g∈cE ps js i,rk g=none
theorem Jt(hn:js.length<=ps.length){i q:Int}(h:rK ps js who gs i=some q):q<=ps.length:=by
 obtain⟨k,rfl,b,_⟩:=gB.mp h;omega
theorem yN(ng:gs.Nodup)(hg:∀x∈gs,x∈js)(nj:js.Nodup)(hn:js.length<=ps.length):wQ ps js who gs (rK ps js who gs):=by
 have ex:∀{i k},i∈aK ps js who gs k->k<=ps.length->∃t:Nat,t<=k/\rK ps js who gs i=some (t:Int):=λ{i}=>by
  intro k;induction k with
  |zero=>exact λh _=>⟨0,Nat.le_refl _,gB.mpr ⟨0,rfl,by omega,h,.inl rfl⟩⟩
  |succ k ih=>
   intro h hk;by_cases h1:i∈aK ps js who gs k
   ·obtain⟨t,a,b⟩:=ih h1 (by omega);exact⟨t,by omega,b⟩
   ·exact⟨k+1,Nat.le_refl _,gB.mpr ⟨k+1,rfl,hk,h,.inr h1⟩⟩
 have nm:∀{i},rK ps js who gs i=none<->i∉aK ps js who gs ps.length:=λ{i}=>by
  unfold rK;rw[iE,gI]
 have fix:=Gw (ps:=ps) (who:=who) ng hg nj hn;have new:∀{i k},i∈aK ps js who gs (k+1)->i∉aK ps js who gs k->kU ps js who (aK ps js who gs k) i=true:=λ{i k} h1 h2=>by
  have h1':i∈aK ps js who gs k++gp ps js who (aK ps js who gs k) js:=h1;rcases List.mem_append.mp h1' with z|z
  ·exact(h2 z).elim
  ·exact(List.mem_filter.mp z).2
 have not:∀{i k},i∈js->i∉aK ps js who gs (k+1)->¬kU ps js who (aK ps js who gs k) i=true:=λ{i k} h1 h2 h3=>
  h2 (show i∈aK ps js who gs k++gp ps js who (aK ps js who gs k) js from List.mem_append_right _ (List.mem_filter.mpr ⟨h1,h3⟩))
 have pos:∀{i q},rK ps js who gs i=some q->0<q->∃k:Nat,q=((k+1:Nat):Int)/\k+1<=ps.length/\i∈aK ps js who gs (k+1)/\i∉aK ps js who gs k:=λ{i q} h hq=>by
  obtain⟨k,rfl,b,c,d⟩:=gB.mp h;cases k with
  |zero=>omega
  |succ k=>
   rcases d with d|d
   ·omega
   ·exact⟨k,rfl,b,c,d⟩
 refine⟨λi q h=>?_,λi q h=>?_,λi=>?_,λi q h hq ho=>?_,λi q g t h hq ho hg' ht=>?_,λi q h hq ho=>?_,λi hi h ho g hg'=>?_,λi hi h ho hw=>?_⟩
 ·obtain⟨k,rfl,_⟩:=gB.mp h;omega
 ·obtain⟨k,rfl,_,c,_⟩:=gB.mp h;exact xk ng hg nj c
 ·constructor
  ·intro h;obtain⟨k,e,_,c,_⟩:=gB.mp h;have:k=0:=by omega
   subst this;exact c
  ·exact λh=>gB.mpr ⟨0,rfl,by omega,h,.inl rfl⟩
 ·obtain⟨k,rfl,b,c,d⟩:=pos h hq;obtain⟨_,⟨g,hg1,hg2⟩,_⟩:=hU.mp (new c d);obtain⟨t,ht,hr⟩:=ex hg2 (by omega);refine⟨g,hg1,?_⟩;by_cases e:t=k
  ·subst e;rw[hr];congr 1;omega
  ·exfalso;cases k with
   |zero=>omega
   |succ k=>
    obtain⟨t',e',_,c',_⟩:=gB.mp hr;have e'':t=t':=by omega
    subst e'';exact not (xk ng hg nj c) d (hU.mpr ⟨λz=>d (lB z (by omega)),⟨g,hg1,lB c' (by omega)⟩,.inl ho⟩)
 ·obtain⟨k,rfl,b,c,d⟩:=pos h hq;obtain⟨t',rfl,_,c',_⟩:=gB.mp ht;by_cases e:k<=t'
  ·omega
  ·exfalso;cases k with
   |zero=>omega
   |succ k=>exact not (xk ng hg nj c) d (hU.mpr ⟨λz=>d (lB z (by omega)),⟨g,hg',lB c' (by omega)⟩,.inl ho⟩)
 ·obtain⟨k,rfl,b,c,d⟩:=pos h hq;obtain⟨_,⟨g,hg1,_⟩,o⟩:=hU.mp (new c d);refine⟨⟨g,hg1⟩,λg' hg'=>?_⟩;obtain⟨t,ht,hr⟩:=ex ((o.resolve_left ho) g' hg') (by omega);exact⟨t,hr,by omega⟩
 ·rw[nm]at h ⊢;intro hz;have:i∈gp ps js who (aK ps js who gs ps.length) js:=List.mem_filter.mpr ⟨hi,hU.mpr ⟨h,⟨g,hg',hz⟩,.inl ho⟩⟩;rw[fix]at this;cases this
 ·rw[nm]at h;by_cases hz:∃g∈cE ps js i,rK ps js who gs g=none
  ·exact hz
  ·exfalso;have all:∀g∈cE ps js i,g∈aK ps js who gs ps.length:=λg hg'=>by
    by_cases z:g∈aK ps js who gs ps.length
    ·exact z
    ·exact(hz ⟨g,hg',nm.mpr z⟩).elim
   obtain⟨g,hg'⟩:=hw;have:i∈gp ps js who (aK ps js who gs ps.length) js:=List.mem_filter.mpr ⟨hi,hU.mpr ⟨h,⟨g,hg',all g hg'⟩,.inr all⟩⟩;rw[fix]at this;cases this
end
abbrev ids(n:Nat):List Int:=(List.range n).map λ(k:Nat)=>(k:Int)
theorem bW{n:Nat}{i:Int}:i∈ids n<->0<=i/\i<n:=by
 constructor
 ·intro h;obtain⟨k,hk,rfl⟩:=List.mem_map.mp h;have:=List.mem_range.mp hk;omega
 ·rintro⟨h0,h1⟩;exact List.mem_map.mpr ⟨i.toNat,List.mem_range.mpr (by omega),by omega⟩
theorem gz(n:Nat):(ids n).length=n:=by simp
theorem EI{n k:Nat}(h:k<n):(ids n)[k]?=some (k:Int):=by
 rw[List.getElem?_map,List.getElem?_range h];rfl
theorem xK(n:Nat):(ids n).Pairwise (· < ·):=by
 rw[List.pairwise_map];exact(List.pairwise_lt_range).imp λh=>by omega
theorem rz{l:List Int}(h:l.Pairwise (· < ·)):l.Nodup:=h.imp λh=>by omega
def cG(f:Int->Qa)(n:Nat):List Qa:=(ids n).map f
theorem bH(f:Int->Qa)(n:Nat):(cG f n).length=n:=by unfold cG;rw[Qd,gz]
theorem g9{f:Int->Qa}{n:Nat}{i:Int}(h0:0<=i)(h1:i<n):(cG f n)[i.toNat]'(by rw[bH];omega)=f i:=by
 have h:=EI (n:=n) (k:=i.toNat) (by omega);have:(cG f n)[i.toNat]?=some (f i):=by
  unfold cG;rw[List.getElem?_map,h,Option.map_some];congr 2;omega
 exact Option.some.inj ((List.getElem?_eq_getElem _).symm.trans this)
theorem hZ{f:Int->Qa}{n:Nat}{i:Int}(h0:0<=i)(h1:i<n):aX (.tuple (cG f n)) (.int i)=.ok (f i):=by
 rw[vR h0 (by rw[bH];exact h1),g9 h0 h1]
theorem Dx{f:Int->Qa}{n:Nat}{i:Int}(h0:0<=i)(h1:i<n):aX (.list (cG f n)) (.int i)=.ok (f i):=by
 rw[vQ h0 (by rw[bH];exact h1),g9 h0 h1]
theorem fS{f g:Int->Qa}{n:Nat}(h:∀i:Int,0<=i->i<n->f i=g i):cG f n=cG g n:=
 List.map_congr_left λi hi=>h i (bW.mp hi).1 (bW.mp hi).2
theorem qd{f:Int->Qa}{n:Nat}{i:Int}{v:Qa}(h0:0<=i)(h1:i<n):(cG f n).set i.toNat v=cG (λj=>if j=i then v else f j) n:=by
 refine List.ext_getElem (by rw[List.length_set,bH,bH]) λk hk1 hk2=>?_
 rw[bH]at hk2;have e:=g9 (f:=λj=>if j=i then v else f j) (n:=n) (i:=(k:Int)) (by omega) (by omega);have e2:=g9 (f:=f) (n:=n) (i:=(k:Int)) (by omega) (by omega);simp only[Int.toNat_natCast]at e e2;rw[e,List.getElem_set];by_cases h:i.toNat=k
 ·rw[if_pos h,if_pos (by omega)]
 ·rw[if_neg h,if_neg (by omega),e2]
theorem mB(f:Int->Qa)(ρ:aV)(g:Fe)(n:Nat)(h:∀i:Int,0<=i->i<n->g (ρ.set 0 (.val (.int i)))=.ok (f i)):bJ (aE 0) (λ_=>.ok true) g ρ (bM 0 n)=.ok (cG f n):=by
 have:=eA g ρ 0 (λd=>match d with|.int i=>f i|d=>d) (bM 0 n) λd hd=>by
  unfold bM at hd;obtain⟨k,hk,rfl⟩:=List.mem_map.mp hd;have:=List.mem_range.mp hk;exact h _ (by omega) (by omega)
 rw[this];unfold cG;rw[kf,List.map_map];rfl
def oD:Option Int->Qa
 |none=>.none
 |some k=>.int k
theorem zB(o:Option Int):kx (oD o) .none=.ok (.bool o.isSome):=by cases o<;>rfl
theorem uM(o:Option Int):nA (oD o) .none=.ok (.bool o.isNone):=by cases o<;>rfl
def xI(k m:Nat):List Int:=(List.range m).map λ(j:Nat)=>((k+j:Nat):Int)
theorem v9(k m:Nat):xI k (m+1)=(k:Int)::xI (k+1) m:=by
 unfold xI;rw[List.range_succ_eq_map,List.map_cons,List.map_map];congr 1;apply List.map_congr_left;intro j _;show((k+(j+1):Nat):Int)=((k+1+j:Nat):Int)
 omega
theorem uL(n:Nat):xI 0 n=ids n:=by
 unfold xI;apply List.map_congr_left;intro j _;simp
theorem o0{t:aV->R Bool}{ρ:aV}{p:Int->Bool}{g:Int->Qa}:∀(m k:Nat),(∀j:Nat,k<=j->j<k+m->t (.val (.int j)::.val (g j)::ρ)=.ok (p j)) ->
  bJ (fT 0 1) t (ag 0) (.non::.non::ρ) (dR k ((xI k m).map g))=.ok (((xI k m).filter p).map .int)
 | 0,k,_=>by unfold xI;simp[dR,dM]
 |m+1,k,h=>by
  rw[v9,List.map_cons];have e:dR k (g k::(xI (k+1) m).map g)=.tuple [.int k,g k]::dR (k+1) ((xI (k+1) m).map g):=rfl;rw[e,jU,o0 m (k+1) λj h1 h2=>h j (by omega) (by omega)];have hk:=h k (Nat.le_refl _) (by omega);simp only[List.set_cons_zero,List.set_cons_succ,hk,R.ok_bind,ap];cases hp:p k with
  |true=>rw[List.filter_cons_of_pos hp];rfl
  |false=>rw[List.filter_cons_of_neg (by rw[hp];simp)];rfl
theorem qK{fe:Fe}{ρ:aV}{g h:Int->Qa}:∀(m k:Nat),(∀j:Nat,k<=j->j<k+m->fe (.val (.int j)::.val (g j)::ρ)=.ok (h j)) ->
  bJ (fT 0 1) (λ_=>.ok true) fe (.non::.non::ρ) (dR k ((xI k m).map g))=.ok ((xI k m).map h)
 | 0,k,_=>by unfold xI;simp[dR,dM]
 |m+1,k,hh=>by
  rw[v9,List.map_cons];have e:dR k (g k::(xI (k+1) m).map g)=.tuple [.int k,g k]::dR (k+1) ((xI (k+1) m).map g):=rfl;rw[e,jU,qK m (k+1) λj h1 h2=>hh j (by omega) (by omega)];have hk:=hh k (Nat.le_refl _) (by omega);simp only[R.ok_bind,if_true,List.set_cons_zero,List.set_cons_succ,hk];rfl
theorem FF{f g h:Int->Qa}{n:Nat}{fe:Fe}{ρ:aV}(hh:∀i:Int,0<=i->i<n->fe (.val (f i)::.val (g i)::ρ)=.ok (h i)):bJ (fT 0 1) (λ_=>.ok true) fe (.non::.non::ρ) (pV (cG f n) (cG g n))=.ok (cG h n):=by
 have go:∀is:List Int,(∀i∈is,0<=i/\i<n)->bJ (fT 0 1) (λ_=>.ok true) fe (.non::.non::ρ) (pV (is.map f) (is.map g))=.ok (is.map h):=by
  intro is;induction is with
  |nil=>intro _;unfold pV;simp[dM]
  |cons i is ih=>
   intro hb;have e:pV ((i::is).map f) ((i::is).map g)=.tuple [f i,g i]::pV (is.map f) (is.map g):=rfl;rw[e,jU,ih λx hx=>hb x (Qf _ hx)];have:=hh i (hb i List.mem_cons_self).1 (hb i List.mem_cons_self).2;simp only[R.ok_bind,if_true,List.set_cons_zero,List.set_cons_succ,this];rfl
 exact go (ids n) λi hi=>bW.mp hi
theorem jF(t:aV->R Bool)(g:Fs)(n:Nat)(ρ:aV):e9 t g (n+1) ρ=(t ρ>>=λb=>if b=true then g ρ>>=tM (e9 t g n)else .ok (.nx ρ)):=by
 rw[e9];congr 1
def wO(s:Qa)(js:List Int):Prop:=s=.tuple (js.map .int)\/s=.list (js.map .int)
theorem wO.inn{s:Qa}{js:List Int}(h:wO s js)(neg:Bool)(k:Int):pZ neg (.int k) s=.ok (.bool (if neg then !e8 js k else e8 js k)):=by
 rcases h with rfl|rfl
 ·exact GQ ..
 ·exact KU ..
theorem wO.seq{s:Qa}{js:List Int}(h:wO s js):km s=.ok (js.map .int):=by
 rcases h with rfl|rfl<;>rfl
theorem wO.len{s:Qa}{js:List Int}(h:wO s js):ci s=.ok (.int js.length):=by
 rcases h with rfl|rfl<;>simp
structure eh(n:Nat)(js:List Int):Prop where
 lt:js.Pairwise (· < ·)
 inn:∀x∈js,0<=x/\x<n
theorem eh.nd{n:Nat}{js:List Int}(h:eh n js):js.Nodup:=rz h.lt
theorem eh.len{n:Nat}{js:List Int}(h:eh n js):js.length<=n:=by
 have:=mD js 0 n h.lt h.inn;rcases this with z|z
 ·rw[z];simp
 ·omega
theorem eh.filter{n:Nat}{js:List Int}(h:eh n js)(p:Int->Bool):eh n (js.filter p):=⟨h.lt.filter _,λx hx=>h.inn x (List.mem_filter.mp hx).1⟩
theorem eh.ids(n:Nat):eh n (ids n):=⟨xK n,λx hx=>bW.mp hx⟩
def ku(ps:List P4)(js:List Int):Prop:=∀i∈js,∃g,g∈cE ps js i
abbrev oT(f:Int->Option Int)(n:Nat):Qa:=.tuple (cG (λi=>oD (f i)) n)
theorem uG(o:Option Int)(k:Int):jc (oD o) (.int k)=.ok (.bool (decide (o=some k))):=by
 cases o with
 |none=>rfl
 |some q=>
  show jc (.int q) (.int k)=_;rw[fZ];congr 2;simp
structure Gr(ps:List P4):Prop where
 hl:∀p∈ps,p.ns.length<=100
 hgo:∀p∈ps,∀x∈p.ns,0<=x/\x<ps.length
 hp:ps.length<=60
 lt:∀p∈ps,p.ns.Pairwise (· < ·)
 ne:∀p∈ps,p.ns≠[]
theorem Gr.goals{ps:List P4}(G:Gr ps){i x:Int}(h:x∈bj ps i):0<=x/\x<ps.length:=by
 unfold bj at h;cases e:ps[i.toNat]? with
 |none=>rw[e]at h;cases h
 |some p=>rw[e]at h;exact G.hgo p (List.mem_of_getElem? e) x h
theorem Gr.glen{ps:List P4}(G:Gr ps)(i:Int):(bj ps i).length<=100:=by
 unfold bj;cases e:ps[i.toNat]? with
 |none=>simp
 |some p=>exact G.hl p (List.mem_of_getElem? e)
def aU(ps:List P4)(i:Int):Int:=(ps[i.toNat]?.map (·.m)).getD 0
theorem xZ(p:P4):aX p.d (.int 1)=.ok (.int p.m):=rfl
theorem oB{ps:List P4}{i:Int}(h0:0<=i)(h1:i<ps.length):aU ps i=(ps[i.toNat]'(by omega)).m:=by
 unfold aU;rw[List.getElem?_eq_getElem (by omega)];rfl
theorem EO{ps:List P4}{i:Int}(h0:0<=i)(h1:i<ps.length):(aX (gD ps) (.int i)>>=λx=>aX x (.int 1))=.ok (.int (aU ps i)):=by
 rw[ky h0 h1,R.ok_bind,xZ,oB h0 h1]
def gf(f:Int->Option Int)(n:Nat):List Int:=(ids n).filter λi=>(f i).isSome
theorem rJ(f:Int->Option Int)(n:Nat):eh n (gf f n):=(eh.ids n).filter _
theorem gn{f:Int->Option Int}{n:Nat}{i:Int}:i∈gf f n<->(0<=i/\i<n)/\∃q,f i=some q:=by
 unfold gf;rw[List.mem_filter,bW,Option.isSome_iff_exists]
def je(ps:List P4)(who:Int)(f:Int->Option Int)(i:Int):Option Int:=match f i with
 |some q=>if aL ps i=who/\0<q then((bj ps i).filter λg=>decide (f g=some (q-1))).head? else none
 |none=>none
theorem ma{ps:List P4}{js:List Int}{who:Int}{gs:List Int}{rk:Int->Option Int}(A:wQ ps js who gs rk):∀i q,rk i=some q->0<q->aL ps i=who->∃g∈bj ps i,rk g=some (q-1):=λi q h1 h2 h3=>by
 obtain⟨g,hg,e⟩:=A.own i q h1 h2 h3;exact⟨g,(List.mem_filter.mp hg).1,e⟩
def gS(js:List Int)(some:List Int):List Int:=js.filter λi=>!e8 some i
theorem jt{js some:List Int}{i:Int}:i∈gS js some<->i∈js/\i∉some:=by
 unfold gS;rw[List.mem_filter,Bool.not_eq_true',<-Bool.not_eq_true,cN]
def cU(ps:List P4)(who:Int)(part:List Int)(i:Int):Option Int:=if i∈part/\aL ps i=who then(cE ps part i).head? else none
structure Sh where
 w:Int
 pl:List Int
 mv:Int->Option Int
def df(f g:Int->Option Int)(i:Int):Option Int:=(f i).or (g i)
theorem oh{s t:Qa}{ns js:List Int}(hs:wO s ns)(ht:wO t js)(hl:ns.length<=1000):ce [s,t]=.ok (.tuple ((ns.filter (e8 js)).map .int)):=by
 have hcmp:=eL (t:=tE (e2 (pZ false) (ag 0) (ag 1))) (ρ:=[.val t]) (p:=e8 js) ns λk hk=>by simp[ht.inn]
 unfold ce qf;refine eJ ?_;rw[show([s,t].map ba.val++Qi (2 - [s,t].length) ba.non)=[.val s,.val t]from rfl];rw[da,bL,bg,show aB 1 [1] [.val s,.val t]=[.non,.val t]from rfl];simp -implicitDefEqProofs only[bV,ap,R.ok_bind,hs.seq,cb];rw[if_pos (by rw[Qd];exact bG hl),hcmp];rfl
theorem rQ{s t:Qa}{ns js:List Int}(hs:wO s ns)(ht:wO t js)(hl:ns.length<=1000):cV [s,t]=.ok (.tuple ((ns.filter λi=>!e8 js i).map .int)):=by
 have hcmp:=eL (t:=tE (e2 (pZ true) (ag 0) (ag 1))) (ρ:=[.val t]) (p:=λi=>!e8 js i) ns λk hk=>by simp[ht.inn]
 unfold cV n4;refine eJ ?_;rw[show([s,t].map ba.val++Qi (2 - [s,t].length) ba.non)=[.val s,.val t]from rfl];rw[da,bL,bg,show aB 1 [1] [.val s,.val t]=[.non,.val t]from rfl];simp -implicitDefEqProofs only[bV,ap,R.ok_bind,hs.seq,cb];rw[if_pos (by rw[Qd];exact bG hl),hcmp];rfl
theorem uN{p:P4}{ws:List Int}{who:Int}{f:Int->Option Int}{n:Nat}(hw:∀g∈ws,0<=g/\g<n)(hl:ws.length<=1000) :
  cK [p.d,.tuple (ws.map .int),.int who,.list (cG (λi=>oD (f i)) n)]=.ok (.bool (if p.w=who then decide (0<(ws.filter λg=>(f g).isSome).length)else decide ((ws.filter λg=>(f g).isSome).length=ws.length))):=by
 have hcmp:=eL (t:=tE (e2 (kx) (e2 aX (ag 1) (ag 0)) (eC .none))) (ρ:=[.val (.list (cG (λi=>oD (f i)) n))]) (p:=λg=>(f g).isSome) ws λk hk=>by
  simp only[List.set_cons_zero,bT,bf,ap,au,bA,R.ok_bind,Dx (hw k hk).1 (hw k hk).2,zB,ca]
 unfold cK kK;refine eJ ?_;rw[show([p.d,.tuple (ws.map .int),.int who,.list (cG (λi=>oD (f i)) n)].map ba.val++Qi (5 - [p.d,.tuple (ws.map .int),.int who,.list (cG (λi=>oD (f i)) n)].length) ba.non)=[.val p.d,.val (.tuple (ws.map .int)),.val (.int who),.val (.list (cG (λi=>oD (f i)) n)),.non]from rfl];rw[aF (ρ':=[.val p.d,.val (.tuple (ws.map .int)),.val (.int who),.val (.list (cG (λi=>oD (f i)) n)),.val (.list ((ws.filter λg=>(f g).isSome).map .int))]) (by
  rw[bp,bg,show aB 1 [3] [.val p.d,.val (.tuple (ws.map .int)),.val (.int who),.val (.list (cG (λi=>oD (f i)) n)),.non]=[.non,.val (.list (cG (λi=>oD (f i)) n))]from rfl];simp only[bV,ap,au,R.ok_bind,dG,cb];rw[if_pos (by rw[Qd];exact bG hl),hcmp];rfl)]
 by_cases h:p.w=who
 ·rw[if_pos h];refine yl ?_;simp only[cj,bT,bf,bL,ap,au,bA,R.ok_bind,oH,fZ,ca,h,decide_true,if_true,da,uE,mh,Qd];congr 3;simp
 ·rw[if_neg h,aF (ρ':=[.val p.d,.val (.tuple (ws.map .int)),.val (.int who),.val (.list (cG (λi=>oD (f i)) n)),.val (.list ((ws.filter λg=>(f g).isSome).map .int))]) (by
   simp only[cj,bT,bf,bL,ap,au,bA,R.ok_bind,oH,fZ,ca,h,decide_false];rfl)]
  simp only[da,bf,bL,ap,au,R.ok_bind,uE,kW,fZ,Qd];congr 3;exact decide_eq_decide.mpr (by omega)
theorem wM{d:Qa}(h:noD d):fJ [d]=.ok (.bool (KW d)):=by
 cases d<;>first|rfl|cases h
theorem jT{d:Qa}(h:noD d)(lo hi:Int):aW [d,.int lo,.int hi]=.ok (.bool (wP d lo hi)):=by
 unfold aW jJ;rw[fN];cases d with
 |int i=>
  by_cases h1:lo<=i<;>by_cases h2:i<=hi<;>simp[wM h,KW,h1,h2,wP]
 |dict k=>cases h
 | _=>simp[wM h,KW,wP]
theorem tI(t:Qa)(c:Int):∀(ds:List Qa) (l:Int) (x:ba),(∀d∈ds,noD d) ->
  ∃ρ,gc (aE 3) (aO (hW (fg (tE (aC aW (ai (ag 3) (ai (ag 2) (ai (e2 mm (ag 1) (eC (.int 1))) az)))))) (bQ (eC (.bool false))) bU) (bZ 2 (e2 eG (ag 3) (eC (.int 1))))) ds
   [.val t,.val (.int c),.val (.int l),x]=if pS c l ds=true then .ok (.nx ρ)else .ok (.rt (.bool false))
 | [],l,x,_=>⟨_,by rw[dw];rfl⟩
 |d::ds,l,x,h=>by
  have hd:=h d List.mem_cons_self;cases hb:wP d l (c-1)with
  |false=>
   refine⟨[],?_⟩;have hr:pS c l (d::ds)=false:=by
    cases d with
    |int i=>
     simp only[wP]at hb;simp only[pS];rcases(Bool.and_eq_false_iff.mp hb)with z|z
     ·rw[z];rfl
     ·have:decide (i<c)=false:=by simp at z ⊢;omega
      rw[this];simp
    | _=>rfl
   rw[bY,hr];simp[jT hd,hb]
  |true=>
   cases d with
   |int i=>
    simp only[wP,Bool.and_eq_true,decide_eq_true_eq]at hb;obtain⟨ρ,e⟩:=tI t c ds (i+1) (.val (.int i)) λd hd=>h d (Qf _ hd)
    refine⟨ρ,?_⟩;have hr:pS c l (.int i::ds)=pS c (i+1) ds:=by
     simp only[pS];rw[decide_eq_true hb.1,decide_eq_true (show i<c by omega)];simp
    have hb':wP (.int i) l (c-1)=true:=by simp[wP];omega
    rw[bY,hr,<-e];simp[jT hd,hb']
   | _=>cases hb
theorem oV{d:Qa}(c:Int)(h:∀ds,d=.tuple ds->∀x∈ds,noD x)(hd:noD d):cr [d,.int c]=.ok (.bool (zX c d)):=by
 unfold cr lZ;rw[fN];cases d with
 |tuple ds=>
  obtain⟨ρ,e⟩:=tI (.tuple ds) c ds 0 .non (h ds rfl);simp[gL,GT,dX,Qi];rw[e];cases pS c 0 ds<;>simp
 |dict k=>cases hd
 | _=>simp[gL,GT,Qi]
theorem eh.some{n:Nat}{js:List Int}(h:eh n js):cr [.tuple (js.map .int),.int n]=.ok (.bool true):=by
 rw[oV (d:=.tuple (js.map .int)) n (λds e x hx=>by
  cases e;obtain⟨i,_,rfl⟩:=List.mem_map.mp hx;exact True.intro) True.intro]
 show R.ok (Qa.bool (pS n 0 (js.map .int)))=_;rw[uX n js 0 h.lt λx hx=>h.inn x hx]
theorem Jx{c:Int}(h0:0<=c)(h1:c<=1000):lU [.int c]=.ok (bM 0 c.toNat):=by
 show(if -(2 ^ 62)<=c/\c<2 ^ 62 then R.ok (bM 0 c.toNat)else .no)=_;rw[if_pos (by omega)]
def zY:Fs:=(aO (A4 6 (λa b=>a+b) (eC (.int 1))) (aO (bZ 8 (bD (dY (ag 1)) 1 [5] (aE 0) (tE (e2 (nA) (e2 aX (eS 1) (ag 0)) (eC .none))) (ag 0))) (aO (bZ 7 (bD (dY (ag 8)) 1 [0,4,2,5] (aE 0) (tE (jq 4 (aC cK (ai (e2 aX (ag 1) (ag 0)) (ai (e2 aX (ag 2) (ag 0)) (ai (ag 3) (ai (ag 4) az))))))) (ag 0))) (gk (gO (dY (ag 7)) (aE 9) (jy 5 (ag 9) (ag 6)))))))
abbrev nW(ps:List P4)(js:List Int):Qa:=.list (cG (λi=>.tuple ((cE ps js i).map .int)) ps.length)
abbrev De(kvs:List (Int×Int))(n:Nat):List Qa:=cG (λi=>oD (look kvs i)) n
abbrev tR(ps:List P4)(s:Qa)(js:List Int)(who:Int)(g:Qa)(kvs:List (Int×Int))(r:Int)(fs:List Int)(c8 c9:ba):aV:=
 [.val (gD ps),.val s,.val (.int who),.val g,.val (nW ps js),.own (.list (De kvs ps.length)),.val (.int r),.val (.list (fs.map .int)),c8,c9]
theorem Co{kvs:List (Int×Int)}{i r:Int}(h:i∉kvs.map (·.1))(j:Int):look (kvs++[(i,r)]) j=if j=i then some r else look kvs j:=by
 rw[pb];by_cases e:j=i
 ·subst e;rw[if_pos rfl,iE.mpr h,Option.none_or];unfold look;simp
 ·rw[if_neg e];have:look [(i,r)] j=none:=by
   unfold look;have:¬i=j:=λz=>e z.symm
   simp[this]
  rw[this,Option.or_none]
theorem Gb{ps:List P4}{s:Qa}{js:List Int}{who:Int}{g:Qa}{r:Int}{fs0:List Int}{c8:ba}:∀(fs:List Int) (kvs:List (Int×Int)) (c9:ba),fs.Nodup->(∀x∈fs,x∉kvs.map (·.1))->(∀x∈fs,0<=x/\x<ps.length) ->
  ∃c9',gc (aE 9) (jy 5 (ag 9) (ag 6)) (fs.map .int) (tR ps s js who g kvs r fs0 c8 c9)=.ok (.nx (tR ps s js who g (kvs++fs.map λi=>(i,r)) r fs0 c8 c9'))
 | [],kvs,c9,_,_,_=>⟨c9,by rw[List.map_nil,dw];simp⟩
 |i::fs,kvs,c9,nd,hn,hb=>by
  obtain⟨n1,n2⟩:=List.nodup_cons.mp nd;have hi:=hb i List.mem_cons_self;obtain⟨c9',e⟩:=Gb (ps:=ps) (s:=s) (js:=js) (who:=who) (g:=g) (r:=r) (fs0:=fs0) (c8:=c8) fs (kvs++[(i,r)]) (.val (.int i)) n2 (λx hx=>by
   rw[List.map_append,List.mem_append];rintro(z|z)
   ·exact hn x (Qf _ hx) z
   ·simp at z;subst z;exact n1 hx) λx hx=>hb x (Qf _ hx)
  refine⟨c9',?_⟩;rw[List.map_cons,bY];rw[show((tR ps s js who g kvs r fs0 c8 c9).set 9 (.val (.int i)))=tR ps s js who g kvs r fs0 c8 (.val (.int i))from rfl];rw[qc (ds:=De kvs ps.length) (n:=i) (v:=.int r) rfl rfl rfl hi.1 (by rw[bH];exact hi.2),R.ok_bind,cO,qd hi.1 hi.2];rw[fS (g:=λj=>oD (look (kvs++[(i,r)]) j)) λj _ _=>by
   rw[Co (hn i List.mem_cons_self)];split<;>rfl]
  refine Eq.trans ?_ (e.trans (by simp));rfl
theorem qW{kvs:List (Int×Int)}{i:Int}:(look kvs i).isNone=!e8 (kvs.map (·.1)) i:=by
 cases h:e8 (kvs.map (·.1)) i with
 |true=>
  cases h2:look kvs i with
  |none=>exact(iE.mp h2 (cN.mp h)).elim
  |some q=>rfl
 |false=>
  rw[iE.mpr λz=>by rw[cN.mpr z]at h;cases h];rfl
theorem xP{kvs:List (Int×Int)}{i:Int}:(look kvs i).isSome=e8 (kvs.map (·.1)) i:=by
 have:=qW (kvs:=kvs) (i:=i);cases h:look kvs i<;>rw[h]at this<;>cases h2:e8 (kvs.map (·.1)) i<;>rw[h2]at this<;>simp_all
theorem vZ{ps:List P4}{js:List Int}{who:Int}{kn:List Int}{i:Int}(hw:∃g,g∈cE ps js i) :
  (!e8 kn i&&(if aL ps i=who then decide (0<(o4 ps js kn i).length)else decide ((o4 ps js kn i).length=(cE ps js i).length)))=kU ps js who kn i:=by
 obtain⟨g,hg⟩:=hw;have hp:=List.length_pos_of_mem hg;unfold kU;by_cases ho:aL ps i=who
 ·simp[ho]
 ·by_cases he:(o4 ps js kn i).length=(cE ps js i).length
  ·simp[ho,he,hp]
  ·simp[ho,he]
theorem Dv{ps:List P4}(hl:∀p∈ps,p.ns.length<=100)(hgo:∀p∈ps,∀x∈p.ns,0<=x/\x<ps.length)(hp:ps.length<=60){s:Qa}{js:List Int}(hs:wO s js)(hj:eh ps.length js)(hw:ku ps js){who:Int}{g:Qa}{kvs:List (Int×Int)}{r:Int}{fs:List Int}(c8 c9:ba) :
  ∃c8' c9',zY (tR ps s js who g kvs r fs c8 c9)=.ok (.nx (tR ps s js who g (eQ ps js who (r+1) kvs) (r+1) (gp ps js who (kvs.map (·.1)) js) c8' c9')):=by
 have hlen:=hj.len;have h1:=eL (t:=tE (e2 (nA) (e2 aX (eS 1) (ag 0)) (eC .none))) (ρ:=[.own (.list (De kvs ps.length))]) (p:=λi=>!e8 (kvs.map (·.1)) i) js λk hk=>by
  simp only[List.set_cons_zero,bT,bf,ap,gW,io,bA,R.ok_bind,Dx (hj.inn k hk).1 (hj.inn k hk).2,uM,ca,qW]
 have h2:=eL (t:=tE (jq 4 (aC cK (ai (e2 aX (ag 1) (ag 0)) (ai (e2 aX (ag 2) (ag 0)) (ai (ag 3) (ai (ag 4) az))))))) (ρ:=[.val (gD ps),.val (nW ps js),.val (.int who),.own (.list (De kvs ps.length))])
  (p:=kU ps js who (kvs.map (·.1))) (js.filter λi=>!e8 (kvs.map (·.1)) i) λk hk=>by
  obtain⟨hkj,hkn⟩:=List.mem_filter.mp hk;have hb:=hj.inn k hkj;have hg:=fj hb.1 hb.2;have hwl:(cE ps js k).length<=1000:=by
   refine Nat.le_trans (List.length_filter_le ..) ?_;rw[hg];have:=hl _ (List.getElem_mem (show k.toNat<ps.length by omega));omega
  have hwb:∀x∈cE ps js k,0<=x/\x<ps.length:=λx hx=>by
   have:=(List.mem_filter.mp hx).1;rw[hg]at this;exact hgo _ (List.getElem_mem _) x this
  have hf:=uN (p:=ps[k.toNat]'(by omega)) (who:=who) (f:=look kvs) hwb hwl;have ho:=mw hb.1 hb.2;have hgk:((cE ps js k).filter λg=>(look kvs g).isSome)=o4 ps js (kvs.map (·.1)) k:=by
   unfold o4;congr 1;funext g;exact xP
  rw[hgk,<-ho]at hf;have e4:jq 4 (aC cK (ai (e2 aX (ag 1) (ag 0)) (ai (e2 aX (ag 2) (ag 0)) (ai (ag 3) (ai (ag 4) az))))) [.val (.int k),.val (gD ps),.val (nW ps js),.val (.int who),.own (.list (De kvs ps.length))]
   = (jG (aC cK (ai (e2 aX (ag 1) (ag 0)) (ai (e2 aX (ag 2) (ag 0)) (ai (ag 3) (ai (ag 4) az)))) [.val (.int k),.val (gD ps),.val (nW ps js),.val (.int who),.val (.list (De kvs ps.length))])>>=lV):=rfl
  have hc:=vZ (who:=who) (kn:=kvs.map (·.1)) (hw k hkj);rw[hkn,Bool.true_and]at hc;rw[List.set_cons_zero,bT,e4,aS];simp only[ay,aG,bf,ap,au,R.ok_bind,ky hb.1 hb.2,Dx hb.1 hb.2];rw[hf,hc];rfl
 have hfil:(js.filter λi=>!e8 (kvs.map (·.1)) i).filter (kU ps js who (kvs.map (·.1)))=gp ps js who (kvs.map (·.1)) js:=by
  unfold gp;rw[List.filter_filter];apply List.filter_congr;intro x _;unfold kU;cases e8 (kvs.map (·.1)) x<;>simp
 rw[hfil]at h2;have hnew:eh ps.length (gp ps js who (kvs.map (·.1)) js):=hj.filter _;obtain⟨c9',e⟩:=Gb (ps:=ps) (s:=s) (js:=js) (who:=who) (g:=g) (r:=r+1) (fs0:=gp ps js who (kvs.map (·.1)) js) (c8:=.val (.list ((js.filter λi=>!e8 (kvs.map (·.1)) i).map .int))) (gp ps js who (kvs.map (·.1)) js) kvs c9 hnew.nd (λx hx=>(rm hx).2) hnew.inn;refine⟨.val (.list ((js.filter λi=>!e8 (kvs.map (·.1)) i).map .int)),c9',?_⟩;unfold zY;rw[aF (ρ':=tR ps s js who g kvs (r+1) fs c8 c9) (by simp only[Fu,au,ap,bA,R.ok_bind,Iy];rfl)];rw[aF (ρ':=tR ps s js who g kvs (r+1) fs (.val (.list ((js.filter λi=>!e8 (kvs.map (·.1)) i).map .int))) c9) (by
  rw[bp,bg,show aB 1 [5] (tR ps s js who g kvs (r+1) fs c8 c9)=[.non,.own (.list (De kvs ps.length))]from rfl];simp -implicitDefEqProofs only[bV,au,ap,R.ok_bind,hs.seq,cb];rw[if_pos (by rw[Qd];exact bG (by omega)),h1];rfl)]
 rw[aF (ρ':=tR ps s js who g kvs (r+1) (gp ps js who (kvs.map (·.1)) js) (.val (.list ((js.filter λi=>!e8 (kvs.map (·.1)) i).map .int))) c9) (by
  rw[bp,bg,show aB 1 [0,4,2,5] (tR ps s js who g kvs (r+1) fs (.val (.list ((js.filter λi=>!e8 (kvs.map (·.1)) i).map .int))) c9)=[.non,.val (gD ps),.val (nW ps js),.val (.int who),.own (.list (De kvs ps.length))]from rfl];simp only[bV,au,ap,R.ok_bind,mI,cb];rw[if_pos (by rw[Qd];exact bG (Nat.le_trans (List.length_filter_le ..) (by omega))),h2];rfl)]
 rw[dF,dX,bV,au,au,au,au,au,au,au,ap,R.ok_bind,mI,R.ok_bind,e];rfl
theorem gE{ps:List P4}{js:List Int}{who:Int}{kvs:List (Int×Int)}(h:gp ps js who (kvs.map (·.1)) js=[]):∀(n:Nat) (r:Int),iT ps js who r n kvs=kvs
 | 0,r=>rfl
 |n+1,r=>by
  show iT ps js who (r+1) n (eQ ps js who r kvs)=kvs;have:eQ ps js who r kvs=kvs:=by unfold eQ;rw[h];simp
  rw[this,gE h n]
theorem Ga{ps:List P4}(hl:∀p∈ps,p.ns.length<=100)(hgo:∀p∈ps,∀x∈p.ns,0<=x/\x<ps.length)(hp:ps.length<=60){s:Qa}{js:List Int}(hs:wO s js)(hj:eh ps.length js)(hw:ku ps js){who:Int}{g:Qa} :
  ∀(k n:Nat) (kvs:List (Int×Int)) (r:Int) (fs:List Int) (c8 c9:ba),kH js kvs->js.length-kvs.length<=k->(fs=[]->gp ps js who (kvs.map (·.1)) js=[])->k+3<=n ->
  ∃K r' fs' c8' c9',e9 (tE (e2 (hV rU) (e1 ci (ag 7)) (eC (.int 0)))) zY n (tR ps s js who g kvs r fs c8 c9)=.ok (.nx (tR ps s js who g K r' fs' c8' c9'))/\∀N,k+1<=N->iT ps js who (r+1) N kvs=K
 |k,0,kvs,r,fs,c8,c9,_,_,_,h=>by omega
 |k,n+1,kvs,r,fs,c8,c9,hk,hm,hf,hn=>by
  rw[jF];have ht:tE (e2 (hV rU) (e1 ci (ag 7)) (eC (.int 0))) (tR ps s js who g kvs r fs c8 c9)=.ok (decide (0<fs.length)):=by
   simp only[bT,bf,bL,au,ap,bA,R.ok_bind,uE,mh,ca,Qd];congr 1;simp
  rw[ht,R.ok_bind];by_cases h0:fs=[]
  ·have hs0:=hf h0;subst h0;exact⟨kvs,r,[],c8,c9,rfl,λN _=>gE hs0 N _⟩
  ·rw[if_pos (decide_eq_true (List.length_pos_iff.mpr h0))];obtain⟨c8',c9',e⟩:=Dv hl hgo hp hs hj hw (who:=who) (g:=g) (kvs:=kvs) (r:=r) (fs:=fs) c8 c9;rw[e,R.ok_bind,cO];by_cases h1:gp ps js who (kvs.map (·.1)) js=[]
   ·have w1:eQ ps js who (r+1) kvs=kvs:=by unfold eQ;rw[h1];simp
    rw[h1,w1];refine⟨kvs,r+1,[],c8',c9',?_,λN _=>gE h1 N _⟩;cases n with
    |zero=>omega
    |succ n=>
     rw[jF];have ht2:tE (e2 (hV rU) (e1 ci (ag 7)) (eC (.int 0))) (tR ps s js who g kvs (r+1) [] c8' c9')=.ok false:=rfl;rw[ht2,R.ok_bind];rfl
   ·have hk':=hk.round (ps:=ps) (who:=who) (r:=r+1) hj.nd;have hkl:=hk'.len hj.nd;have hgrow:kvs.length+1<=(eQ ps js who (r+1) kvs).length:=by
     unfold eQ;rw[List.length_append,Qd];have:=List.length_pos_iff.mpr h1;omega
    obtain⟨K,r',fs',d8,d9,w2,w3⟩:=Ga hl hgo hp hs hj hw (who:=who) (g:=g) (k-1) n (eQ ps js who (r+1) kvs) (r+1) (gp ps js who (kvs.map (·.1)) js) c8' c9' hk' (by omega) (λz=>(h1 z).elim) (by omega);refine⟨K,r',fs',d8,d9,w2,λN hN=>?_⟩;cases N with
    |zero=>omega
    |succ N=>exact w3 N (by omega)
theorem pA{ps:List P4}(hl:∀p∈ps,p.ns.length<=100)(hgo:∀p∈ps,∀x∈p.ns,0<=x/\x<ps.length)(hp:ps.length<=60){s g:Qa}{js gs:List Int}(hs:wO s js)(hsg:wO g gs)(hj:eh ps.length js)(hg:eh ps.length gs)(hsub:∀x∈gs,x∈js)(hw:ku ps js){who:Int} :
  eN [gD ps,s,.int who,g]=.ok (.tuple (cG (λi=>oD (rK ps js who gs i)) ps.length)):=by
 have hlen:=hj.len;have hglen:=hg.len;have hgj:gs.length<=js.length:=oF hg.nd hsub;have hk0:kH js (gs.map λi=>((i,0):Int×Int)):=by
  have e:(gs.map λi=>((i,0):Int×Int)).map (·.1)=gs:=by rw[List.map_map];exact List.map_id _
  exact⟨by rw[e];exact hg.nd,by rw[e];exact hsub⟩
 have hk0e:(gs.map λi=>((i,0):Int×Int)).map (·.1)=gs:=by rw[List.map_map];exact List.map_id _
 obtain⟨K,r',fs',d8,d9,w2,w3⟩:=Ga hl hgo hp hs hj hw (who:=who) (g:=g) (js.length-gs.length) 1000000 (gs.map λi=>(i,0)) 0 gs .non .non hk0 (by rw[Qd];exact Nat.le_refl _) (λz=>by
  rw[hk0e,z];unfold gp;rw[List.filter_eq_nil_iff];intro i _;rw[hU];rintro⟨_,⟨g,_,hz⟩,_⟩;cases hz) (by omega)
 have hK:K=Ba ps js who gs ps.length:=by
  by_cases h0:gs=[]
  ·subst h0;have hz:gp ps js who (([]:List (Int×Int)).map (·.1)) js=[]:=by
    unfold gp;rw[List.filter_eq_nil_iff];intro i _;rw[hU];rintro⟨_,⟨g,_,hz⟩,_⟩;cases hz
   have e4:=w3 (js.length-0+1) (Nat.le_refl _);rw[List.map_nil,gE hz]at e4;rw[<-e4];unfold Ba;rw[List.map_nil,gE hz]
  ·have:=List.length_pos_iff.mpr h0;have e4:=w3 ps.length (by omega);rw[<-e4];rfl
 have hways:bJ (aE 0) (λ_=>.ok true) (aC ce (ai (e2 aX (ag 0) (eC (.int 3))) (ai (ag 1) az))) [.non,.val s] (ps.map P4.d)=.ok (cG (λi=>.tuple ((cE ps js i).map .int)) ps.length):=by
  have go:∀qs:List P4,(∀p∈qs,p.ns.length<=100)->bJ (aE 0) (λ_=>.ok true) (aC ce (ai (e2 aX (ag 0) (eC (.int 3))) (ai (ag 1) az))) [.non,.val s] (qs.map P4.d)=.ok (qs.map λp=>.tuple ((p.ns.filter (e8 js)).map .int)):=by
   intro qs;induction qs with
   |nil=>exact λ_=>dM ..
   |cons p qs ih=>
    intro h;have hc:=oh (s:=.tuple (p.ns.map .int)) (ns:=p.ns) (.inl rfl) hs (by have:=h p List.mem_cons_self;omega);rw[List.map_cons,fi,ih λq hq=>h q (Qf _ hq)];simp only[R.ok_bind,if_true,List.set_cons_zero,aS,ay,aG,bf,ap,au,bA,rA,hc];rfl
  rw[go ps hl];congr 1;refine List.ext_getElem (by rw[Qd,bH]) λk h1 h2=>?_
  rw[bH]at h2;have e:=g9 (f:=λi=>.tuple ((cE ps js i).map .int)) (n:=ps.length) (i:=(k:Int)) (by omega) (by omega);simp only[Int.toNat_natCast]at e;rw[e,List.getElem_map];unfold cE;rw[fj (by omega) (by omega)];simp
 have hinit:bJ (aE 0) (λ_=>.ok true) (DR (tE (e2 (pZ false) (ag 0) (ag 1))) (eC (.int 0)) (eC .none)) [.non,.val g] (bM 0 ps.length)=.ok (De (gs.map λi=>(i,0)) ps.length):=
  mB _ _ _ _ λi h0 h1=>by
   simp only[List.set_cons_zero,xA,bT,bf,ap,au,bA,R.ok_bind,hsg.inn,ca,ka];cases hm:e8 gs i with
   |true=>rw[if_pos (cN.mp hm)];rfl
   |false=>rw[if_neg (show ¬i∈gs from λz=>by rw[cN.mpr z]at hm;cases hm)];rfl
 have hr:lU [.int (ps.length:Int)]=.ok (bM 0 ps.length):=by
  rw[Jx (by omega) (by omega),Int.toNat_natCast]
 have hlst:nB g=.ok (.list (gs.map .int)):=by rcases hsg with rfl|rfl<;>rfl
 unfold eN l5;refine eJ ?_;rw[show([gD ps,s,.int who,g].map ba.val++Qi (10 - [gD ps,s,.int who,g].length) ba.non)=[.val (gD ps),.val s,.val (.int who),.val g,.non,.non,.non,.non,.non,.non]from rfl];rw[aF (ρ':=[.val (gD ps),.val s,.val (.int who),.val g,.val (nW ps js),.non,.non,.non,.non,.non]) (by
  rw[bp,bg,show aB 1 [1] [.val (gD ps),.val s,.val (.int who),.val g,.non,.non,.non,.non,.non,.non]=[.non,.val s]from rfl];simp only[bV,ap,R.ok_bind,dG,cb];rw[if_pos (by rw[Qd];exact bG (by omega)),hways];rfl)]
 rw[aF (ρ':=[.val (gD ps),.val s,.val (.int who),.val g,.val (nW ps js),.own (.list (De (gs.map λi=>(i,0)) ps.length)),.non,.non,.non,.non]) (by
  rw[lI,bg,show aB 1 [3] [.val (gD ps),.val s,.val (.int who),.val g,.val (nW ps js),.non,.non,.non,.non,.non]=[.non,.val g]from rfl];simp -implicitDefEqProofs only[fD,ay,aG,bL,ap,R.ok_bind,kW,Qd,hr,cb];rw[if_pos (by rw[dU];exact bG (by omega)),hinit];rfl)]
 rw[aF (ρ':=[.val (gD ps),.val s,.val (.int who),.val g,.val (nW ps js),.own (.list (De (gs.map λi=>(i,0)) ps.length)),.val (.int 0),.non,.non,.non]) (by rfl)];rw[aF (ρ':=tR ps s js who g (gs.map λi=>(i,0)) 0 gs .non .non) (by
  simp only[bp,bL,au,ap,R.ok_bind,hlst];rfl)]
 rw[aF (ρ':=tR ps s js who g K r' fs' d8 d9) (by
  rw[dF];show jG (e9 (tE (e2 (hV rU) (e1 ci (ag 7)) (eC (.int 0)))) zY 1000000 _)=_;rw[w2];rfl)]
 rw[hK];rfl
theorem oK{f:Int->Option Int}{n:Nat}(hn:n<=1000):dt [oT f n]=.ok (.tuple ((gf f n).map .int)):=by
 have hc:=o0 (t:=tE (e2 (kx) (ag 1) (eC .none))) (ρ:=[]) (p:=λi=>(f i).isSome) (g:=λi=>oD (f i)) n 0 λj _ _=>by
  simp only[bT,bf,au,ap,bA,R.ok_bind,zB,ca]
 rw[uL]at hc;unfold dt qh;refine eJ ?_;rw[show([oT f n].map ba.val++Qi (1 - [oT f n].length) ba.non)=[.val (oT f n)]from rfl];rw[da,bL,bg,show aB 2 [] [.val (oT f n)]=[.non,.non]from rfl];simp only[nD,ap,R.ok_bind,dG,cb];rw[if_pos (by rw[iD,bH];exact bG hn)];rw[show dR 0 (cG (λi=>oD (f i)) n)=dR 0 ((ids n).map λi=>oD (f i))from rfl,hc];rfl
def zG:Fs:=(hW (jE (tE (e2 (jc) (e2 aX (e2 aX (ag 0) (ag 4)) (eC (.int 0))) (ag 1))) (tE (e2 (hV rU) (e2 aX (ag 2) (ag 4)) (eC (.int 0))))) (jy 3 (ag 4) (e2 aX (bD (dY (e2 aX (e2 aX (ag 0) (ag 4)) (eC (.int 3)))) 1 [2,4] (aE 0) (tE (e2 (jc) (e2 aX (ag 1) (ag 0)) (e2 mm (e2 aX (ag 1) (ag 2)) (eC (.int 1))))) (ag 0)) (eC (.int 0)))) bU)
theorem CH{ps:List P4}(G:Gr ps){who:Int}{f:Int->Option Int}(hne:∀i q,f i=some q->0<q->aL ps i=who->∃g∈bj ps i,f g=some (q-1)):∀(is:List Int) (h:Int->Qa) (c4:ba),is.Nodup->(∀x∈is,(0<=x/\x<ps.length)/\(∃q,f x=some q)/\h x=.none) ->
  ∃c4',gc (aE 4) zG (is.map .int) [.val (gD ps),.val (.int who),.val (oT f ps.length),.own (.list (cG h ps.length)),c4]=.ok (.nx [.val (gD ps),.val (.int who),.val (oT f ps.length),.own (.list (cG (λj=>if j∈is then oD (je ps who f j)else h j) ps.length)),c4'])
 | [],h,c4,_,_=>⟨c4,by rw[List.map_nil,dw];simp⟩
 |i::is,h,c4,nd,hb=>by
  obtain⟨n1,n2⟩:=List.nodup_cons.mp nd;obtain⟨hi,⟨q,hq⟩,hh⟩:=hb i List.mem_cons_self;have ho:=mw hi.1 hi.2;have hg:=fj hi.1 hi.2;obtain⟨c4',e⟩:=CH G hne is (λj=>if j=i then oD (je ps who f i)else h j) (.val (.int i)) n2 (λx hx=>⟨(hb x (Qf _ hx)).1,(hb x (Qf _ hx)).2.1,by
   have:x≠i:=by rintro rfl;exact n1 hx
   show(if x=i then _ else h x)=_;rw[if_neg this];exact(hb x (Qf _ hx)).2.2⟩)
  refine⟨c4',?_⟩;have fin:cG (λj=>if j∈is then oD (je ps who f j)else(λj=>if j=i then oD (je ps who f i)else h j) j) ps.length=cG (λj=>if j∈i::is then oD (je ps who f j)else h j) ps.length:=fS λj _ _=>by
   by_cases h1:j=i
   ·subst h1;simp[n1]
   ·by_cases h2:j∈is<;>simp[h1,h2]
  rw[fin]at e;rw[<-e,List.map_cons,bY,show(([.val (gD ps),.val (.int who),.val (oT f ps.length),.own (.list (cG h ps.length)),c4]:aV).set 4 (.val (.int i)))=[.val (gD ps),.val (.int who),.val (oT f ps.length),.own (.list (cG h ps.length)),.val (.int i)]from rfl];have ht:(jE (tE (e2 (jc) (e2 aX (e2 aX (ag 0) (ag 4)) (eC (.int 0))) (ag 1))) (tE (e2 (hV rU) (e2 aX (ag 2) (ag 4)) (eC (.int 0))))) [.val (gD ps),.val (.int who),.val (oT f ps.length),.own (.list (cG h ps.length)),.val (.int i)]=.ok (decide (aL ps i=who/\0<q)):=by
   have hrk:aX (oT f ps.length) (.int i)=.ok (.int q):=by rw[hZ hi.1 hi.2,hq];rfl
   simp only[gg,bT,bf,ap,au,bA,R.ok_bind,ky hi.1 hi.2,oH,fZ,ca,hrk,mh];rw[<-ho];by_cases h1:aL ps i=who
   ·by_cases h2:0<q<;>simp[h1,h2]
   ·simp[h1]
  have hb1:zG [.val (gD ps),.val (.int who),.val (oT f ps.length),.own (.list (cG h ps.length)),.val (.int i)]=.ok (.nx [.val (gD ps),.val (.int who),.val (oT f ps.length),.own (.list (cG (λj=>if j=i then oD (je ps who f i)else h j) ps.length)),.val (.int i)]):=by
   unfold zG;rw[cj,ht,R.ok_bind];by_cases hc:aL ps i=who/\0<q
   ·rw[if_pos (decide_eq_true hc)];have hcmp:=eL (t:=tE (e2 (jc) (e2 aX (ag 1) (ag 0)) (e2 mm (e2 aX (ag 1) (ag 2)) (eC (.int 1))))) (ρ:=[.val (oT f ps.length),.val (.int i)]) (p:=λg=>decide (f g=some (q-1))) (bj ps i) λk hk=>by
     have hkb:=G.goals hk;have hrk:aX (oT f ps.length) (.int i)=.ok (.int q):=by rw[hZ hi.1 hi.2,hq];rfl
     simp only[List.set_cons_zero,bT,bf,ap,au,bA,R.ok_bind,hZ hkb.1 hkb.2,hrk,xy,uG,ca]
    obtain⟨g,hg1,hg2⟩:=hne i q hq hc.2 hc.1;have hm:je ps who f i=((bj ps i).filter λg=>decide (f g=some (q-1))).head?:=by
     unfold je;rw[hq];exact if_pos hc
    have hmem:g∈(bj ps i).filter λg=>decide (f g=some (q-1)):=List.mem_filter.mpr ⟨hg1,decide_eq_true hg2⟩
    cases hL:(bj ps i).filter λg=>decide (f g=some (q-1))with
    |nil=>rw[hL]at hmem;cases hmem
    |cons v r=>
     rw[hL]at hm hcmp;rw[qc (ds:=cG h ps.length) (n:=i) (v:=.int v) rfl rfl ?_ hi.1 (by rw[bH];exact hi.2),qd hi.1 hi.2,hm]
     ·rfl
     ·rw[bf,bg,show aB 1 [2,4] [.val (gD ps),.val (.int who),.val (oT f ps.length),.own (.list (cG h ps.length)),.val (.int i)]=[.non,.val (oT f ps.length),.val (.int i)]from rfl];simp only[bV,bf,ap,au,bA,R.ok_bind,ky hi.1 hi.2,rA,dG,cb];rw[<-hg,if_pos (by rw[Qd];exact bG (by have:=G.glen i;omega)),hcmp,iq,R.ok_bind,vQ (by omega) (by simp)];rfl
   ·rw[if_neg (by rw[decide_eq_true_iff];exact hc)];have hm:je ps who f i=none:=by
     unfold je;rw[hq];exact if_neg hc
    rw[wB,hm];congr 3;rw[fS λj _ _=>?_];by_cases h1:j=i
    ·subst h1;rw[if_pos rfl,hh];rfl
    ·rw[if_neg h1]
  rw[hb1,R.ok_bind,cO]
theorem jw{ps:List P4}(G:Gr ps){who:Int}{f:Int->Option Int}(hne:∀i q,f i=some q->0<q->aL ps i=who->∃g∈bj ps i,f g=some (q-1)) :
  cy [gD ps,.int who,oT f ps.length]=.ok (oT (je ps who f) ps.length):=by
 have hp:=G.hp;have h0:bJ (aE 0) (λ_=>.ok true) (eC .none) [.non] (cG (λi=>oD (f i)) ps.length)=.ok (cG (λ_=>.none) ps.length):=by
  have:=eA (eC .none) [.non] 0 (λ_=>.none) (cG (λi=>oD (f i)) ps.length) λd _=>rfl
  rw[this];unfold cG;rw[List.map_map];rfl
 obtain⟨c4,e⟩:=CH G hne (gf f ps.length) (λ_=>.none) .non (rJ f ps.length).nd λx hx=>⟨(gn.mp hx).1,(gn.mp hx).2,rfl⟩
 have fin:cG (λj=>if j∈gf f ps.length then oD (je ps who f j)else .none) ps.length=cG (λj=>oD (je ps who f j)) ps.length:=fS λj h1 h2=>by
  by_cases h:j∈gf f ps.length
  ·rw[if_pos h]
  ·rw[if_neg h];have:f j=none:=by
    cases hf:f j with
    |none=>rfl
    |some q=>exact(h (gn.mpr ⟨⟨h1,h2⟩,q,hf⟩)).elim
   unfold je;rw[this];rfl
 rw[fin]at e;unfold cy ib;refine eJ ?_;rw[show([gD ps,.int who,oT f ps.length].map ba.val++Qi (5 - [gD ps,.int who,oT f ps.length].length) ba.non)=[.val (gD ps),.val (.int who),.val (oT f ps.length),.non,.non]from rfl];rw[aF (ρ':=[.val (gD ps),.val (.int who),.val (oT f ps.length),.own (.list (cG (λ_=>.none) ps.length)),.non]) (by
  rw[lI,bg,show aB 1 [] [.val (gD ps),.val (.int who),.val (oT f ps.length),.non,.non]=[.non]from rfl];simp only[bV,ap,au,R.ok_bind,dG,cb];rw[if_pos (by rw[bH];exact bG (by omega)),h0];rfl)]
 rw[aF (ρ':=[.val (gD ps),.val (.int who),.val (oT f ps.length),.own (.list (cG (λj=>oD (je ps who f j)) ps.length)),c4]) (by
  rw[dF,dX,bV];simp only[aS,ay,aG,ap,au,R.ok_bind,oK (show ps.length<=1000 by omega),dG];unfold zG at e;rw[e];rfl)]
 rfl
theorem BS{d:Qa}(hg:fK d)(hd:d.depth<=60):mL d d=.ok (.bool false):=by
 unfold mL;rw[if_pos (by unfold sv;rw[hg];simp;exact hd),PySem.SeqAt.eqv_refl d hg];rfl
def Gj:List Qa->Prop:=λds=>∀x∈ds,fK x/\x.depth=0
theorem Gj.good{ds:List Qa}(h:Gj ds):fK (.tuple ds):=eP.mpr λx hx=>(h x hx).1
theorem EY(o:Option Int):fK (oD o)/\(oD o).depth=0:=by
 cases o
 ·exact⟨sV,by simp[oD,Qa.depth]⟩
 ·exact⟨kZ _,by simp[oD,Qa.depth]⟩
theorem AF(ns:List Int):Gj (ns.map .int):=λx hx=>by
 obtain⟨i,_,rfl⟩:=List.mem_map.mp hx;exact EY (some i)
theorem zZ(ns:List Int):fK (.tuple (ns.map .int)):=(AF ns).good
theorem IP{ps:List P4}{hi:Int}(hp:∀p∈ps,Pl ps.length hi p)(h24:(ps.length:Int)<=24):Gr ps:=
 ⟨λp h=>by have:=(hp p h).len;omega,λp h=>(hp p h).inn,by omega,λp h=>(hp p h).so,λp h=>(hp p h).ne⟩
theorem Gr.gne{ps:List P4}(G:Gr ps){i:Int}(h0:0<=i)(h1:i<ps.length):∃g,g∈bj ps i:=by
 have:=G.ne _ (List.getElem_mem (show i.toNat<ps.length by omega));rw[<-fj h0 h1]at this;exact List.exists_mem_of_ne_nil _ this
theorem tN{ps:List P4}(G:Gr ps):ku ps (ids ps.length):=λi hi=>by
 obtain⟨h0,h1⟩:=bW.mp hi;obtain⟨g,hg⟩:=G.gne h0 h1;exact⟨g,List.mem_filter.mpr ⟨hg,cN.mpr (bW.mpr (G.goals hg))⟩⟩
theorem wu{n:Nat}(h:n<=1000):F7 .tuple [.int (n:Int)]=.ok (.tuple ((ids n).map .int)):=by
 rw[Jw (by omega) (by omega),kf];rfl
theorem ph{ps:List P4}(hp:ps.length<=1000):cJ [gD ps]=.ok (.tuple (cG (λ_=>.none) ps.length)):=by
 have h0:bJ (aE 0) (λ_=>.ok true) (eC .none) [.non] (ps.map P4.d)=.ok (cG (λ_=>.none) ps.length):=by
  have:=eA (eC .none) [.non] 0 (λ_=>.none) (ps.map P4.d) λd _=>rfl
  rw[this];congr 1;refine List.ext_getElem (by rw[Qd,Qd,bH]) λk h1 h2=>?_
  rw[bH]at h2;have e:=g9 (f:=λ_=>.none) (n:=ps.length) (i:=(k:Int)) (by omega) (by omega);simp only[Int.toNat_natCast]at e;rw[e,List.getElem_map]
 unfold cJ l4;refine eJ ?_;rw[show([gD ps].map ba.val++Qi (1 - [gD ps].length) ba.non)=[.val (gD ps)]from rfl];rw[da,bL,bg,show aB 1 [] [.val (gD ps)]=[.non]from rfl];simp only[bV,ap,R.ok_bind,dG,cb];rw[if_pos (by rw[Qd];exact bG hp),h0];rfl
def Aa:Fs:=(hW (tE (e2 (jc) (e2 aX (e2 aX (ag 0) (ag 4)) (eC (.int 0))) (ag 1))) (jy 3 (ag 4) (e2 aX (aC ce (ai (e2 aX (e2 aX (ag 0) (ag 4)) (eC (.int 3))) (ai (ag 2) az))) (eC (.int 0)))) bU)
theorem DF{ps:List P4}(G:Gr ps){who:Int}{s:Qa}{part:List Int}(hs:wO s part)(hj:eh ps.length part)(hne:∀i∈part,aL ps i=who->∃g,g∈cE ps part i):∀(is:List Int) (h:Int->Qa) (c4:ba),is.Nodup->(∀x∈is,x∈part/\h x=.none) ->
  ∃c4',gc (aE 4) Aa (is.map .int) [.val (gD ps),.val (.int who),.val s,.own (.list (cG h ps.length)),c4]=.ok (.nx [.val (gD ps),.val (.int who),.val s,.own (.list (cG (λj=>if j∈is then oD (cU ps who part j)else h j) ps.length)),c4'])
 | [],h,c4,_,_=>⟨c4,by rw[List.map_nil,dw];simp⟩
 |i::is,h,c4,nd,hb=>by
  obtain⟨n1,n2⟩:=List.nodup_cons.mp nd;obtain⟨hip,hh⟩:=hb i List.mem_cons_self;have hi:=hj.inn i hip;have ho:=mw hi.1 hi.2;have hg:=fj hi.1 hi.2;obtain⟨c4',e⟩:=DF G hs hj hne is (λj=>if j=i then oD (cU ps who part i)else h j) (.val (.int i)) n2 (λx hx=>⟨(hb x (Qf _ hx)).1,by
   have:x≠i:=by rintro rfl;exact n1 hx
   show(if x=i then _ else h x)=_;rw[if_neg this];exact(hb x (Qf _ hx)).2⟩)
  refine⟨c4',?_⟩;have fin:cG (λj=>if j∈is then oD (cU ps who part j)else(λj=>if j=i then oD (cU ps who part i)else h j) j) ps.length=cG (λj=>if j∈i::is then oD (cU ps who part j)else h j) ps.length:=fS λj _ _=>by
   by_cases h1:j=i
   ·subst h1;simp[n1]
   ·by_cases h2:j∈is<;>simp[h1,h2]
  rw[fin]at e;rw[<-e,List.map_cons,bY,show(([.val (gD ps),.val (.int who),.val s,.own (.list (cG h ps.length)),c4]:aV).set 4 (.val (.int i)))=[.val (gD ps),.val (.int who),.val s,.own (.list (cG h ps.length)),.val (.int i)]from rfl];have ht:(tE (e2 (jc) (e2 aX (e2 aX (ag 0) (ag 4)) (eC (.int 0))) (ag 1))) [.val (gD ps),.val (.int who),.val s,.own (.list (cG h ps.length)),.val (.int i)]=.ok (decide (aL ps i=who)):=by
   simp only[bT,bf,ap,au,bA,R.ok_bind,ky hi.1 hi.2,oH,fZ,ca];rw[<-ho]
  have hb1:Aa [.val (gD ps),.val (.int who),.val s,.own (.list (cG h ps.length)),.val (.int i)]=.ok (.nx [.val (gD ps),.val (.int who),.val s,.own (.list (cG (λj=>if j=i then oD (cU ps who part i)else h j) ps.length)),.val (.int i)]):=by
   unfold Aa;rw[cj,ht,R.ok_bind];by_cases hc:aL ps i=who
   ·rw[if_pos (decide_eq_true hc)];have hcm:=oh (s:=.tuple ((bj ps i).map .int)) (ns:=bj ps i) (.inl rfl) hs (by have:=G.glen i;omega);obtain⟨g,hg1⟩:=hne i hip hc;have hm:cU ps who part i=(cE ps part i).head?:=if_pos ⟨hip,hc⟩;have hw:(bj ps i).filter (e8 part)=cE ps part i:=rfl;rw[hw]at hcm;cases hL:cE ps part i with
    |nil=>rw[hL]at hg1;cases hg1
    |cons v r=>
     rw[hL]at hm hcm;rw[qc (ds:=cG h ps.length) (n:=i) (v:=.int v) rfl rfl ?_ hi.1 (by rw[bH];exact hi.2),qd hi.1 hi.2,hm]
     ·rfl
     ·simp only[bf,aS,ay,aG,ap,au,bA,R.ok_bind,ky hi.1 hi.2,rA];rw[<-hg,hcm,R.ok_bind,vR (by omega) (by simp)];rfl
   ·rw[if_neg (by rw[decide_eq_true_iff];exact hc)];have hm:cU ps who part i=none:=if_neg λz=>hc z.2
    rw[wB,hm];congr 3;rw[fS λj _ _=>?_];by_cases h1:j=i
    ·subst h1;rw[if_pos rfl,hh];rfl
    ·rw[if_neg h1]
  rw[hb1,R.ok_bind,cO]
theorem jB{ps:List P4}(G:Gr ps){who:Int}{s:Qa}{part:List Int}(hs:wO s part)(hj:eh ps.length part)(hne:∀i∈part,aL ps i=who->∃g,g∈cE ps part i) :
  cz [gD ps,.int who,s]=.ok (oT (cU ps who part) ps.length):=by
 have hp:=G.hp;have hn:=ph (ps:=ps) (by omega);obtain⟨c4,e⟩:=DF G hs hj hne part (λ_=>.none) .non hj.nd λx hx=>⟨hx,rfl⟩
 have fin:cG (λj=>if j∈part then oD (cU ps who part j)else .none) ps.length=cG (λj=>oD (cU ps who part j)) ps.length:=fS λj h1 h2=>by
  by_cases h:j∈part
  ·rw[if_pos h]
  ·rw[if_neg h];have:cU ps who part j=none:=if_neg λz=>h z.1
   rw[this];rfl
 rw[fin]at e;unfold cz ic;refine eJ ?_;rw[show([gD ps,.int who,s].map ba.val++Qi (5 - [gD ps,.int who,s].length) ba.non)=[.val (gD ps),.val (.int who),.val s,.non,.non]from rfl];rw[aF (ρ':=[.val (gD ps),.val (.int who),.val s,.own (.list (cG (λ_=>.none) ps.length)),.non]) (by
  simp only[lI,bL,aS,ay,aG,ap,R.ok_bind,hn,Eo];rfl)]
 rw[aF (ρ':=[.val (gD ps),.val (.int who),.val s,.own (.list (cG (λj=>oD (cU ps who part j)) ps.length)),c4]) (by
  rw[dF,dX,bV];simp only[ap,au,R.ok_bind,hs.seq];unfold Aa at e;rw[e];rfl)]
 rfl
abbrev Fx:List Str:=["who","places","moves"]
def lr(c:Addr)(n:Nat)(s:Sh):Qa:=B9 c Fx [.int s.w,.tuple (s.pl.map .int),oT s.mv n]
theorem yn(c:Addr)(n:Nat)(s:Sh):lr c n s=.dict [(.none,.int c),(.str "who",.int s.w),(.str "places",.tuple (s.pl.map .int)),(.str "moves",oT s.mv n)]:=rfl
theorem EC(c:Addr)(n:Nat)(s:Sh):mn c "who" (lr c n s)=.ok (.int s.w):=by
 rw[yn];show(if(c:Int)=(c:Int)then(if("who" : Str) = "who" then R.ok _ else _)else .no)=_;rw[if_pos rfl,if_pos rfl]
theorem qO(c:Addr)(n:Nat)(s:Sh):mn c "places" (lr c n s)=.ok (.tuple (s.pl.map .int)):=by
 rw[yn];show(if(c:Int)=(c:Int)then(if("who" : Str) = "places" then _ else if("places" : Str) = "places" then R.ok _ else _)else .no)=_;rw[if_pos rfl,if_neg (by decide +kernel),if_pos rfl]
theorem AG(c:Addr)(n:Nat)(s:Sh):mn c "moves" (lr c n s)=.ok (oT s.mv n):=by
 rw[yn];show(if(c:Int)=(c:Int)then(if("who" : Str) = "moves" then _ else if("places" : Str) = "moves" then _ else if("moves" : Str) = "moves" then R.ok _ else _)else .no)=_;rw[if_pos rfl,if_neg (by decide +kernel),if_neg (by decide +kernel),if_pos rfl]
theorem uA{f g:Int->Option Int}{n:Nat}(hn:n<=1000):aZ [oT f n,oT g n]=.ok (oT (df f g) n):=by
 have hc:=FF (f:=λi=>oD (f i)) (g:=λi=>oD (g i)) (h:=λi=>oD (df f g i)) (n:=n) (ρ:=[]) (fe:=DR (tE (e2 (nA) (ag 0) (eC .none))) (ag 1) (ag 0)) λi _ _=>by
  simp only[xA,bT,bf,ap,au,bA,R.ok_bind,uM,ca];unfold df;cases f i<;>rfl
 unfold aZ ia;refine eJ ?_;rw[show([oT f n,oT g n].map ba.val++Qi (2 - [oT f n,oT g n].length) ba.non)=[.val (oT f n),.val (oT g n)]from rfl];rw[da,bL,bg,show aB 2 [] [.val (oT f n),.val (oT g n)]=[.non,.non]from rfl];simp only[EH,ap,au,R.ok_bind,dG,cb];rw[if_pos (by rw[rR,bH,bH,Nat.min_self];exact bG hn),hc];rfl
theorem sj{ps:List P4}(hp:ps.length<=1000):dB [gD ps]=.ok (.tuple ((ids ps.length).map .int)):=by
 have hrt:=wu (n:=ps.length) hp;have hlen:ci (gD ps)=.ok (.int ps.length):=by simp
 unfold dB jH;refine eJ ?_;rw[show([gD ps].map ba.val++Qi (1 - [gD ps].length) ba.non)=[.val (gD ps)]from rfl];simp only[da,B0,ay,aG,bL,ap,R.ok_bind,hlen,hrt]
def DH(s:Sh)(f:Int->Option Int)(i:Int):Option Int:=if i∈s.pl then some s.w else f i
def lY:(Int->Option Int)->List Sh->Int->Option Int
 |f,[]=>f
 |f,s::l=>lY (DH s f) l
def sy:(Int->Option Int)->List Sh->Int->Option Int
 |f,[]=>f
 |f,s::l=>sy (df f s.mv) l
theorem DG{c:Addr}{n:Nat}{a b m:Qa}{s:Sh}:∀(is:List Int) (f:Int->Option Int) (c5:ba),(∀x∈is,0<=x/\x<n) ->
  ∃c5',gc (aE 5) (jy 2 (ag 5) (e1 (mn c "who") (ag 4))) (is.map .int) [.val a,.val b,.own (.list (cG (λi=>oD (f i)) n)),.val m,.val (lr c n s),c5]=.ok (.nx [.val a,.val b,.own (.list (cG (λi=>oD (if i∈is then some s.w else f i)) n)),.val m,.val (lr c n s),c5'])
 | [],f,c5,_=>⟨c5,by rw[List.map_nil,dw];simp⟩
 |i::is,f,c5,hb=>by
  obtain⟨h0,h1⟩:=hb i List.mem_cons_self;obtain⟨c5',e⟩:=DG (c:=c) (n:=n) (a:=a) (b:=b) (m:=m) (s:=s) is (λj=>if j=i then some s.w else f j) (.val (.int i)) λx hx=>hb x (Qf _ hx)
  refine⟨c5',?_⟩;rw[List.map_cons,bY];rw[show(([.val a,.val b,.own (.list (cG (λi=>oD (f i)) n)),.val m,.val (lr c n s),c5]:aV).set 5 (.val (.int i)))=[.val a,.val b,.own (.list (cG (λi=>oD (f i)) n)),.val m,.val (lr c n s),.val (.int i)]from rfl];rw[qc (ds:=cG (λi=>oD (f i)) n) (n:=i) (v:=.int s.w) rfl rfl (by simp only[bL,au,ap,R.ok_bind,EC]) h0 (by rw[bH];exact h1),R.ok_bind,cO,qd h0 h1];have ht:cG (λj=>if j=i then Qa.int s.w else oD (f j)) n=cG (λj=>oD (if j=i then some s.w else f j)) n:=fS λj _ _=>by split<;>rfl
  have ht2:cG (λj=>oD (if j∈is then some s.w else if j=i then some s.w else f j)) n=cG (λj=>oD (if j∈i::is then some s.w else f j)) n:=fS λj _ _=>by
   by_cases z1:j∈is
   ·simp[z1]
   ·by_cases z2:j=i<;>simp[z1,z2]
  rw[ht,<-ht2];exact e
def u4(c:Addr):Fs:=(aO (gk (gO (dY (e1 (mn c "places") (ag 4))) (aE 5) (jy 2 (ag 5) (e1 (mn c "who") (ag 4))))) (bZ 3 (aC aZ (ai (ag 3) (ai (e1 (mn c "moves") (ag 4)) az)))))
theorem zV{c:Addr}{n:Nat}(hn:n<=1000){a b:Qa}:∀(l:List Sh) (f m:Int->Option Int) (c4 c5:ba),(∀s∈l,∀x∈s.pl,0<=x/\x<n) ->
  ∃c4' c5',gc (aE 4) (u4 c) (l.map (lr c n)) [.val a,.val b,.own (.list (cG (λi=>oD (f i)) n)),.val (oT m n),c4,c5]=.ok (.nx [.val a,.val b,.own (.list (cG (λi=>oD (lY f l i)) n)),.val (oT (sy m l) n),c4',c5'])
 | [],f,m,c4,c5,_=>⟨c4,c5,by rw[List.map_nil,dw];rfl⟩
 |s::l,f,m,c4,c5,hb=>by
  obtain⟨d5,e1⟩:=DG (c:=c) (n:=n) (a:=a) (b:=b) (m:=oT m n) (s:=s) s.pl f c5 (hb s List.mem_cons_self);obtain⟨c4',c5',e⟩:=zV (c:=c) hn (a:=a) (b:=b) l (DH s f) (df m s.mv) (.val (lr c n s)) d5 λt ht=>hb t (Qf _ ht)
  refine⟨c4',c5',?_⟩;rw[List.map_cons,bY];rw[show(([.val a,.val b,.own (.list (cG (λi=>oD (f i)) n)),.val (oT m n),c4,c5]:aV).set 4 (.val (lr c n s)))=[.val a,.val b,.own (.list (cG (λi=>oD (f i)) n)),.val (oT m n),.val (lr c n s),c5]from rfl];have hb1:u4 c [.val a,.val b,.own (.list (cG (λi=>oD (f i)) n)),.val (oT m n),.val (lr c n s),c5]=.ok (.nx [.val a,.val b,.own (.list (cG (λi=>oD (DH s f i)) n)),.val (oT (df m s.mv) n),.val (lr c n s),d5]):=by
   unfold u4;rw[aF (ρ':=[.val a,.val b,.own (.list (cG (λi=>oD (DH s f i)) n)),.val (oT m n),.val (lr c n s),d5]) (by
    rw[dF,dX,bV,bL];simp only[au,ap,R.ok_bind,qO,dG];rw[e1];rfl)]
   simp only[bp,aS,ay,aG,bL,au,ap,R.ok_bind,AG,uA hn];rfl
  rw[hb1,R.ok_bind,cO,e];rfl
theorem J7{ps:List P4}(hp:ps.length<=1000){c:Addr}{l:List Sh}(hb:∀s∈l,∀x∈s.pl,0<=x/\x<ps.length) :
  bK c [gD ps,.list (l.map (lr c ps.length))]=.ok (.tuple [oT (lY (λ_=>none) l) ps.length,oT (sy (λ_=>none) l) ps.length]):=by
 obtain⟨c4,c5,e⟩:=zV (c:=c) hp (a:=gD ps) (b:=.list (l.map (lr c ps.length))) l (λ_=>none) (λ_=>none) .non .non hb;have h0:bJ (aE 0) (λ_=>.ok true) (eC .none) [.non] (ps.map P4.d)=.ok (cG (λ_=>oD none) ps.length):=by
  have:=eA (eC .none) [.non] 0 (λ_=>.none) (ps.map P4.d) λd _=>rfl
  rw[this];congr 1;refine List.ext_getElem (by rw[Qd,Qd,bH]) λk h1 h2=>?_
  rw[bH]at h2;have e:=g9 (f:=λ_=>oD none) (n:=ps.length) (i:=(k:Int)) (by omega) (by omega);simp only[Int.toNat_natCast]at e;rw[e,List.getElem_map];rfl
 have hn:=ph (ps:=ps) hp;unfold bK fU;refine eJ ?_;rw[show([gD ps,.list (l.map (lr c ps.length))].map ba.val++Qi (6 - [gD ps,.list (l.map (lr c ps.length))].length) ba.non)=[.val (gD ps),.val (.list (l.map (lr c ps.length))),.non,.non,.non,.non]from rfl];rw[aF (ρ':=[.val (gD ps),.val (.list (l.map (lr c ps.length))),.own (.list (cG (λ_=>oD none) ps.length)),.non,.non,.non]) (by
  rw[lI,bg,show aB 1 [] [.val (gD ps),.val (.list (l.map (lr c ps.length))),.non,.non,.non,.non]=[.non]from rfl];simp only[bV,ap,R.ok_bind,dG,cb];rw[if_pos (by rw[Qd];exact bG hp),h0];rfl)]
 rw[aF (ρ':=[.val (gD ps),.val (.list (l.map (lr c ps.length))),.own (.list (cG (λ_=>oD none) ps.length)),.val (oT (λ_=>none) ps.length),.non,.non]) (by
  simp only[bp,aS,ay,aG,ap,R.ok_bind,hn];rfl)]
 rw[aF (ρ':=[.val (gD ps),.val (.list (l.map (lr c ps.length))),.own (.list (cG (λi=>oD (lY (λ_=>none) l i)) ps.length)),.val (oT (sy (λ_=>none) l) ps.length),c4,c5]) (by
  rw[dF,dX,bV];simp only[au,ap,R.ok_bind,mI];unfold u4 at e;rw[e];rfl)]
 simp only[da,gy,ay,aG,bL,gW,io,au,ap,R.ok_bind,nC];rfl
def Wy(ps:List P4)(js:List Int)(w:Int)(mv:Int->Option Int)(i g:Int):Prop:=(aL ps i=w/\mv i=some g)\/(aL ps i≠w/\g∈cE ps js i)
theorem lv{ps:List P4}{js:List Int}{i g:Int}(h:g∈cE ps js i):g∈js:=cN.mp (List.mem_filter.mp h).2
theorem oQ{ps:List P4}{js:List Int}{i g:Int}(h:g∈cE ps js i):g∈bj ps i:=(List.mem_filter.mp h).1
theorem u8{ps:List P4}{js:List Int}{i g:Int}(h:g∈bj ps i)(h2:g∈js):g∈cE ps js i:=List.mem_filter.mpr ⟨h,cN.mpr h2⟩
theorem EV{ps:List P4}{js gs:List Int}{who:Int}{rk:Int->Option Int}(A:wQ ps js who gs rk){i q:Int}(h:rk i=some q)(hq:0<q)(ho:aL ps i=who):∃g,je ps who rk i=some g/\g∈cE ps js i/\rk g=some (q-1):=by
 obtain⟨g,g1,g2⟩:=ma A i q h hq ho;have hm:je ps who rk i=((bj ps i).filter λg=>decide (rk g=some (q-1))).head?:=by
  unfold je;rw[h];exact if_pos ⟨ho,hq⟩
 have hmem:g∈(bj ps i).filter λg=>decide (rk g=some (q-1)):=List.mem_filter.mpr ⟨g1,decide_eq_true g2⟩
 cases hL:(bj ps i).filter λg=>decide (rk g=some (q-1))with
 |nil=>rw[hL]at hmem;cases hmem
 |cons v r=>
  rw[hL]at hm;have hv:v∈(bj ps i).filter λg=>decide (rk g=some (q-1)):=by rw[hL];exact List.mem_cons_self
  have h2:=of_decide_eq_true (List.mem_filter.mp hv).2;exact⟨v,hm,u8 (List.mem_filter.mp hv).1 (A.sub v _ h2),h2⟩
theorem nH{ps:List P4}{who:Int}{rk:Int->Option Int}{i:Int}(h:aL ps i≠who\/rk i=none\/rk i=some 0):je ps who rk i=none:=by
 unfold je;rcases h with h|h|h
 ·cases rk i with
  |none=>rfl
  |some q=>exact if_neg λz=>h z.1
 ·rw[h]
 ·rw[h];exact if_neg λz=>by omega
theorem Bc{ps:List P4}{who:Int}{part:List Int}{i:Int}(hi:i∈part)(ho:aL ps i=who)(hw:∃g,g∈cE ps part i):∃g,cU ps who part i=some g/\g∈cE ps part i:=by
 have hm:cU ps who part i=(cE ps part i).head?:=if_pos ⟨hi,ho⟩;obtain⟨g,hg⟩:=hw;cases hL:cE ps part i with
 |nil=>rw[hL]at hg;cases hg
 |cons v r=>
  rw[hL]at hm;exact⟨v,hm,List.mem_cons_self⟩
theorem mJ{ps:List P4}{who:Int}{part:List Int}{i:Int}(h:i∉part\/aL ps i≠who):cU ps who part i=none:=if_neg λz=>h.elim (λy=>y z.1) λy=>y z.2
theorem vM{ps:List P4}{js gs:List Int}{who:Int}{rk:Int->Option Int}(A:wQ ps js who gs rk){part:List Int}{i q:Int}(h:rk i=some q)(ho:aL ps i=who)(h0:q=0->i∈part/\∃g,g∈cE ps part i) :
  ∃g,df (je ps who rk) (cU ps who part) i=some g/\g∈bj ps i/\((0<q/\g∈js/\rk g=some (q-1))\/(q=0/\g∈part)):=by
 unfold df;by_cases hq:0<q
 ·obtain⟨g,g1,g2,g3⟩:=EV A h hq ho;exact⟨g,by rw[g1];rfl,oQ g2,.inl ⟨hq,lv g2,g3⟩⟩
 ·have hq0:q=0:=by have:=A.nneg i q h;omega
  obtain⟨p1,p2⟩:=h0 hq0;obtain⟨g,g1,g2⟩:=Bc p1 ho p2;exact⟨g,by rw[nH (.inr (.inr (by rw[h,hq0]))),g1];rfl,oQ g2,.inr ⟨hq0,lv g2⟩⟩
def bB(gs js:List Int):List Int:=gs.filter (e8 js)
def dk(ps:List P4)(js:List Int)(who:Int)(gs:List Int):List Int:=gS js (gf (rK ps js who (bB gs js)) ps.length)
def bS(ps:List P4)(js:List Int)(who:Int)(gs:List Int):Sh:=
 if dk ps js who gs=[]then⟨who,js,df (je ps who (rK ps js who (bB gs js))) (cU ps who js)⟩
 else⟨1-who,gf (rK ps js (1-who) (dk ps js who gs)) ps.length,df (je ps (1-who) (rK ps js (1-who) (dk ps js who gs))) (cU ps (1-who) (dk ps js who gs))⟩
section
variable{ps:List P4}(G:Gr ps){js gs:List Int}(hj:eh ps.length js)(hg:eh ps.length gs)(hw:ku ps js){who:Int}
include hg in
theorem v4:eh ps.length (bB gs js):=hg.filter _
theorem zf:∀x∈bB gs js,x∈js:=λx hx=>cN.mp (List.mem_filter.mp hx).2
include hj in
theorem lD:eh ps.length (dk ps js who gs):=hj.filter _
theorem qw:∀x∈dk ps js who gs,x∈js:=λx hx=>(jt.mp hx).1
include hj in
theorem nF{i:Int}:i∈dk ps js who gs<->i∈js/\rK ps js who (bB gs js) i=none:=by
 unfold dk;rw[jt,gn];constructor
 ·rintro⟨h1,h2⟩;refine⟨h1,?_⟩;cases h:rK ps js who (bB gs js) i with
  |none=>rfl
  |some q=>exact(h2 ⟨hj.inn i h1,q,h⟩).elim
 ·rintro⟨h1,h2⟩;refine⟨h1,?_⟩;rintro⟨_,q,hq⟩;rw[h2]at hq;cases hq
include hj hg in
theorem uv:wQ ps js who (bB gs js) (rK ps js who (bB gs js)):=yN (v4 hg).nd zf hj.nd hj.len
include hj in
theorem lC:wQ ps js (1-who) (dk ps js who gs) (rK ps js (1-who) (dk ps js who gs)):=yN (lD hj).nd qw hj.nd hj.len
include hj hg hw in
theorem sM{i:Int}(hi:i∈dk ps js who gs)(ho:aL ps i≠who):∃g,g∈cE ps (dk ps js who gs) i:=by
 obtain⟨h1,h2⟩:=(nF hj).mp hi;obtain⟨g,g1,g2⟩:=(uv hj hg).outX i h1 h2 ho (hw i h1);obtain⟨g3,g4⟩:=List.mem_filter.mp g1;exact⟨g,List.mem_filter.mpr ⟨g3,cN.mpr ((nF hj).mpr ⟨cN.mp g4,g2⟩)⟩⟩
include G hj hg hw in
theorem Aw{c:Addr}:bN c [gD ps,.tuple (js.map .int),.int who,.tuple (gs.map .int)]=.ok (lr c ps.length (bS ps js who gs)):=by
 have hp:=G.hp;have hjl:=hj.len;have hgl:=hg.len;have h0:=oh (s:=.tuple (gs.map .int)) (t:=.tuple (js.map .int)) (.inl rfl) (.inl rfl) (by omega);have h1:=pA G.hl G.hgo G.hp (s:=.tuple (js.map .int)) (g:=.tuple ((bB gs js).map .int)) (.inl rfl) (.inl rfl) hj (v4 hg) zf hw (who:=who);have h2:=oK (f:=rK ps js who (bB gs js)) (n:=ps.length) (by omega);have h3:=rQ (s:=.tuple (js.map .int)) (t:=.tuple ((gf (rK ps js who (bB gs js)) ps.length).map .int)) (.inl rfl) (.inl rfl) (by omega);have h4:=jw G (ma (uv (who:=who) hj hg));unfold bN gw;refine eJ ?_;rw[show([gD ps,.tuple (js.map .int),.int who,.tuple (gs.map .int)].map ba.val++Qi (8 - [gD ps,.tuple (js.map .int),.int who,.tuple (gs.map .int)].length) ba.non)=[.val (gD ps),.val (.tuple (js.map .int)),.val (.int who),.val (.tuple (gs.map .int)),.non,.non,.non,.non]from rfl];rw[aF (ρ':=[.val (gD ps),.val (.tuple (js.map .int)),.val (.int who),.val (.tuple (gs.map .int)),.val (oT (rK ps js who (bB gs js)) ps.length),.non,.non,.non]) (by
  simp only[bp,aS,ay,aG,ap,au,R.ok_bind,h0];rw[show gs.filter (e8 js)=bB gs js from rfl,h1];rfl)]
 rw[aF (ρ':=[.val (gD ps),.val (.tuple (js.map .int)),.val (.int who),.val (.tuple (gs.map .int)),.val (oT (rK ps js who (bB gs js)) ps.length),.val (.tuple ((dk ps js who gs).map .int)),.non,.non]) (by
  simp only[bp,aS,ay,aG,ap,au,R.ok_bind,h2,h3];rfl)]
 by_cases ha:dk ps js who gs=[]
 ·have h5:=jB G (who:=who) (s:=.tuple (js.map .int)) (.inl rfl) hj λi hi _=>hw i hi
  rw[show bS ps js who gs=⟨who,js,df (je ps who (rK ps js who (bB gs js))) (cU ps who js)⟩from if_pos ha];refine yl ?_;rw[cj,bT,bf,bL];simp only[ap,au,bA,R.ok_bind,ha,List.map_nil,kW,List.length_nil,fZ,ca];rw[if_pos (by decide)];rw[aF (ρ':=[.val (gD ps),.val (.tuple (js.map .int)),.val (.int who),.val (.tuple (gs.map .int)),.val (oT (rK ps js who (bB gs js)) ps.length),.val (.tuple []),.val (oT (df (je ps who (rK ps js who (bB gs js))) (cU ps who js)) ps.length),.non]) (by
   simp only[bp,aS,ay,aG,ap,au,R.ok_bind,h4,h5,uA (show ps.length<=1000 by omega)];rfl)]
  rfl
 ·have h5:=pA G.hl G.hgo G.hp (s:=.tuple (js.map .int)) (g:=.tuple ((dk ps js who gs).map .int)) (.inl rfl) (.inl rfl) hj (lD hj) qw hw (who:=1-who);have h6:=oK (f:=rK ps js (1-who) (dk ps js who gs)) (n:=ps.length) (by omega);have h7:=jw G (ma (lC (gs:=gs) (who:=who) hj));have h8:=jB G (who:=1-who) (s:=.tuple ((dk ps js who gs).map .int)) (.inl rfl) (lD hj) λi hi ho=>sM hj hg hw hi (by omega)
  rw[show bS ps js who gs=⟨1-who,gf (rK ps js (1-who) (dk ps js who gs)) ps.length,df (je ps (1-who) (rK ps js (1-who) (dk ps js who gs))) (cU ps (1-who) (dk ps js who gs))⟩from if_neg ha];have hlen:¬((dk ps js who gs).length:Int)=0:=by
   have:=List.length_pos_iff.mpr ha;omega
  rw[aF (ρ':=[.val (gD ps),.val (.tuple (js.map .int)),.val (.int who),.val (.tuple (gs.map .int)),.val (oT (rK ps js who (bB gs js)) ps.length),.val (.tuple ((dk ps js who gs).map .int)),.non,.non]) (by
   rw[cj,bT,bf,bL];simp only[ap,au,bA,R.ok_bind,kW,Qd,fZ,ca,decide_eq_false hlen];rfl)]
  rw[aF (ρ':=[.val (gD ps),.val (.tuple (js.map .int)),.val (.int who),.val (.tuple (gs.map .int)),.val (oT (rK ps js who (bB gs js)) ps.length),.val (.tuple ((dk ps js who gs).map .int)),.non,.val (.int (1-who))]) (by
   simp only[bp,bf,ap,au,bA,R.ok_bind,xy];rfl)]
  rw[aF (ρ':=[.val (gD ps),.val (.tuple (js.map .int)),.val (.int who),.val (.tuple (gs.map .int)),.val (oT (rK ps js (1-who) (dk ps js who gs)) ps.length),.val (.tuple ((dk ps js who gs).map .int)),.non,.val (.int (1-who))]) (by
   simp only[bp,aS,ay,aG,ap,au,R.ok_bind,h5];rfl)]
  rw[aF (ρ':=[.val (gD ps),.val (.tuple (js.map .int)),.val (.int who),.val (.tuple (gs.map .int)),.val (oT (rK ps js (1-who) (dk ps js who gs)) ps.length),.val (.tuple ((dk ps js who gs).map .int)),.val (oT (df (je ps (1-who) (rK ps js (1-who) (dk ps js who gs))) (cU ps (1-who) (dk ps js who gs))) ps.length),.val (.int (1-who))]) (by
   simp only[bp,aS,ay,aG,ap,au,R.ok_bind,h7,h8,uA (show ps.length<=1000 by omega)];rfl)]
  unfold BX;simp only[da,aS,ay,aG,ap,au,R.ok_bind,h6];rfl
end
def dP(ps:List P4)(who:Int)(gs:List Int):Nat->List Int->List Sh
 | 0,_=>[]
 |k+1,js=>if js=[]then[]else bS ps js who gs::dP ps who gs k (gS js (bS ps js who gs).pl)
theorem yi{ps:List P4}{js gs:List Int}{who:Int}{rk:Int->Option Int}(hj:eh ps.length js)(hw:ku ps js)(A:wQ ps js who gs rk):ku ps (gS js (gf rk ps.length)):=by
 intro i hi;obtain⟨h1,h2⟩:=jt.mp hi;have hn:rk i=none:=by
  cases h:rk i with
  |none=>rfl
  |some q=>exact(h2 (gn.mpr ⟨hj.inn i h1,q,h⟩)).elim
 have fin:∀g,g∈cE ps js i->rk g=none->∃g,g∈cE ps (gS js (gf rk ps.length)) i:=λg g1 g2=>by
  obtain⟨g3,g4⟩:=List.mem_filter.mp g1;refine⟨g,List.mem_filter.mpr ⟨g3,cN.mpr (jt.mpr ⟨cN.mp g4,λz=>?_⟩)⟩⟩;obtain⟨_,q,hq⟩:=gn.mp z;rw[g2]at hq;cases hq
 by_cases ho:aL ps i=who
 ·obtain⟨g,hg⟩:=hw i h1;exact fin g hg (A.outO i h1 hn ho g hg)
 ·obtain⟨g,g1,g2⟩:=A.outX i h1 hn ho (hw i h1);exact fin g g1 g2
theorem rE(js:List Int):gS js js=[]:=by
 unfold gS;rw[List.filter_eq_nil_iff];intro x hx;rw[cN.mpr hx];simp
theorem oX{ps:List P4}{js gs:List Int}{who:Int}(hj:eh ps.length js)(hw:ku ps js):ku ps (gS js (bS ps js who gs).pl):=by
 unfold bS;split
 ·rw[rE];intro i hi;cases hi
 ·exact yi hj hw (lC hj)
theorem Ax{ps:List P4}{js gs:List Int}{who:Int}(hj:eh ps.length js):eh ps.length (bS ps js who gs).pl:=by
 unfold bS;split
 ·exact hj
 ·exact rJ _ _
theorem oW{ps:List P4}{js gs:List Int}{who:Int}(hj:eh ps.length js)(hne:js≠[]):(gS js (bS ps js who gs).pl).length<js.length:=by
 have ex:∃i∈js,i∈(bS ps js who gs).pl:=by
  unfold bS;split
  ·exact let ⟨i,hi⟩:=List.exists_mem_of_ne_nil _ hne;⟨i,hi,hi⟩
  ·rename_i ha;obtain⟨i,hi⟩:=List.exists_mem_of_ne_nil _ ha;exact⟨i,qw i hi,gn.mpr ⟨(lD hj).inn i hi,0,((lC hj).zero i).mpr hi⟩⟩
 obtain⟨i,h1,h2⟩:=ex;refine Nat.lt_of_le_of_ne (List.length_filter_le ..) λz=>?_
 have:=(jd _ js).mp z i h1;rw[cN.mpr h2]at this;cases this
def ze(c:Addr):Fs:=(aO (bZ 5 (aC (bN c) (ai (ag 0) (ai (ag 4) (ai (ag 1) (ai (ag 2) az)))))) (aO (gX 3 (ag 5)) (bZ 4 (aC cV (ai (ag 4) (ai (e1 (mn c "places") (ag 5)) az))))))
abbrev gR(ps:List P4)(c:Addr)(who:Int)(gs:List Int)(acc:List Sh)(js:List Int)(c5:ba):aV:=
 [.val (gD ps),.val (.int who),.val (.tuple (gs.map .int)),.own (.list (acc.map (lr c ps.length))),.val (.tuple (js.map .int)),c5]
theorem FS{ps:List P4}(G:Gr ps){gs:List Int}(hg:eh ps.length gs){who:Int}{c:Addr}:∀(k n:Nat) (js:List Int) (acc:List Sh) (c5:ba),eh ps.length js->ku ps js->js.length<=k->k+1<=n->acc.length+k<=1000 ->
  ∃c5',e9 (tE (e2 (hV rU) (e1 ci (ag 4)) (eC (.int 0)))) (ze c) n (gR ps c who gs acc js c5)=.ok (.nx (gR ps c who gs (acc++dP ps who gs k js) [] c5'))
 |k,0,js,acc,c5,_,_,_,h,_=>by omega
 |k,n+1,js,acc,c5,hj,hw,hk,hn,hz=>by
  have hp:=G.hp;rw[jF];have ht:tE (e2 (hV rU) (e1 ci (ag 4)) (eC (.int 0))) (gR ps c who gs acc js c5)=.ok (decide (0<js.length)):=by
   simp only[bT,bf,bL,au,ap,bA,R.ok_bind,kW,mh,ca,Qd];congr 1;simp
  rw[ht,R.ok_bind];by_cases h0:js=[]
  ·subst h0;refine⟨c5,?_⟩;have:dP ps who gs k []=[]:=by cases k<;>rfl
   rw[this,List.append_nil];rfl
  ·have hpos:=List.length_pos_iff.mpr h0;rw[if_pos (decide_eq_true hpos)];cases k with
   |zero=>omega
   |succ k=>
    have hl:=oW (gs:=gs) (who:=who) hj h0;obtain⟨c5',e⟩:=FS G hg (who:=who) (c:=c) k n (gS js (bS ps js who gs).pl) (acc++[bS ps js who gs]) (.val (lr c ps.length (bS ps js who gs))) (hj.filter _) (oX hj hw) (by omega) (by omega) (by simp;omega);refine⟨c5',?_⟩;have h1:=Aw G hj hg hw (who:=who) (c:=c);have h2:=rQ (s:=.tuple (js.map .int)) (t:=.tuple ((bS ps js who gs).pl.map .int)) (.inl rfl) (.inl rfl) (by have:=hj.len;omega);have hb:ze c (gR ps c who gs acc js c5)=.ok (.nx (gR ps c who gs (acc++[bS ps js who gs]) (gS js (bS ps js who gs).pl) (.val (lr c ps.length (bS ps js who gs))))):=by
     unfold ze;rw[aF (ρ':=gR ps c who gs acc js (.val (lr c ps.length (bS ps js who gs)))) (by
      simp only[bp,aS,ay,aG,ap,au,R.ok_bind,h1];rfl)]
     rw[aF (ρ':=gR ps c who gs (acc++[bS ps js who gs]) js (.val (lr c ps.length (bS ps js who gs)))) (by
      rw[oO (ds:=acc.map (lr c ps.length)) (ag 5) rfl (Nat.lt_of_lt_of_le (show _<1001 by rw[Qd];omega) (by decide))];simp -implicitDefEqProofs only[ap,au,cb,R.ok_bind];rw[show acc.map (lr c ps.length)++[lr c ps.length (bS ps js who gs)]=(acc++[bS ps js who gs]).map (lr c ps.length) by simp];rfl)]
     simp only[bp,aS,ay,aG,bL,ap,au,R.ok_bind,qO,h2];rfl
    rw[hb,R.ok_bind,cO,e];rw[show dP ps who gs (k+1) js=bS ps js who gs::dP ps who gs k (gS js (bS ps js who gs).pl)from if_neg h0];simp
theorem vH{ps:List P4}{gs:List Int}{who:Int}:∀(k:Nat) (js:List Int),eh ps.length js->∀s∈dP ps who gs k js,∀x∈s.pl,0<=x/\x<ps.length
 | 0,js,_,s,hs=>by cases hs
 |k+1,js,hj,s,hs=>by
  unfold dP at hs;split at hs
  ·cases hs
  ·rcases List.mem_cons.mp hs with rfl|z
   ·exact(Ax hj).inn
   ·exact vH k _ (hj.filter _) s z
theorem BG{ps:List P4}(G:Gr ps){gs:List Int}(hg:eh ps.length gs)(hw:ku ps (ids ps.length)){who:Int}{c:Addr} :
  im c [gD ps,.int who,.tuple (gs.map .int)]=.ok (.tuple [oT (lY (λ_=>none) (dP ps who gs ps.length (ids ps.length))) ps.length,oT (sy (λ_=>none) (dP ps who gs ps.length (ids ps.length))) ps.length]):=by
 have hp:=G.hp;obtain⟨c5,e⟩:=FS G hg (who:=who) (c:=c) ps.length 1000000 (ids ps.length) [] .non (eh.ids _) hw (by rw[gz];exact Nat.le_refl _) (by omega) (by simp;omega);rw[List.nil_append]at e;have h1:=hg.some;have h2:=sj (ps:=ps) (by omega);have h3:=J7 (ps:=ps) (by omega) (c:=c) (vH (gs:=gs) (who:=who) ps.length (ids ps.length) (eh.ids _));have hlen:ci (gD ps)=.ok (.int ps.length):=by simp
 unfold im ua;refine eJ ?_;rw[show([gD ps,.int who,.tuple (gs.map .int)].map ba.val++Qi (6 - [gD ps,.int who,.tuple (gs.map .int)].length) ba.non)=[.val (gD ps),.val (.int who),.val (.tuple (gs.map .int)),.non,.non,.non]from rfl];rw[aF (ρ':=[.val (gD ps),.val (.int who),.val (.tuple (gs.map .int)),.non,.non,.non]) (by
  simp only[cj,fB,bT,aS,ay,aG,bL,ap,au,R.ok_bind,hlen,h1,ca];rfl)]
 rw[aF (ρ':=[.val (gD ps),.val (.int who),.val (.tuple (gs.map .int)),.own (.list []),.non,.non]) (by rfl)];rw[aF (ρ':=gR ps c who gs [] (ids ps.length) .non) (by
  simp only[bp,aS,ay,aG,ap,R.ok_bind,h2];rfl)]
 rw[aF (ρ':=gR ps c who gs (dP ps who gs ps.length (ids ps.length)) [] c5) (by
  rw[dF];show jG (e9 (tE (e2 (hV rU) (e1 ci (ag 4)) (eC (.int 0)))) (ze c) 1000000 _)=_;rw[e];rfl)]
 unfold HI;show bQ _ (((gR ps c who gs (dP ps who gs ps.length (ids ps.length)) [] c5)).set 3 (.val (.list ((dP ps who gs ps.length (ids ps.length)).map (lr c ps.length)))))=_;simp only[List.set_cons_succ,List.set_cons_zero,da,aS,ay,aG,ap,au,R.ok_bind,h3]
structure yC(ps:List P4)(who:Int)(gs js:List Int)(l:List Sh)(win:Int->Int)(mv:Int->Option Int)(φ ψ:Int->Int):Prop where
 wins:∀f i,lY f l i=if i∈js then some (win i)else f i
 mvs:∀m i,(i∈js->m i=none)->sy m l i=if i∈js then mv i else m i
 two:∀i∈js,win i=who\/win i=1-who
 has:∀i∈js,aL ps i=win i->∃g,mv i=some g/\g∈bj ps i
 non:∀i∈js,aL ps i≠win i->mv i=none
 stay:∀i∈js,∀g,Wy ps js (win i) mv i g->g∈js/\win g=win i
 mine:∀i∈js,win i=who->i∉gs->∀g,Wy ps js who mv i g->φ g<φ i
 nn:∀i∈js,win i=1-who->0<=ψ i
 oth:∀i∈js,win i=1-who->∀g,Wy ps js (1-who) mv i g->ψ g<=ψ i/\(i∈gs->ψ g<ψ i)
theorem vI{ps:List P4}{who:Int}(h01:who=0\/who=1){gs:List Int}(hg:eh ps.length gs):∀(k:Nat) (js:List Int),eh ps.length js->ku ps js->js.length<=k->(∀i∈js,aL ps i=0\/aL ps i=1) ->
  ∃win mv φ ψ,yC ps who gs js (dP ps who gs k js) win mv φ ψ
 |k,[],_,_,_,_=>by
  have:dP ps who gs k []=[]:=by cases k<;>rfl
  rw[this];refine⟨λ_=>0,λ_=>none,λ_=>0,λ_=>0,⟨λf i=>by simp[lY],λm i _=>by simp[sy],?_,?_,?_,?_,?_,?_,?_⟩⟩<;>intro i hi<;>cases hi
 | 0,j::js,_,_,hk,_=>by simp at hk
 |k+1,j0::js0,hj,hw,hk,hown=>by
  obtain⟨js,ejs⟩:∃js,js=j0::js0:=⟨_,rfl⟩
  have hne:js≠[]:=by rw[ejs];simp
  rw[<-ejs]at hj hw hk hown ⊢;rw[show dP ps who gs (k+1) js=bS ps js who gs::dP ps who gs k (gS js (bS ps js who gs).pl)from if_neg hne];have A:=uv (who:=who) hj hg;by_cases ha:dk ps js who gs=[]
  ·have hs:bS ps js who gs=⟨who,js,df (je ps who (rK ps js who (bB gs js))) (cU ps who js)⟩:=if_pos ha;have hr:gS js (bS ps js who gs).pl=[]:=by rw[hs];exact rE js
   have hl:dP ps who gs k []=[]:=by cases k<;>rfl
   rw[hr,hl,hs];have hrk:∀i∈js,∃q,rK ps js who (bB gs js) i=some q:=λi hi=>by
    cases h:rK ps js who (bB gs js) i with
    |some q=>exact⟨q,rfl⟩
    |none=>
     have:=(nF (gs:=gs) (who:=who) hj).mpr ⟨hi,h⟩;rw[ha]at this;cases this
   have own:∀i∈js,aL ps i=who->∃q g,rK ps js who (bB gs js) i=some q/\df (je ps who (rK ps js who (bB gs js))) (cU ps who js) i=some g/\g∈bj ps i/\((0<q/\g∈js/\rK ps js who (bB gs js) g=some (q-1))\/(q=0/\g∈js)):=λi hi ho=>by
    obtain⟨q,hq⟩:=hrk i hi;obtain⟨g,g1,g2,g3⟩:=vM A (part:=js) hq ho λ_=>⟨hi,hw i hi⟩
    exact⟨q,g,hq,g1,g2,g3⟩
   have nom:∀i,(i∉js\/aL ps i≠who)->df (je ps who (rK ps js who (bB gs js))) (cU ps who js) i=none:=λi hi=>by
    unfold df;rw[mJ hi,nH]
    ·rfl
    ·rcases hi with hi|hi
     ·right;left;cases h:rK ps js who (bB gs js) i with
      |none=>rfl
      |some q=>exact(hi (A.sub i q h)).elim
     ·exact .inl hi
   refine⟨λ_=>who,df (je ps who (rK ps js who (bB gs js))) (cU ps who js),λi=>(rK ps js who (bB gs js) i).getD 0,λ_=>0,⟨λf i=>rfl,λm i hm=>?_,λi _=>.inl rfl,λi hi ho=>?_,λi _ ho=>nom i (.inr ho),λi hi g hgw=>⟨?_,rfl⟩,λi hi _ hgs g hgw=>?_,λi _ _=>by simp,λi _ h=>by omega⟩⟩
   ·show df m (df (je ps who (rK ps js who (bB gs js))) (cU ps who js)) i=_;by_cases hi:i∈js
    ·rw[if_pos hi];show(m i).or _=_;rw[hm hi,Option.none_or]
    ·rw[if_neg hi];show(m i).or _=_;rw[nom i (.inl hi),Option.or_none]
   ·obtain⟨q,g,_,g1,g2,_⟩:=own i hi ho;exact⟨g,g1,g2⟩
   ·rcases hgw with⟨ho,hm⟩| ⟨_,hm⟩
    ·obtain⟨q,g',_,g1,_,g3⟩:=own i hi ho;rw[g1]at hm;cases hm;rcases g3 with⟨_,z,_⟩| ⟨_,z⟩<;>exact z
    ·exact lv hm
   ·have hpos:∀q,rK ps js who (bB gs js) i=some q->0<q:=λq hq=>by
     have h0:=A.nneg i q hq;by_cases z:q=0
     ·subst z;exact(hgs (List.mem_filter.mp ((A.zero i).mp hq)).1).elim
     ·omega
    rcases hgw with⟨ho,hm⟩| ⟨ho,hm⟩
    ·obtain⟨q,g',hq,g1,_,g3⟩:=own i hi ho;rw[g1]at hm;cases hm;have:=hpos q hq;rcases g3 with⟨_,_,z⟩| ⟨z,_⟩
     ·show(rK ps js who (bB gs js) g).getD 0<(rK ps js who (bB gs js) i).getD 0;rw[hq,z];show q-1<q;omega
     ·omega
    ·obtain⟨q,hq⟩:=hrk i hi;obtain⟨t,t1,t2⟩:=(A.oth i q hq (hpos q hq) ho).2 g hm;show(rK ps js who (bB gs js) g).getD 0<(rK ps js who (bB gs js) i).getD 0;rw[hq,t1];exact t2
  ·-- the other one's share
   have hs:bS ps js who gs=⟨1-who,gf (rK ps js (1-who) (dk ps js who gs)) ps.length,df (je ps (1-who) (rK ps js (1-who) (dk ps js who gs))) (cU ps (1-who) (dk ps js who gs))⟩:=if_neg ha;have hless:=oW (gs:=gs) (who:=who) hj hne;have hrw:=oX (gs:=gs) (who:=who) hj hw;rw[hs]at hless hrw ⊢;have B:=lC (gs:=gs) (who:=who) hj;obtain⟨rk,erk⟩:∃rk,rk=rK ps js (1-who) (dk ps js who gs):=⟨_,rfl⟩
   obtain⟨aw,eaw⟩:∃aw,aw=dk ps js who gs:=⟨_,rfl⟩
   have maw:∀i,i∈aw<->i∈js/\rK ps js who (bB gs js) i=none:=λi=>by rw[eaw];exact nF hj
   have waw:∀i∈aw,aL ps i≠who->∃g,g∈cE ps aw i:=λi hi ho=>by rw[eaw]at hi ⊢;exact sM hj hg hw hi ho
   rw[<-eaw]at B hless hrw erk ⊢;rw[<-erk]at B hless hrw ⊢;have hle:∀i q,rk i=some q->q<=ps.length:=λi q h=>by rw[erk]at h;exact Jt hj.len h
   have memP:∀i,i∈gf rk ps.length<->∃q,rk i=some q:=λi=>by
    rw[gn];exact⟨λh=>h.2,λ⟨q,hq⟩=>⟨hj.inn i (B.sub i q hq),q,hq⟩⟩
   obtain⟨js',ejs'⟩:∃js',js'=gS js (gf rk ps.length):=⟨_,rfl⟩
   have mem':∀i,i∈js'<->i∈js/\rk i=none:=λi=>by
    rw[ejs',jt,memP];constructor
    ·rintro⟨h1,h2⟩;refine⟨h1,?_⟩;cases h:rk i with
     |none=>rfl
     |some q=>exact(h2 ⟨q,h⟩).elim
    ·rintro⟨h1,h2⟩;exact⟨h1,λ⟨q,hq⟩=>by rw[h2]at hq;cases hq⟩
   have hless':js'.length<js.length:=by rw[ejs'];exact hless
   obtain⟨win,mv,φ,ψ,I⟩:=vI h01 hg k js' (by rw[ejs'];exact hj.filter _) (by rw[ejs'];exact hrw) (by omega) λi hi=>hown i ((mem' i).mp hi).1
   rw[ejs']at I;rw[<-ejs']at I;have nom:∀i,rk i=none->df (je ps (1-who) rk) (cU ps (1-who) aw) i=none:=λi hi=>by
    unfold df;rw[nH (.inr (.inl hi)),mJ]
    ·rfl
    ·left;intro z;have:=(B.zero i).mpr z;rw[hi]at this;cases this
   have awP:∀i∈aw,rk i=some 0:=λi hi=>(B.zero i).mpr hi
   have own:∀i q,rk i=some q->aL ps i=1-who->∃g,df (je ps (1-who) rk) (cU ps (1-who) aw) i=some g/\g∈bj ps i/\((0<q/\g∈js/\rk g=some (q-1))\/(q=0/\g∈aw)):=λi q hq ho=>
    vM B (part:=aw) hq ho λh0=>by
     have hi:i∈aw:=(B.zero i).mp (by rw[hq,h0]);exact⟨hi,waw i hi (by omega)⟩
   -- from a place of the share
   have goP:∀i q g,rk i=some q->Wy ps js (1-who) (df (je ps (1-who) rk) (cU ps (1-who) aw)) i g->∃t,rk g=some t/\t<=q/\(i∈gs->t<q):=λi q g hq hgw=>by
    have hi:=B.sub i q hq;have hgs0:q=0->i∉gs:=λh0 z=>by
     have hi':i∈aw:=(B.zero i).mp (by rw[hq,h0]);have h1:=((maw i).mp hi').2;have:=(A.zero i).mpr (List.mem_filter.mpr ⟨z,cN.mpr hi⟩);rw[h1]at this;cases this
    have hq0:=B.nneg i q hq;rcases hgw with⟨ho,hm⟩| ⟨ho,hm⟩
    ·obtain⟨g',g1,_,g3⟩:=own i q hq ho;rw[g1]at hm;cases hm;rcases g3 with⟨z1,_,z2⟩| ⟨z1,z2⟩
     ·exact⟨q-1,z2,by omega,λ_=>by omega⟩
     ·exact⟨0,awP g z2,by omega,λz=>(hgs0 z1 z).elim⟩
    ·by_cases hp:0<q
     ·obtain⟨t,t1,t2⟩:=(B.oth i q hq hp ho).2 g hm;exact⟨t,t1,by omega,λ_=>t2⟩
     ·have h0:q=0:=by omega
      have hi':i∈aw:=(B.zero i).mp (by rw[hq,h0]);have how:aL ps i=who:=by have:=hown i hi;omega
      have:=A.outO i hi ((maw i).mp hi').2 how g hm;exact⟨0,awP g ((maw g).mpr ⟨lv hm,this⟩),by omega,λz=>(hgs0 h0 z).elim⟩
   have hPs:∀{i q},rk i=some q->i∈js/\i∉js':=λ{i q} hq=>⟨B.sub i q hq,λz=>by have:=((mem' i).mp z).2;rw[hq]at this;cases this⟩
   -- from a place that is left
   have goR:∀i g,i∈js'->Wy ps js (win i) mv i g->(g∈js'/\Wy ps js' (win i) mv i g)\/(win i=1-who/\∃t,rk g=some t):=λi g hi hgw=>by
    obtain⟨hi1,hi2⟩:=(mem' i).mp hi;rcases hgw with⟨ho,hm⟩| ⟨ho,hm⟩
    ·have w:Wy ps js' (win i) mv i g:=.inl ⟨ho,hm⟩;exact .inl ⟨(I.stay i hi g w).1,w⟩
    ·cases hr:rk g with
     |none=>
      have hg':g∈js':=(mem' g).mpr ⟨lv hm,hr⟩;exact .inl ⟨hg',.inr ⟨ho,u8 (oQ hm) hg'⟩⟩
     |some t=>
      right;refine⟨?_,t,rfl⟩;rcases I.two i hi with z|z
      ·have how:aL ps i=1-who:=by have:=hown i hi1;omega
       have:=B.outO i hi1 hi2 how g hm;rw[hr]at this;cases this
      ·exact z
   have wcongr:∀{i g} {m1 m2:Int->Option Int} {w:Int} {K:List Int},m1 i=m2 i->Wy ps K w m1 i g->Wy ps K w m2 i g:=λe h=>by
    rcases h with⟨a,b⟩|h
    ·exact .inl ⟨a,by rw[<-e];exact b⟩
    ·exact .inr h
   refine⟨λi=>if(rk i).isSome then 1-who else win i,λi=>if(rk i).isSome then df (je ps (1-who) rk) (cU ps (1-who) aw) i else mv i,φ,λi=>match rk i with|some q=>q|none=>ψ i+(ps.length+1),?_⟩;have atP:∀{i q},rk i=some q->(if(rk i).isSome then(1-who:Int)else win i)=1-who:=λh=>by rw[h];rfl
   have atR:∀{i},rk i=none->(if(rk i).isSome then(1-who:Int)else win i)=win i:=λh=>by rw[h];rfl
   have mtP:∀{i q},rk i=some q->(if(rk i).isSome then df (je ps (1-who) rk) (cU ps (1-who) aw) i else mv i)=df (je ps (1-who) rk) (cU ps (1-who) aw) i:=λh=>by rw[h];rfl
   have mtR:∀{i},rk i=none->(if(rk i).isSome then df (je ps (1-who) rk) (cU ps (1-who) aw) i else mv i)=mv i:=λh=>by rw[h];rfl
   refine⟨λf i=>?_,λm i hm=>?_,λi hi=>?_,λi hi ho=>?_,λi hi ho=>?_,λi hi g hgw=>?_,λi hi hwi hgs g hgw=>?_,λi hi hwi=>?_,λi hi hwi g hgw=>?_⟩
   ·show lY (DH ⟨1-who,gf rk ps.length,df (je ps (1-who) rk) (cU ps (1-who) aw)⟩ f) (dP ps who gs k (gS js (gf rk ps.length))) i=_;rw[<-ejs',I.wins];cases hr:rk i with
    |some q=>
     rw[if_neg (hPs hr).2,if_pos (hPs hr).1];show(if i∈gf rk ps.length then some (1-who)else f i)=_;rw[if_pos ((memP i).mpr ⟨q,hr⟩)];rfl
    |none=>
     by_cases hi:i∈js
     ·rw[if_pos ((mem' i).mpr ⟨hi,hr⟩),if_pos hi];rfl
     ·rw[if_neg λz=>hi ((mem' i).mp z).1,if_neg hi];show(if i∈gf rk ps.length then some (1-who)else f i)=_;rw[if_neg λz=>by obtain⟨q,hq⟩:=(memP i).mp z;rw[hr]at hq;cases hq]
   ·show sy (df m (df (je ps (1-who) rk) (cU ps (1-who) aw))) (dP ps who gs k (gS js (gf rk ps.length))) i=_;rw[<-ejs',I.mvs (df m (df (je ps (1-who) rk) (cU ps (1-who) aw))) i λz=>by
     obtain⟨z1,z2⟩:=(mem' i).mp z;show(m i).or _=none;rw[hm z1,Option.none_or,nom i z2]]
    cases hr:rk i with
    |some q=>
     rw[if_neg (hPs hr).2,if_pos (hPs hr).1];show(m i).or _=_;rw[hm (hPs hr).1,Option.none_or];rfl
    |none=>
     by_cases hi:i∈js
     ·rw[if_pos ((mem' i).mpr ⟨hi,hr⟩),if_pos hi];rfl
     ·rw[if_neg λz=>hi ((mem' i).mp z).1,if_neg hi];show(m i).or _=_;rw[nom i hr,Option.or_none]
   ·cases hr:rk i with
    |some q=>exact .inr rfl
    |none=>exact I.two i ((mem' i).mpr ⟨hi,hr⟩)
   ·cases hr:rk i with
    |some q=>
     have ho':aL ps i=1-who:=ho.trans (atP hr);obtain⟨g,g1,g2,_⟩:=own i q hr ho';exact⟨g,g1,g2⟩
    |none=>exact I.has i ((mem' i).mpr ⟨hi,hr⟩) (ho.trans (atR hr))
   ·cases hr:rk i with
    |some q=>
     have ho':aL ps i≠1-who:=λz=>ho (z.trans (atP hr).symm)
     show df _ _ i=none;unfold df;rw[nH (.inl ho'),mJ (.inr ho')];rfl
    |none=>exact I.non i ((mem' i).mpr ⟨hi,hr⟩) λz=>ho (z.trans (atR hr).symm)
   ·cases hr:rk i with
    |some q=>
     rw[atP hr]at hgw;obtain⟨t,t1,_⟩:=goP i q g hr (wcongr (mtP hr) hgw);refine⟨(hPs t1).1,?_⟩;rw[atP t1];rfl
    |none=>
     have hi':=(mem' i).mpr ⟨hi,hr⟩;rw[atR hr]at hgw;rcases goR i g hi' (wcongr (mtR hr) hgw)with⟨z1,z2⟩| ⟨z1,t,z2⟩
     ·obtain⟨y1,y2⟩:=(mem' g).mp z1;refine⟨y1,?_⟩;rw[atR y2];exact(I.stay i hi' g z2).2
     ·refine⟨(hPs z2).1,?_⟩;rw[atP z2];exact z1.symm
   ·cases hr:rk i with
    |some q=>rw[atP hr]at hwi;omega
    |none=>
     have hi':=(mem' i).mpr ⟨hi,hr⟩;rw[atR hr]at hwi;rcases goR i g hi' (by rw[hwi];exact wcongr (mtR hr) hgw)with⟨z1,z2⟩| ⟨z1,_⟩
     ·rw[hwi]at z2;exact I.mine i hi' hwi hgs g z2
     ·omega
   ·cases hr:rk i with
    |some q=>exact B.nneg i q hr
    |none=>
     have:=I.nn i ((mem' i).mpr ⟨hi,hr⟩) ((atR hr).symm.trans hwi);show 0<=ψ i+_;omega
   ·cases hr:rk i with
    |some q=>
     obtain⟨t,t1,t2,t3⟩:=goP i q g hr (wcongr (mtP hr) hgw);show(match rk g with|some q=>q|none=>_)<=q/\(i∈gs->(match rk g with|some q=>q|none=>_)<q)
     rw[t1];exact⟨t2,t3⟩
    |none=>
     have hi':=(mem' i).mpr ⟨hi,hr⟩;rw[atR hr]at hwi;show(match rk g with|some q=>q|none=>ψ g+(ps.length+1))<=ψ i+(ps.length+1)/\(i∈gs->(match rk g with|some q=>q|none=>ψ g+(ps.length+1))<ψ i+(ps.length+1))
     rcases goR i g hi' (by rw[hwi];exact wcongr (mtR hr) hgw)with⟨z1,z2⟩| ⟨_,t,z2⟩
     ·rw[hwi]at z2;obtain⟨y1,y2⟩:=I.oth i hi' hwi g z2;rw[((mem' g).mp z1).2];exact⟨by show ψ g+_<=_;omega,λz=>by have:=y2 z;show ψ g+_<_;omega⟩
     ·rw[z2];have h1:=hle g t z2;have h2:=I.nn i hi' hwi;exact⟨by show t<=_;omega,λ_=>by show t<_;omega⟩
def Hi(ps:List P4)(i:Int):Qa:=(ps[i.toNat]?.map P4.d).getD .none
theorem B5(ps:List P4):ps.map P4.d=cG (Hi ps) ps.length:=by
 refine List.ext_getElem (by rw[Qd,bH]) λk h1 h2=>?_
 rw[bH]at h2;have e:=g9 (f:=Hi ps) (n:=ps.length) (i:=(k:Int)) (by omega) (by omega);simp only[Int.toNat_natCast]at e;rw[e,List.getElem_map];unfold Hi;rw[List.getElem?_eq_getElem (by omega)];simp
structure St where
 g:Int
 st:List Int
def St.d(s:St):Qa:=.tuple [.int s.g,.tuple (s.st.map .int)]
abbrev wD(ss:List St):Qa:=.tuple (ss.map St.d)
structure Wt(ss:List St):Prop where
 g0:∀s∈ss,0<=s.g/\s.g<=1
 l:∀s∈ss,s.st.length=13
 inn:∀s∈ss,∀x∈s.st,0<=x/\x<ss.length
 n0:1<=ss.length
 n1:ss.length<=6
def rN(c:Int):Qa->Bool
 |.tuple ds=>decide (ds.length=13)&&ds.all λd=>wP d 0 (c-1)
 | _=>false
def kq(c:Int):Qa->Bool
 |.tuple [g,s]=>wP g 0 1&&rN c s
 | _=>false
def sD:Qa->Bool
 |.tuple ds=>(decide (1<=ds.length)&&decide (ds.length<=6))&&ds.all (kq ds.length)
 | _=>false
def jl(a b:Int):Qa->Bool
 |.tuple ds=>decide (a<=ds.length)&&decide ((ds.length:Int)<=b)
 | _=>false
theorem iX{d:Qa}(h:noD d)(a b:Int):aM [d,.int a,.int b]=.ok (.bool (jl a b d)):=by
 unfold aM i4;rw[fN];cases d with
 |tuple ds=>
  by_cases h1:a<=ds.length<;>simp[gL,GT,h1,jl]
 |dict k=>cases h
 | _=>simp[gL,GT,jl]
theorem ur{d:Qa}(hg:fK d)(c:Int):eB [d,.int c]=.ok (.bool (rN c d)):=by
 unfold eB kI;rw[fN];have ht:=iX hg.noD 13 13;cases d with
 |tuple ds=>
  have h:=eP.mp hg;have s13:13<=sizeLine:=by decide
  by_cases hl:ds.length=13
  ·have hb:jl 13 13 (.tuple ds)=true:=by simp[jl];omega
   have hc:bJ (aE 0) (λ_=>.ok true) (aC aW (ai (ag 0) (ai (eC (.int 0)) (ai (e2 mm (ag 1) (eC (.int 1))) az)))) (aB 1 [1] [.val (.tuple ds),.val (.int c)]) ds=.ok (ds.map λd=>.bool (wP d 0 (c-1))):=
    eA _ _ _ _ _ λd hd=>by simp[aB,Qi,jT (h d hd).noD]
   simp[ht,hb,bg,s13,hc,pP,pY,rN,hl]
  ·have hb:jl 13 13 (.tuple ds)=false:=by simp[jl];omega
   simp[ht,hb,rN,hl]
 |dict k=>exact hg.noD.elim
 | _=>simp[ht,jl,rN]
theorem we{d:Qa}(hg:fK d)(c:Int):eM [d,.int c]=.ok (.bool (kq c d)):=by
 unfold eM l0;rw[fN];have ht:=iX hg.noD 2 2;cases d with
 |tuple ds=>
  match ds,hg,ht with
  | [g,s],hg,ht=>
   have h:=eP.mp hg;have i0:aX (.tuple [g,s]) (.int 0)=.ok g:=rfl;have i1:aX (.tuple [g,s]) (.int 1)=.ok s:=rfl;have hb:jl 2 2 (.tuple [g,s])=true:=rfl;simp[ht,hb,i0,i1,jT (h g (by simp)).noD,ur (h s (by simp)),kq];cases wP g 0 1<;>simp
  | [],_,ht=>simp[ht,jl,kq]
  | [a],_,ht=>simp[ht,jl,kq]
  |a::b::e::r,_,ht=>
   have hb:jl 2 2 (.tuple (a::b::e::r))=false:=by simp[jl];omega
   simp[ht,hb,kq]
 |dict k=>exact hg.noD.elim
 | _=>simp[ht,jl,kq]
theorem lX{d:Qa}(hg:fK d):dD [d]=.ok (.bool (sD d)):=by
 unfold dD jK;rw[fN];have ht:=iX hg.noD 1 6;cases d with
 |tuple ds=>
  have h:=eP.mp hg;by_cases hl:1<=ds.length/\ds.length<=6
  ·have hb:jl 1 6 (.tuple ds)=true:=by simp[jl];omega
   have hc:bJ (aE 0) (λ_=>.ok true) (aC eM (ai (ag 0) (ai (e1 ci (ag 1)) az))) (aB 1 [0] [.val (.tuple ds)]) ds=.ok (ds.map λd=>.bool (kq ds.length d)):=
    eA _ _ _ _ _ λd hd=>by simp[aB,Qi,we (h d hd)]
   simp[ht,hb,bg,bG (show ds.length<=1000 by omega),hc,pP,pY,sD,hl.1,hl.2]
  ·have hb:jl 1 6 (.tuple ds)=false:=by
    simp[jl];omega
   have hw:sD (.tuple ds)=false:=by
    show((decide (1<=ds.length)&&decide (ds.length<=6))&&_)=false;by_cases h1:1<=ds.length
    ·rw[decide_eq_false (show ¬ds.length<=6 by omega)];simp
    ·rw[decide_eq_false h1];simp
   simp[ht,hb,hw]
 |dict k=>exact hg.noD.elim
 | _=>simp[ht,jl,sD]
theorem yT{i lo hi:Int}(h0:lo<=i)(h1:i<=hi):wP (.int i) lo hi=true:=by simp[wP,h0,h1]
theorem Wt.wat{ss:List St}(W:Wt ss):sD (wD ss)=true:=by
 show((decide (1<=(ss.map St.d).length)&&decide ((ss.map St.d).length<=6))&&(ss.map St.d).all (kq (ss.map St.d).length))=true;rw[Qd,decide_eq_true W.n0,decide_eq_true W.n1,Bool.true_and,Bool.true_and,List.all_map,List.all_eq_true];intro s hs;have hb:=W.g0 s hs;show(wP (.int s.g) 0 1&&(decide ((s.st.map Qa.int).length=13)&&(s.st.map Qa.int).all λd=>wP d 0 ((ss.length:Int)-1)))=true;rw[yT hb.1 hb.2,Qd,decide_eq_true (W.l s hs),Bool.true_and,Bool.true_and,List.all_map,List.all_eq_true];intro x hx;have:=W.inn s hs x hx;exact yT this.1 (by omega)
theorem St.nice{s:St}(h:0<=s.g/\s.g<=1)(hl:s.st.length=13)(hi:∀x∈s.st,0<=x/\x<6):vn s.d:=by
 refine .tuple _ (by simp) λx hx=>?_
 simp at hx;rcases hx with rfl|rfl
 ·exact .int _ (by omega) (by omega)
 ·refine .tuple _ (by simp;omega) λx hx=>?_
  obtain⟨i,hm,rfl⟩:=List.mem_map.mp hx;have:=hi i hm;exact .int _ (by omega) (by omega)
theorem Wt.nice{ss:List St}(W:Wt ss):vn (wD ss):=by
 have:=W.n1;refine .tuple _ (by simp;omega) λx hx=>?_
 obtain⟨s,hs,rfl⟩:=List.mem_map.mp hx;exact St.nice (W.g0 s hs) (W.l s hs) λx hx=>by have:=W.inn s hs x hx;omega
theorem Wt.good{ss:List St}(W:Wt ss):fK (wD ss):=W.nice.good
theorem rM(s:St):aX s.d (.int 1)=.ok (.tuple (s.st.map .int)):=rfl
theorem Dm(s:St):aX s.d (.int 0)=.ok (.int s.g):=rfl
def dz(ss:List St)(i m:Int):Int:=((ss[i.toNat]?.map (·.st)).getD []).getD m.toNat 0
theorem wK{ss:List St}{i:Int}(h0:0<=i)(h1:i<ss.length):aX (wD ss) (.int i)=.ok (ss[i.toNat]'(by omega)).d:=by
 rw[vR h0 (by simpa using h1)];simp
theorem nU{ss:List St}{i m:Int}(h0:0<=i)(h1:i<ss.length):dz ss i m=(ss[i.toNat]'(by omega)).st.getD m.toNat 0:=by
 unfold dz;rw[List.getElem?_eq_getElem (by omega)];rfl
theorem qa{xs:List Int}{m:Int}(h0:0<=m)(h1:m<xs.length):aX (.tuple (xs.map .int)) (.int m)=.ok (.int (xs.getD m.toNat 0)):=by
 rw[vR h0 (by simpa using h1)];simp[List.getD,List.getElem?_eq_getElem (show m.toNat<xs.length by omega)]
theorem Wt.ix{ss:List St}(W:Wt ss){i m:Int}(h0:0<=i)(h1:i<ss.length)(m0:0<=m)(m1:m<13) :
  ∃s:St,aX (wD ss) (.int i)=.ok s.d/\aX (.tuple (s.st.map .int)) (.int m)=.ok (.int (dz ss i m)):=by
 have hl:=W.l _ (List.getElem_mem (show i.toNat<ss.length by omega));exact⟨_,wK h0 h1,by rw[qa m0 (by omega),nU h0 h1]⟩
theorem Wt.step{ss:List St}(W:Wt ss){i m:Int}(h0:0<=i)(h1:i<ss.length)(m0:0<=m)(m1:m<13):0<=dz ss i m/\dz ss i m<ss.length:=by
 have hm:=List.getElem_mem (show i.toNat<ss.length by omega);have hl:=W.l _ hm;rw[nU h0 h1];refine W.inn _ hm _ ?_;rw[List.getD,List.getElem?_eq_getElem (show m.toNat<(ss[i.toNat]'(by omega)).st.length by omega)];exact List.getElem_mem _
def ig(g:List Int)(k:Int):List Int:=(ids 13).map λm=>if e8 g m then k+1 else k
theorem wG(g:List Int)(k:Int):eO [.tuple (g.map .int),.int k]=.ok (.tuple ((ig g k).map .int)):=by
 unfold eO l6;rw[fN];have hr:lU [.int 13]=.ok (bM 0 13):=rfl;have hc:=mB (λm=>.int (if e8 g m then k+1 else k)) (aB 1 [0,1] [.val (.tuple (g.map .int)),.val (.int k)]) (DR (tE (e2 (pZ false) (ag 0) (ag 1))) (e2 eG (ag 2) (eC (.int 1))) (ag 2)) 13 λi _ _=>by
  cases hm:e8 g i<;>simp[aB,Qi,GQ,hm]
 have s13:(13:Nat)<=sizeLine:=by decide
 have e:cG (λm=>Qa.int (if e8 g m then k+1 else k)) 13=(ig g k).map .int:=by
  unfold cG ig;rw[List.map_map];rfl
 rw[e]at hc;simp[bg,hr,dU,s13,hc]
abbrev EF(gs:List (List Int)):Qa:=.tuple (gs.map λg=>.tuple (g.map .int))
structure Gs(gs:List (List Int)):Prop where
 n0:1<=gs.length
 n1:gs.length<=5
 ok:∀g∈gs,eh 13 g
def nG:Nat->List (List Int)->List St
 | _,[]=>[]
 |k,g::gs=>⟨0,ig g k⟩::nG (k+1) gs
def G5(gs:List (List Int)):List St:=nG 0 gs++[⟨1,ig (gs.headD []) 0⟩]
theorem rl:∀(k:Nat) (gs:List (List Int)),(nG k gs).length=gs.length
 | _,[]=>rfl
 |k,g::gs=>by simp[nG,rl (k+1) gs]
theorem uQ(gs:List (List Int)):(G5 gs).length=gs.length+1:=by simp[G5,rl]
theorem yp(g:List Int)(k:Int):(ig g k).length=13:=by simp[ig]
theorem yq{g:List Int}{k x:Int}(h:x∈ig g k):x=k\/x=k+1:=by
 obtain⟨m,_,rfl⟩:=List.mem_map.mp h;split
 ·exact .inr rfl
 ·exact .inl rfl
theorem wp:∀(k:Nat) (gs:List (List Int)) (s:St),s∈nG k gs->s.g=0/\∃j g,k<=j/\j<k+gs.length/\s.st=ig g (j:Nat)
 |k,[],s,h=>by cases h
 |k,g::gs,s,h=>by
  rcases List.mem_cons.mp h with rfl|h
  ·exact⟨rfl,k,g,Nat.le_refl _,by simp,rfl⟩
  ·obtain⟨h1,j,g',h2,h3,h4⟩:=wp (k+1) gs s h;exact⟨h1,j,g',by omega,by rw[List.length_cons];omega,h4⟩
theorem G6{gs:List (List Int)}(h:Gs gs):Wt (G5 gs):=by
 have h0:=h.n0;have h1:=h.n1;have hm:∀s∈G5 gs,(s.g=0\/s.g=1)/\∃(j:Nat) (g:List Int),j<gs.length/\s.st=ig g j:=λs hs=>by
  rcases List.mem_append.mp hs with z|z
  ·obtain⟨a,j,g,b,c,d⟩:=wp 0 gs s z;exact⟨.inl a,j,g,by omega,d⟩
  ·simp at z;subst z;exact⟨.inr rfl,0,gs.headD [],by omega,by simp⟩
 refine⟨λs hs=>?_,λs hs=>?_,λs hs x hx=>?_,by rw[uQ];omega,by rw[uQ];omega⟩
 ·rcases(hm s hs).1 with z|z<;>omega
 ·obtain⟨_,j,g,_,e⟩:=hm s hs;rw[e,yp]
 ·obtain⟨_,j,g,hj,e⟩:=hm s hs;rw[e]at hx;rw[uQ];rcases yq hx with z|z<;>omega
theorem zx:∀(gs:List (List Int)) (k:Nat),bJ (fT 0 1) (λ_=>.ok true) (gM (ai (eC (.int 0)) (ai (aC eO (ai (ag 1) (ai (ag 0) az))) az))) [.non,.non] (dR k (gs.map λg=>Qa.tuple (g.map .int)))=.ok ((nG k gs).map St.d)
 | [],k=>by simp[dR,dM,nG]
 |g::gs,k=>by
  have e:dR k ((g::gs).map λg=>Qa.tuple (g.map .int))=.tuple [.int k,.tuple (g.map .int)]::dR (k+1) (gs.map λg=>Qa.tuple (g.map .int)):=rfl;have s2:2<=sizeLine:=by decide
  rw[e,jU,zx gs (k+1)];simp[wG,s2,nG,St.d]
theorem iD(xs:List Qa):∀k,(dR k xs).length=xs.length:=by
 induction xs with
 |nil=>intro k;rfl
 |cons x xs ih=>intro k;show(_::dR (k+1) xs).length=_;simp[ih]
theorem A9{n:Nat}{js:List Int}(h:eh n js):zX n (.tuple (js.map .int))=true:=uX n js 0 h.lt h.inn
theorem sE{gs:List (List Int)}(h:Gs gs):di [EF gs]=.ok (wD (G5 gs)):=by
 have h0:=h.n0;have h1:=h.n1;have ht:=iX (d:=EF gs) trivial 1 5;have hb:jl 1 5 (EF gs)=true:=by simp[jl];omega
 have hc:bJ (aE 0) (λ_=>.ok true) (aC cr (ai (ag 0) (ai (eC (.int 13)) az))) [.non] (gs.map λg=>Qa.tuple (g.map .int))=.ok ((gs.map λg=>Qa.tuple (g.map .int)).map λd=>.bool (zX 13 d)):=
  eA _ _ _ _ _ λd hd=>by
   obtain⟨g,hg,rfl⟩:=List.mem_map.mp hd;have hs:=oV 13 (d:=.tuple (g.map .int)) (λds e x hx=>((eP.mp (e▸zZ g)) x hx).noD) (zZ g).noD;simp[hs]
 have ha:D2.pO ((gs.map λg=>Qa.tuple (g.map .int)).map λd=>.bool (zX 13 d))=some true:=by
  rw[pY];congr 1;rw[List.all_map,List.all_eq_true];intro g hg;exact A9 (n:=13) (h.ok g hg)
 have hsz:(gs.map λg=>Qa.tuple (g.map .int)).length<=sizeLine:=bG (by simp;omega);have hsz2:(dR 0 (gs.map λg=>Qa.tuple (g.map .int))).length<=sizeLine:=by rw[iD];exact hsz
 have hm:=zx gs 0;have s1:1<=sizeLine:=by decide
 have s2:2<=sizeLine:=by decide
 unfold di jO;refine eJ ?_;rw[show([EF gs].map ba.val++Qi (2 - [EF gs].length) ba.non)=[.val (EF gs),.non]from rfl];rw[aF (ρ':=[.val (EF gs),.non]) (by
  simp only[cj,kr,fB,bT,aS,ay,aG,ap,bA,bf,xy,R.ok_bind,show(6-1:Int)=5 from rfl,ht,hb,ca,bL,bg,bV,dG,cb,if_pos hsz,aB,Qi,List.map_nil,List.append_nil,hc,iq,pP,ha];rfl)]
 rw[aF (ρ':=[.val (EF gs),.val (.list ((nG 0 gs).map St.d))]) (by
  simp only[bp,bg,nD,ap,R.ok_bind,dG,cb,if_pos hsz2,aB,Qi,List.map_nil,List.append_nil,hm,iq];rfl)]
 cases gs with
 |nil=>simp at h0
 |cons g gs=>
  have hl:(nG 0 (g::gs)).length=gs.length+1:=by rw[rl];rfl
  have hsum:((nG 0 (g::gs)).map St.d).length+1<=sizeLine:=bG (by rw[Qd,hl];simp at h1;omega);have i0:aX (.list ((nG 0 (g::gs)).map St.d)) (.int 0)=.ok (St.d ⟨0,ig g (0:Nat)⟩):=by
   rw[vQ (by omega) (by rw[Qd,hl];omega)];rfl
  simp only[da,bf,bL,ap,au,R.ok_bind,nC,gy,ay,aG,bA,i0,rM,List.length_cons,List.length_nil,Nat.zero_add,if_pos s1,if_pos s2,GD,if_pos hsum];have e:wD (G5 (g::gs))=.tuple ((nG 0 (g::gs)).map St.d++[St.d ⟨1,ig g 0⟩]):=by
   show Qa.tuple ((nG 0 (g::gs)++[_]).map St.d)=_;rw[List.map_append];rfl
  rw[e];rfl
theorem sX{f:Fe}{ρ:aV}{h:Int->Int}:∀ns:List Int,(∀x∈ns,f (.val (.int x)::ρ)=.ok (.int (h x)))->bJ (aE 0) (λ_=>.ok true) f (.non::ρ) (ns.map .int)=.ok ((ns.map h).map .int)
 | [],_=>dM ..
 |x::ns,hh=>by
  rw[List.map_cons,fi,sX ns λy hy=>hh y (Qf _ hy)];show(R.ok true>>=λk=>if k=true then f (.val (.int x)::ρ)>>=λx=>R.ok ((ns.map h).map .int)>>=λxs=>.ok (x::xs)else _)=_;rw[hh x List.mem_cons_self];rfl
theorem CG{f:Fe}{ρ:aV}{h:P4->P4}:∀qs:List P4,(∀q∈qs,f (.val q.d::ρ)=.ok (h q).d)->bJ (aE 0) (λ_=>.ok true) f (.non::ρ) (qs.map P4.d)=.ok ((qs.map h).map P4.d)
 | [],_=>dM ..
 |q::qs,hh=>by
  rw[List.map_cons,fi,CG qs λy hy=>hh y (Qf _ hy)];show(R.ok true>>=λk=>if k=true then f (.val q.d::ρ)>>=λx=>R.ok ((qs.map h).map P4.d)>>=λxs=>.ok (x::xs)else _)=_;rw[hh q List.mem_cons_self];rfl
theorem Dl{L:List Int}(h:L.length<64):jW (.list (L.map .int))=.ok (.list ((fA L).map .int)):=by
 show(match eZ (L.map .int)with|some ns=>if ns.length<64 then R.ok (Qa.list ((fA ns).map Qa.int))else .no|none=>.no)=_;rw[k7];exact if_pos h
def Gg(p:P4)(L:List Int):P4:=⟨p.w,p.m,p.g,L⟩
theorem sF(p:P4)(L:List Int):dE [p.d,.list (L.map .int)]=.ok (Gg p L).d:=by
 have s4:4<=sizeLine:=by decide
 have i2:aX p.d (.int 2)=.ok (.int p.g):=rfl;unfold dE jP;refine eJ ?_;rw[show([p.d,Qa.list (L.map .int)].map ba.val++Qi (2 - [p.d,Qa.list (L.map .int)].length) ba.non)=[.val p.d,.val (.list (L.map .int))]from rfl];simp only[da,gy,ay,aG,bf,bL,ap,au,bA,R.ok_bind,oH,xZ,i2,nC,List.length_cons,List.length_nil,Nat.zero_add,Nat.reduceAdd,if_pos s4];rfl
def K3(ps:List P4)(s:St)(p:P4):List Int:=fA (p.ns.map λg=>s.st.getD (aU ps g).toNat 0*ps.length+g)
def kB(ps:List P4)(s:St)(p:P4):P4:=Gg p (K3 ps s p)
section
variable{ps:List P4}(G:Gr ps)(hm:∀i∈ids ps.length,0<=aU ps i/\aU ps i<13)
include G hm in
theorem x6{s:St}{p:P4}(hl:s.st.length=13)(hb:∀x∈s.st,0<=x/\x<6)(hp:p∈ps)(h64:p.ns.length<64):ez [gD ps,s.d,p.d]=.ok (kB ps s p).d:=by
 have hn:=G.hp;have hlen:ci (gD ps)=.ok (.int ps.length):=by simp
 have hc:=sX (f:=e2 eG (e2 eY (e2 aX (e2 aX (ag 1) (eC (.int 1))) (e2 aX (e2 aX (ag 2) (ag 0)) (eC (.int 1)))) (e1 ci (ag 2))) (ag 0)) (ρ:=[.val s.d,.val (gD ps)]) (h:=λg=>s.st.getD (aU ps g).toNat 0*ps.length+g) p.ns λg hg=>by
  obtain⟨g0,g1⟩:=G.hgo p hp g hg;obtain⟨m0,m1⟩:=hm g (bW.mpr ⟨g0,g1⟩);have e1':=qa (xs:=s.st) m0 (by omega);have e2':eY (.int (s.st.getD (aU ps g).toNat 0)) (.int ps.length)=.ok (.int (s.st.getD (aU ps g).toNat 0*ps.length)):=gV (.inr (by omega));simp only[bf,bL,ap,au,bA,R.ok_bind,rM,ky g0 g1,xZ,<-oB g0 g1,e1',hlen,e2',xu]
 have hw:=sF p (K3 ps s p);have hs:=Dl (L:=p.ns.map λg=>s.st.getD (aU ps g).toNat 0*ps.length+g) (by rw[Qd];exact h64);unfold ez nZ;refine eJ ?_;rw[show([gD ps,s.d,p.d].map ba.val++Qi (4 - [gD ps,s.d,p.d].length) ba.non)=[.val (gD ps),.val s.d,.val p.d,.non]from rfl];rw[aF (ρ':=[.val (gD ps),.val s.d,.val p.d,.val (.list ((p.ns.map λg=>s.st.getD (aU ps g).toNat 0*ps.length+g).map .int))]) (by
  rw[bp,bg,show aB 1 [1,0] [.val (gD ps),.val s.d,.val p.d,.non]=[.non,.val s.d,.val (gD ps)]from rfl];simp only[bV,bf,ap,au,bA,R.ok_bind,rA,dG,cb];rw[if_pos (bG (by rw[Qd];omega)),hc];rfl)]
 simp only[da,aS,ay,aG,bL,ap,au,R.ok_bind,hs];rw[show fA (p.ns.map λg=>s.st.getD (aU ps g).toNat 0*ps.length+g)=K3 ps s p from rfl,hw];rfl
def dZ(ps:List P4):List St->List P4
 | []=>[]
 |s::ss=>ps.map (kB ps s)++dZ ps ss
theorem jv:∀ss:List St,(dZ ps ss).length=ss.length*ps.length
 | []=>by simp[dZ]
 |s::ss=>by rw[dZ,List.length_append,Qd,jv ss,List.length_cons,Nat.succ_mul,Nat.add_comm]
def qP:Fs:=(nR 2 (bD (dY (ag 0)) 1 [0,3] (aE 0) (λ_=>.ok true) (aC ez (ai (ag 1) (ai (ag 2) (ai (ag 0) az))))))
include G hm in
theorem zg(h64:∀p∈ps,p.ns.length<64)(w:Qa):∀(ss:List St) (acc:List P4) (c:ba),(∀s∈ss,s.st.length=13/\∀x∈s.st,0<=x/\x<6)->acc.length+ss.length*ps.length<=1000 ->
  ∃c',gc (aE 3) qP (ss.map St.d) [.val (gD ps),.val w,.own (.list (acc.map P4.d)),c]=.ok (.nx [.val (gD ps),.val w,.own (.list ((acc++dZ ps ss).map P4.d)),c'])
 | [],acc,c,_,_=>⟨c,by rw[List.map_nil,dw,dZ,List.append_nil]⟩
 |s::ss,acc,c,hs,hl=>by
  have hn:=G.hp;rw[List.length_cons,Nat.succ_mul]at hl;obtain⟨c',e⟩:=zg h64 w ss (acc++ps.map (kB ps s)) (.val s.d) (λt ht=>hs t (Qf _ ht)) (by rw[List.length_append,Qd];omega);refine⟨c',?_⟩;have hc:=CG (f:=aC ez (ai (ag 1) (ai (ag 2) (ai (ag 0) az)))) (ρ:=[.val (gD ps),.val s.d]) (h:=kB ps s) ps λq hq=>by
   have:=x6 G hm (hs s List.mem_cons_self).1 (hs s List.mem_cons_self).2 hq (h64 q hq);simp only[aS,ay,aG,ap,au,R.ok_bind,this]
  rw[List.map_cons,bY];rw[List.append_assoc]at e;rw[show dZ ps (s::ss)=ps.map (kB ps s)++dZ ps ss from rfl,<-e];show(qP [.val (gD ps),.val w,.own (.list (acc.map P4.d)),.val s.d]>>=_)=_;have hb:qP [.val (gD ps),.val w,.own (.list (acc.map P4.d)),.val s.d]=.ok (.nx [.val (gD ps),.val w,.own (.list ((acc++ps.map (kB ps s)).map P4.d)),.val s.d]):=by
   have hcomp:bD (dY (ag 0)) 1 [0,3] (aE 0) (λ_=>.ok true) (aC ez (ai (ag 1) (ai (ag 2) (ai (ag 0) az)))) [.val (gD ps),.val w,.own (.list (acc.map P4.d)),.val s.d]=.ok (.list ((ps.map (kB ps s)).map P4.d)):=by
    rw[bg,show aB 1 [0,3] [.val (gD ps),.val w,.own (.list (acc.map P4.d)),.val s.d]=[.non,.val (gD ps),.val s.d]from rfl];simp only[bV,ap,R.ok_bind,dG,cb];rw[if_pos (bG (by rw[Qd];omega)),hc];rfl
   unfold qP nR;rw[hcomp,cb,R.ok_bind];show(if(acc.map P4.d).length+((ps.map (kB ps s)).map P4.d).length<=sizeLine then R.ok (rS.nx _)else .no)=_;rw[if_pos (bG (by rw[Qd,Qd,Qd];omega)),List.map_append];rfl
  rw[hb,R.ok_bind,cO]
include G hm in
theorem GO(h64:∀p∈ps,p.ns.length<64){ss:List St}(W:Wt ss):cf [gD ps,wD ss]=.ok (gD (dZ ps ss)):=by
 have hn:=G.hp;have h6:=W.n1;have hz:ss.length*ps.length<=6*60:=Nat.mul_le_mul h6 hn;obtain⟨c,e⟩:=zg G hm h64 (wD ss) ss [] .non (λs hs=>⟨W.l s hs,λx hx=>by have:=W.inn s hs x hx;omega⟩) (by simp;omega);unfold cf gu;refine eJ ?_;rw[show([gD ps,wD ss].map ba.val++Qi (4 - [gD ps,wD ss].length) ba.non)=[.val (gD ps),.val (wD ss),.non,.non]from rfl];rw[aF (ρ':=[.val (gD ps),.val (wD ss),.own (.list []),.non]) (by rfl)];rw[aF (ρ':=[.val (gD ps),.val (wD ss),.own (.list (([]++dZ ps ss).map P4.d)),c]) (by
  rw[dF,dX,bV,au,ap,R.ok_bind,dG,R.ok_bind];unfold qP at e;rw[List.map_nil]at e;rw[e];rfl)]
 simp only[da,bL,gW,io,R.ok_bind,nC];rfl
end
theorem tz{ps:List P4}:∀(ss:List St) (s i:Nat) (hs:s<ss.length) (hi:i<ps.length),(dZ ps ss)[s*ps.length+i]?=some (kB ps ss[s] ps[i])
 | [],_,_,h,_=>by simp at h
 |t::ss,0,i,_,hi=>by
  rw[dZ,Nat.zero_mul,Nat.zero_add,List.getElem?_append_left (by rw[Qd];exact hi),List.getElem?_map,List.getElem?_eq_getElem hi];rfl
 |t::ss,s+1,i,hs,hi=>by
  rw[dZ,Nat.succ_mul,List.getElem?_append_right (by rw[Qd];omega),Qd];rw[show s*ps.length+ps.length+i-ps.length=s*ps.length+i by omega];rw[tz ss s i (by simpa using hs) hi];rfl
theorem mf{n:Nat}{x:Int}(h0:0<=x){k:Nat}(h1:x<k*n):0<=x / n/\x / n<k/\0<=x%n/\x%n<n/\x.toNat=(x / n).toNat*n+(x%n).toNat/\x / n*n+x%n=x:=by
 have hn:(0:Int)<n:=by
  rcases Nat.eq_zero_or_pos n with z|z
  ·rw[z]at h1;simp at h1;omega
  ·omega
 have a0:=Int.ediv_nonneg h0 (Int.le_of_lt hn);have a1:=Int.emod_nonneg x (show(n:Int)≠0 by omega);have a2:=Int.emod_lt_of_pos x hn;have a3:x / n*n+x%n=x:=Int.ediv_mul_add_emod x n;have a4:x / n<k:=Int.ediv_lt_of_lt_mul hn h1;refine⟨a0,a4,a1,a2,?_,a3⟩;have:((x / n).toNat*n+(x%n).toNat:Nat)=x:=by
  rw[Int.natCast_add,Int.natCast_mul,Int.toNat_of_nonneg a0,Int.toNat_of_nonneg a1];exact a3
 omega
section
variable{ps:List P4}{ss:List St}{x:Int}
theorem zL(h0:0<=x)(h1:x<ss.length*ps.length):∃(hs:(x / ps.length).toNat<ss.length) (hi:(x%ps.length).toNat<ps.length),(dZ ps ss)[x.toNat]?=some (kB ps ss[(x / ps.length).toNat] ps[(x%ps.length).toNat]):=by
 obtain⟨a0,a1,a2,a3,a4,_⟩:=mf h0 h1;refine⟨by omega,by omega,?_⟩;rw[a4];exact tz ss _ _ (by omega) (by omega)
theorem nL(h0:0<=x)(h1:x<ss.length*ps.length):aL (dZ ps ss) x=aL ps (x%ps.length):=by
 obtain⟨hs,hi,e⟩:=zL h0 h1;unfold aL;rw[e,List.getElem?_eq_getElem hi];rfl
theorem ya(h0:0<=x)(h1:x<ss.length*ps.length):bj (dZ ps ss) x=fA ((bj ps (x%ps.length)).map λg=>dz ss (x / ps.length) (aU ps g)*ps.length+g):=by
 obtain⟨hs,hi,e⟩:=zL h0 h1;unfold bj dz;rw[e,List.getElem?_eq_getElem hi,List.getElem?_eq_getElem hs];rfl
theorem oJ(h0:0<=x)(h1:x<ss.length*ps.length){y:Int}:y∈bj (dZ ps ss) x<->∃g∈bj ps (x%ps.length),y=dz ss (x / ps.length) (aU ps g)*ps.length+g:=by
 rw[ya h0 h1,(fq _).mem_iff,List.mem_map];exact⟨λ⟨g,a,b⟩=>⟨g,a,b.symm⟩,λ⟨g,a,b⟩=>⟨g,a,b.symm⟩⟩
end
theorem ny{n:Nat}{s g:Int}(g0:0<=g)(g1:g<n):(s*n+g) / n=s/\(s*n+g)%n=g:=by
 have hn:(n:Int)≠0:=by omega
 refine⟨?_,?_⟩
 ·rw[Int.add_comm,Int.add_mul_ediv_right _ _ hn,Int.ediv_eq_zero_of_lt g0 g1];omega
 ·rw[Int.add_comm,Int.add_mul_emod_self_right];exact Int.emod_eq_of_lt g0 g1
theorem yU{n k:Nat}{s g:Int}(s0:0<=s)(s1:s<k)(g0:0<=g)(g1:g<n):0<=s*n+g/\s*n+g<k*n:=by
 have h0:=Int.mul_nonneg s0 (show(0:Int)<=n by omega);have h1:(s+1)*n<=k*n:=Int.mul_le_mul_of_nonneg_right (by omega) (by omega);rw[Int.add_mul,Int.one_mul]at h1;omega
theorem zM{ps:List P4}(G:Gr ps)(hm:∀i∈ids ps.length,0<=aU ps i/\aU ps i<13){ss:List St}(W:Wt ss)(hz:ss.length*ps.length<=60):Gr (dZ ps ss):=by
 have all:∀q∈dZ ps ss,∃s∈ss,∃p∈ps,q=kB ps s p:=by
  intro q;have:∀l:List St,q∈dZ ps l->∃s∈l,∃p∈ps,q=kB ps s p:=by
   intro l;induction l with
   |nil=>intro h;cases h
   |cons t l ih=>
    intro h;rcases List.mem_append.mp h with z|z
    ·obtain⟨p,hp,rfl⟩:=List.mem_map.mp z;exact⟨t,List.mem_cons_self,p,hp,rfl⟩
    ·obtain⟨s,hs,r⟩:=ih z;exact⟨s,Qf _ hs,r⟩
  exact this ss
 have step:∀{s:St} {g:Int},s∈ss->0<=g/\g<ps.length->0<=s.st.getD (aU ps g).toNat 0/\s.st.getD (aU ps g).toNat 0<ss.length:=λ{s g} hs hg=>by
  have hl:=W.l s hs;obtain⟨m0,m1⟩:=hm g (bW.mpr hg);refine W.inn s hs _ ?_;rw[List.getD,List.getElem?_eq_getElem (show(aU ps g).toNat<s.st.length by omega)];exact List.getElem_mem _
 refine⟨λq hq=>?_,λq hq=>?_,by rw[jv];exact hz,λq hq=>?_,λq hq=>?_⟩<;>obtain⟨s,hs,p,hp,rfl⟩:=all q hq
 ·show(fA _).length<=100;rw[lM,Qd];exact G.hl p hp
 ·intro x hx;have hx':x∈fA (p.ns.map λg=>s.st.getD (aU ps g).toNat 0*ps.length+g):=hx;rw[(fq _).mem_iff]at hx';obtain⟨g,hg,rfl⟩:=List.mem_map.mp hx';have hgo:=G.hgo p hp g hg;obtain⟨a,b⟩:=step hs hgo;rw[jv,Int.natCast_mul];exact yU a b hgo.1 hgo.2
 ·show(fA (p.ns.map λg=>s.st.getD (aU ps g).toNat 0*ps.length+g)).Pairwise (· < ·);refine tK (iA _) ((fq _).nodup_iff.mpr ?_);unfold List.Nodup;rw[List.pairwise_map];refine List.Pairwise.imp_of_mem (λ{a b} ha hb hab e=>?_) (G.lt p hp);have h1:=(ny (s:=s.st.getD (aU ps a).toNat 0) (G.hgo p hp a ha).1 (G.hgo p hp a ha).2).2;have h2:=(ny (s:=s.st.getD (aU ps b).toNat 0) (G.hgo p hp b hb).1 (G.hgo p hp b hb).2).2;rw[e]at h1;omega
 ·show fA _≠[];intro z;have:=congrArg List.length z;rw[lM,Qd]at this;exact G.ne p hp (List.eq_nil_of_length_eq_zero this)
def jY(ss:List St)(s:Int):Int:=(ss[s.toNat]?.map (·.g)).getD 0
def zh(ps:List P4)(ss:List St):List Int:=(ids (ss.length*ps.length)).filter λx=>decide (jY ss (x / ps.length)=1)
theorem zi(ps:List P4)(ss:List St):eh (ss.length*ps.length) (zh ps ss):=(eh.ids _).filter _
theorem Cr{ps:List P4}{ss:List St}{x:Int}:x∈zh ps ss<->(0<=x/\x<ss.length*ps.length)/\jY ss (x / ps.length)=1:=by
 unfold zh;rw[List.mem_filter,bW,decide_eq_true_eq,Int.natCast_mul]
theorem Fn{c:Int}(h0:0<=c)(h1:c<=1000):lU [.int c]=.ok (bM 0 c.toNat):=by
 show(if -(2 ^ 62)<=c/\c<2 ^ 62 then R.ok (bM 0 c.toNat)else .no)=_;rw[if_pos (by omega)]
theorem nP{N:Nat}(h:N<=1000):lU [.int N]=.ok ((ids N).map .int):=by
 rw[Fn (by omega) (by omega),Int.toNat_natCast,kf]
theorem sw{ps:List P4}{ss:List St}(h0:1<=ps.length)(hz:ss.length*ps.length<=1000)(h6:ss.length<=6):dC [gD ps,wD ss]=.ok (.tuple ((zh ps ss).map .int)):=by
 have hlen:ci (gD ps)=.ok (.int ps.length):=by simp
 have hlw:ci (wD ss)=.ok (.int ss.length):=by simp
 have hb:ps.length<=1000\/ss.length=0:=by
  rcases Nat.eq_zero_or_pos ss.length with z|z
  ·exact .inr z
  ·left;have:=Nat.mul_le_mul_right ps.length z;omega
 have hmul:eY (.int ps.length) (.int ss.length)=.ok (.int (ss.length*ps.length:Nat)):=by
  rw[gV (.inr (by omega)),Int.natCast_mul,Int.mul_comm]
 have hr:lU [.int (ss.length*ps.length:Nat)]=.ok ((ids (ss.length*ps.length)).map .int):=nP hz;have hc:=eL (t:=tE (e2 (jc) (e2 aX (e2 aX (ag 1) (e2 jV (ag 0) (ag 2))) (eC (.int 0))) (eC (.int 1)))) (ρ:=[.val (wD ss),.val (.int ps.length)]) (p:=λx=>decide (jY ss (x / ps.length)=1)) (ids (ss.length*ps.length)) λx hx=>by
  obtain⟨x0,x1⟩:=bW.mp hx;rw[Int.natCast_mul]at x1;obtain⟨a0,a1,_⟩:=mf x0 x1;have hpos:0<ps.length:=h0;have hss:ss.length≠0:=by omega
  have hdiv:jV (.int x) (.int ps.length)=.ok (.int (x / ps.length)):=by rw[xw,if_pos (by omega)]
  have hg:jY ss (x / ps.length)=(ss[(x / ps.length).toNat]'(by omega)).g:=by
   unfold jY;rw[List.getElem?_eq_getElem (by omega)];rfl
  show tE _ [.val (.int x),.val (wD ss),.val (.int ps.length)]=_;simp only[bT,bf,ap,au,bA,R.ok_bind,hdiv,wK a0 a1,Dm,fZ,ca];rw[hg]
 unfold dC jI;refine eJ ?_;rw[show([gD ps,wD ss].map ba.val++Qi (3 - [gD ps,wD ss].length) ba.non)=[.val (gD ps),.val (wD ss),.non]from rfl];rw[aF (ρ':=[.val (gD ps),.val (wD ss),.val (.int ps.length)]) (by simp only[bp,bL,ap,R.ok_bind,hlen];rfl)];rw[da,bL,bg,show aB 1 [1,2] [.val (gD ps),.val (wD ss),.val (.int ps.length)]=[.non,.val (wD ss),.val (.int ps.length)]from rfl,fD];simp -implicitDefEqProofs only[ay,aG,bf,bL,ap,au,R.ok_bind,hlw,hmul,hr,cb];rw[if_pos (bG (by rw[Qd,gz];exact hz)),hc];rfl
theorem El{f:Int->Qa}{N a m:Nat}(h:a+m<=N):D2.qD (cG f N) (some (a:Int)) (some ((a:Int)+m))=cG (λi=>f (a+i)) m:=by
 unfold D2.qD;have e1':HT.sIx (cG f N).length 0 (some (a:Int))=a:=by rw[HT.sIx_nat,bH];omega
 have e2':HT.sIx (cG f N).length (cG f N).length (some ((a:Int)+m))=a+m:=by
  rw[show(a:Int)+m=((a+m:Nat):Int) by omega,HT.sIx_nat,bH];omega
 rw[e1',e2',show a+m-a=m by omega];refine List.ext_getElem (by rw[List.length_take,List.length_drop,bH,bH];omega) λk h1 h2=>?_
 rw[bH]at h2;have e3:=g9 (f:=λi=>f (a+i)) (n:=m) (i:=(k:Int)) (by omega) (by omega);have e4:=g9 (f:=f) (n:=N) (i:=((a+k:Nat):Int)) (by omega) (by omega);simp only[Int.toNat_natCast]at e3 e4;rw[e3,List.getElem_take,List.getElem_drop,e4];congr 1
theorem Do{k n:Nat}(hn:1<=n)(hk:1<=k):jD 0 ((k*n:Nat):Int) (n:Int)=k:=by
 unfold jD;have hp:1<=k*n:=Nat.mul_le_mul hk hn;rw[if_pos (by omega)];have:(((k*n:Nat):Int)-0-1) / (n:Int)=(k:Int)-1:=by
  have e:((k*n:Nat):Int)-0-1=((n:Int)-1)+((k:Int)-1)*n:=by
   rw[Int.natCast_mul,Int.sub_mul];omega
  rw[e,Int.add_mul_ediv_right _ _ (by omega),Int.ediv_eq_zero_of_lt (by omega) (by omega)];omega
 rw[this];omega
theorem nv{f:Int->Qa}{k n:Nat}(hn:1<=n)(hk:1<=k)(hz:k*n<=1000){d:Qa}(hd:d=.tuple (cG f (k*n))\/d=.list (cG f (k*n))) :
  dH [d,.int n]=.ok (.tuple (cG (λs=>.tuple (cG (λi=>f (s*n+i)) n)) k)):=by
 have hkn:k<=k*n:=Nat.le_mul_of_pos_right k hn;have hnk:n<=k*n:=Nat.le_mul_of_pos_left n hk;have hlen:ci d=.ok (.int (k*n:Nat)):=by
  rcases hd with rfl|rfl
  ·rw[kW,bH]
  ·rw[uE,bH]
 have hs:Dp [.int 0,.int (k*n:Nat),.int n]=.ok (D2.jC 0 n k):=by
  have:qm 0 (k*n:Nat) n:=⟨by omega,by omega,by omega,by omega,by omega,by omega⟩
  show(if qm 0 (k*n:Nat) n then R.ok (D2.jC 0 n (jD 0 (k*n:Nat) n))else .no)=_;rw[if_pos this,Do hn hk]
 have hc:bJ (aE 0) (λ_=>.ok true) (e1 cB (IL (ag 1) (pk (ag 0)) (pk (e2 eG (ag 0) (ag 2))))) [.non,.val d,.val (.int n)] (D2.jC 0 n k)=.ok (cG (λs=>.tuple (cG (λi=>f (s*n+i)) n)) k):=by
  have:=eA (e1 cB (IL (ag 1) (pk (ag 0)) (pk (e2 eG (ag 0) (ag 2))))) [.non,.val d,.val (.int n)] 0 (λx=>match x with|.int j=>.tuple (cG (λi=>f (j+i)) n)|x=>x) (D2.jC 0 n k) λx hx=>by
   unfold D2.jC at hx;obtain⟨t,ht,rfl⟩:=List.mem_map.mp hx;have ht':=List.mem_range.mp ht;have hm:(t+1)*n<=k*n:=Nat.mul_le_mul_right n ht';rw[Nat.succ_mul]at hm;have ec:=El (f:=f) (N:=k*n) (a:=t*n) (m:=n) hm;have e0:(0:Int)+(t:Int)*n=((t*n:Nat):Int):=by rw[Int.natCast_mul];omega
   rw[e0];have hsl:DQ d (some ((t*n:Nat):Int)) (some (((t*n:Nat):Int)+n))=.ok (.tuple (cG (λi=>f (((t*n:Nat):Int)+i)) n))\/DQ d (some ((t*n:Nat):Int)) (some (((t*n:Nat):Int)+n))=.ok (.list (cG (λi=>f (((t*n:Nat):Int)+i)) n)):=by
    rcases hd with rfl|rfl
    ·exact .inl (by rw[IB,ec])
    ·exact .inr (by rw[IA,ec])
   show e1 cB _ [.val (.int ((t*n:Nat):Int)),.val d,.val (.int n)]=_;simp only[bL,GK,Cy,bf,ap,au,R.ok_bind,Iu,xu];rcases hsl with z|z<;>rw[z]<;>rfl
  rw[this];congr 1;unfold D2.jC cG;rw[List.map_map,List.map_map];apply List.map_congr_left;intro t _;show Qa.tuple ((ids n).map λi=>f (0+(t:Int)*n+i))=Qa.tuple ((ids n).map λi=>f ((t:Int)*n+i));rw[Int.zero_add]
 unfold dH kJ;refine eJ ?_;rw[show([d,.int n].map ba.val++Qi (2 - [d,Qa.int n].length) ba.non)=[.val d,.val (.int n)]from rfl];rw[da,bL,bg,show aB 1 [0,1] [.val d,.val (.int n)]=[.non,.val d,.val (.int n)]from rfl,B8];simp -implicitDefEqProofs only[ay,aG,bL,bA,ap,au,R.ok_bind,hlen,hs,cb];rw[if_pos (bG (by unfold D2.jC;rw[Qd,List.length_range];omega)),hc];rfl
theorem FE{f:Fe}{ρ:aV}{g h:Int->Qa}{n:Nat}(hh:∀i:Int,0<=i->i<n->f (.val (g i)::ρ)=.ok (h i)):bJ (aE 0) (λ_=>.ok true) f (.non::ρ) (cG g n)=.ok (cG h n):=by
 have go:∀is:List Int,(∀i∈is,0<=i/\i<n)->bJ (aE 0) (λ_=>.ok true) f (.non::ρ) (is.map g)=.ok (is.map h):=by
  intro is;induction is with
  |nil=>intro _;exact dM ..
  |cons i is ih=>
   intro hb;rw[List.map_cons,fi,ih λx hx=>hb x (Qf _ hx)];show(R.ok true>>=λk=>if k=true then f (.val (g i)::ρ)>>=λx=>R.ok (is.map h)>>=λxs=>.ok (x::xs)else _)=_;rw[hh i (hb i List.mem_cons_self).1 (hb i List.mem_cons_self).2];rfl
 exact go (ids n) λi hi=>bW.mp hi
theorem FY{ps:List P4}{i:Int}(h0:0<=i)(h1:i<ps.length):aX (Hi ps i) (.int 1)=.ok (.int (aU ps i)):=by
 unfold Hi;rw[List.getElem?_eq_getElem (show i.toNat<ps.length by omega),oB h0 h1];rfl
theorem qJ(xs:List Qa):∀k,(dR k xs).length=xs.length:=by
 induction xs with
 |nil=>intro k;rfl
 |cons x xs ih=>intro k;show(_::dR (k+1) xs).length=_;simp[ih]
def nN(ps:List P4)(ss:List St)(who:Int):Int->Option Int:=lY (λ_=>none) (dP (dZ ps ss) who (zh ps ss) (ss.length*ps.length) (ids (ss.length*ps.length)))
def tx(ps:List P4)(ss:List St)(who:Int):Int->Option Int:=sy (λ_=>none) (dP (dZ ps ss) who (zh ps ss) (ss.length*ps.length) (ids (ss.length*ps.length)))
abbrev fu(f:Int->Qa)(k n:Nat):Qa:=.tuple (cG (λs=>.tuple (cG (λi=>f (s*n+i)) n)) k)
theorem yA{ps:List P4}(G:Gr ps)(hm:∀i∈ids ps.length,0<=aU ps i/\aU ps i<13)(h64:∀p∈ps,p.ns.length<64)(h0:1<=ps.length){ss:List St}(W:Wt ss)(hz:ss.length*ps.length<=60){who:Int}{c:Addr} :
  ∃d2 d3,(d2=fu (λx=>oD (nN ps ss who x)) ss.length ps.length/\d3=fu (λx=>oD ((tx ps ss who x).map (·%(ps.length:Int)))) ss.length ps.length)/\cm c [gD ps,wD ss,.int who]=.ok (.tuple [oT (λi=>nN ps ss who (dz ss 0 (aU ps i)*ps.length+i)) ps.length,d2,d3]):=by
 have k0:=W.n0;have k1:=W.n1;have hn:=G.hp;have GP:=zM G hm W hz;have hlP:=jv (ps:=ps) ss;have hga:=BG GP (gs:=zh ps ss) (by rw[hlP];exact zi ps ss) (tN GP) (who:=who) (c:=c);rw[hlP]at hga;obtain⟨mv,emv⟩:∃mv,mv=tx ps ss who:=⟨_,rfl⟩
 rw[show sy (λ_=>none) (dP (dZ ps ss) who (zh ps ss) (ss.length*ps.length) (ids (ss.length*ps.length)))=tx ps ss who from rfl,<-emv,show lY (λ_=>none) (dP (dZ ps ss) who (zh ps ss) (ss.length*ps.length) (ids (ss.length*ps.length)))=nN ps ss who from rfl]at hga;obtain⟨wn,ewn⟩:∃wn,wn=nN ps ss who:=⟨_,rfl⟩
 rw[<-ewn]at hga ⊢;rw[<-emv];have hgo:=GO G hm h64 W;have hgp:=sw h0 (show ss.length*ps.length<=1000 by omega) k1;have hlen:ci (gD ps)=.ok (.int ps.length):=by simp
 have hb1:=nv (f:=λx=>oD (wn x)) h0 k0 (show ss.length*ps.length<=1000 by omega) (d:=oT wn (ss.length*ps.length)) (.inl rfl);have hcm:=FE (f:=DR (tE (e2 (nA) (ag 0) (eC .none))) (eC .none) (e2 dQ (ag 0) (ag 1))) (ρ:=[.val (.int ps.length)]) (g:=λx=>oD (mv x)) (h:=λx=>oD ((mv x).map (·%(ps.length:Int)))) (n:=ss.length*ps.length) λi _ _=>by
  have hp:(0:Int)<ps.length:=by omega
  simp only[xA,bT,bf,ap,au,bA,R.ok_bind,uM,ca];cases mv i with
  |none=>rfl
  |some y=>
   show(dQ (.int y) (.int ps.length))=_;rw[ml,if_pos hp];rfl
 have hb2:=nv (f:=λx=>oD ((mv x).map (·%(ps.length:Int)))) h0 k0 (show ss.length*ps.length<=1000 by omega) (d:=.list (cG (λx=>oD ((mv x).map (·%(ps.length:Int)))) (ss.length*ps.length))) (.inr rfl);generalize hD2:(Qa.tuple (cG (λs=>.tuple (cG (λi=>oD (wn (s*ps.length+i))) ps.length)) ss.length))=D2' at hb1;generalize hD3:(Qa.tuple (cG (λs=>.tuple (cG (λi=>oD ((mv (s*ps.length+i)).map (·%(ps.length:Int)))) ps.length)) ss.length))=D3 at hb2;refine⟨D2',D3,⟨hD2.symm,hD3.symm⟩,?_⟩;have ix0:=wK (ss:=ss) (i:=0) (by omega) (by omega);generalize hs0:ss[(0:Int).toNat]'(by omega)=s0 at ix0;have hs0m:s0∈ss:=by rw[<-hs0];exact List.getElem_mem _
 have hl0:=W.l s0 hs0m;have hst:∀m:Int,dz ss 0 m=s0.st.getD m.toNat 0:=λm=>by rw[nU (by omega) (by omega),hs0]
 unfold cm lx;refine eJ ?_;rw[show([gD ps,wD ss,Qa.int who].map ba.val++Qi (9 - [gD ps,wD ss,Qa.int who].length) ba.non)=[.val (gD ps),.val (wD ss),.val (.int who),.non,.non,.non,.non,.non,.non]from rfl];rw[aF (ρ':=[.val (gD ps),.val (wD ss),.val (.int who),.non,.non,.non,.non,.non,.non]) (by
  simp only[cj,fB,bT,aS,ay,aG,ap,au,R.ok_bind,lX W.good,W.wat,ca];rfl)]
 rw[aF (ρ':=[.val (gD ps),.val (wD ss),.val (.int who),.val (.int ps.length),.non,.non,.non,.non,.non]) (by
  simp only[bp,bL,ap,R.ok_bind,hlen];rfl)]
 rw[aF (ρ':=[.val (gD ps),.val (wD ss),.val (.int who),.val (.int ps.length),.val (.tuple [oT wn (ss.length*ps.length),oT mv (ss.length*ps.length)]),.non,.non,.non,.non]) (by
  simp -implicitDefEqProofs only[bp,aS,ay,aG,ap,au,R.ok_bind,hgo,hgp,hga];rfl)]
 rw[aF (ρ':=[.val (gD ps),.val (wD ss),.val (.int who),.val (.int ps.length),.val (.tuple [oT wn (ss.length*ps.length),oT mv (ss.length*ps.length)]),.val D2',.non,.non,.non]) (by
  have i0:aX (.tuple [oT wn (ss.length*ps.length),oT mv (ss.length*ps.length)]) (.int 0)=.ok (oT wn (ss.length*ps.length)):=rfl;simp only[bp,aS,ay,aG,bf,ap,au,bA,R.ok_bind,i0,hb1];rfl)]
 rw[aF (ρ':=[.val (gD ps),.val (wD ss),.val (.int who),.val (.int ps.length),.val (.tuple [oT wn (ss.length*ps.length),oT mv (ss.length*ps.length)]),.val D2',.val D3,.non,.non]) (by
  have i1:aX (.tuple [oT wn (ss.length*ps.length),oT mv (ss.length*ps.length)]) (.int 1)=.ok (oT mv (ss.length*ps.length)):=rfl;rw[bp,aS,ay,bg,show aB 1 [3] [.val (gD ps),.val (wD ss),.val (.int who),.val (.int ps.length),.val (.tuple [oT wn (ss.length*ps.length),oT mv (ss.length*ps.length)]),.val D2',.non,.non,.non]=[.non,.val (.int ps.length)]from rfl];simp only[bV,ay,aG,bf,ap,au,bA,R.ok_bind,i1,dG,cb];rw[if_pos (bG (by rw[bH];omega)),hcm];simp only[iq,R.ok_bind,hb2];rfl)]
 rw[aF (ρ':=[.val (gD ps),.val (wD ss),.val (.int who),.val (.int ps.length),.val (.tuple [oT wn (ss.length*ps.length),oT mv (ss.length*ps.length)]),.val D2',.val D3,.val (.tuple (s0.st.map .int)),.non]) (by
  simp only[bp,bf,ap,au,bA,R.ok_bind,ix0,rM];rfl)]
 have hcw:bJ (fT 0 1) (λ_=>.ok true) (e2 aX (e2 aX (ag 2) (e2 aX (ag 3) (e2 aX (ag 1) (eC (.int 1))))) (ag 0)) [.non,.non,.val D2',.val (.tuple (s0.st.map .int))] (dR 0 (ps.map P4.d))=.ok (cG (λi=>oD (wn (dz ss 0 (aU ps i)*ps.length+i))) ps.length):=by
  have hen:=qK (fe:=e2 aX (e2 aX (ag 2) (e2 aX (ag 3) (e2 aX (ag 1) (eC (.int 1))))) (ag 0)) (ρ:=[.val D2',.val (.tuple (s0.st.map .int))]) (g:=Hi ps) (h:=λi=>oD (wn (dz ss 0 (aU ps i)*ps.length+i))) ps.length 0 λj _ hj=>by
   have j0:(0:Int)<=j:=by omega
   have j1:(j:Int)<ps.length:=by omega
   obtain⟨m0,m1⟩:=hm j (bW.mpr ⟨j0,j1⟩);have e1':=qa (xs:=s0.st) m0 (by omega);rw[<-hst]at e1';obtain⟨t0,t1⟩:=W.step (i:=0) (by omega) (by omega) m0 m1;have e2':=hZ (f:=λs=>Qa.tuple (cG (λi=>oD (wn (s*ps.length+i))) ps.length)) (n:=ss.length) t0 t1;rw[hD2]at e2';have e3':=hZ (f:=λi=>oD (wn (dz ss 0 (aU ps j)*ps.length+i))) (n:=ps.length) j0 j1;simp only[bf,ap,au,bA,R.ok_bind,FY j0 j1,e1',e2',e3']
  rw[uL]at hen;rw[B5 ps];exact hen
 rw[aF (ρ':=[.val (gD ps),.val (wD ss),.val (.int who),.val (.int ps.length),.val (.tuple [oT wn (ss.length*ps.length),oT mv (ss.length*ps.length)]),.val D2',.val D3,.val (.tuple (s0.st.map .int)),.val (oT (λi=>wn (dz ss 0 (aU ps i)*ps.length+i)) ps.length)]) (by
  rw[bp,bL,bg,show aB 2 [5,7] [.val (gD ps),.val (wD ss),.val (.int who),.val (.int ps.length),.val (.tuple [oT wn (ss.length*ps.length),oT mv (ss.length*ps.length)]),.val D2',.val D3,.val (.tuple (s0.st.map .int)),.non]=[.non,.non,.val D2',.val (.tuple (s0.st.map .int))]from rfl];simp only[nD,ap,R.ok_bind,dG,cb];rw[if_pos (by rw[qJ,Qd];exact bG (by omega)),hcw];rfl)]
 have s3:3<=sizeLine:=by decide
 simp only[da,gy,ay,aG,ap,au,R.ok_bind,List.length_cons,List.length_nil,Nat.zero_add,Nat.reduceAdd,if_pos s3]
abbrev cW(q:Int×Int):Qa:=.tuple [.int q.1,.int q.2]
def sC(l:List (Int×Int)):List (Qa×Qa):=l.map λq=>(cW q,.bool true)
abbrev lN(l:List (Int×Int)):Qa:=.dict ((.bool true,.none)::sC l)
theorem zq(q:Int×Int):sx (cW q)=some [.inl q.1,.inl q.2]:=rfl
theorem HW(p q:Int×Int):Bd (cW p) (cW q)=decide (p=q):=by
 unfold Bd;rw[zq,zq];refine decide_eq_decide.mpr ⟨λh=>?_,λh=>by rw[h]⟩;injection h with h
 injection h with h1 h2
 injection h2 with h3 _
 injection h1 with h1
 injection h3 with h3
 exact Prod.ext h1 h3
theorem BH(l:List (Int×Int))(q:Int×Int):((sC l).any λkv=>Bd kv.1 (cW q))=decide (q∈l):=by
 unfold sC;rw[List.any_map];have:((λkv:Qa×Qa=>Bd kv.1 (cW q))∘λp:Int×Int=>(cW p,Qa.bool true))=λp=>decide (p=q):=by
  funext p;exact HW p q
 rw[this];by_cases h:q∈l
 ·rw[decide_eq_true h,List.any_eq_true];exact⟨q,h,decide_eq_true rfl⟩
 ·rw[decide_eq_false h,List.any_eq_false];intro p hp z;exact h (of_decide_eq_true z▸hp)
theorem HC{l:List (Int×Int)}{q:Int×Int}(h:q∉l):ye (sC l) (cW q) (.bool true)=sC (l++[q]):=by
 unfold ye;rw[BH,decide_eq_false h,if_neg (by simp)];unfold sC;rw[List.map_append];rfl
theorem zw(l:List (Int×Int))(q:Int×Int):(kz (sC l) (cW q)).isSome=decide (q∈l):=by
 rw[<-BH];unfold kz;rw[Option.isSome_map];cases e:(sC l).any λkv=>Bd kv.1 (cW q)with
 |true=>exact List.find?_isSome.mpr (List.any_eq_true.mp e)
 |false=>
  cases h:((sC l).find? λkv=>Bd kv.1 (cW q)).isSome with
  |false=>rfl
  |true=>
   obtain⟨x,h1,h2⟩:=List.find?_isSome.mp h;exact absurd h2 (List.any_eq_false.mp e x h1)
theorem I8(l:List (Int×Int))(q:Int×Int):om false (cW q) (lN l)=.ok (.bool (decide (q∈l))):=by
 show R.ok (Qa.bool (if false=true then !(kz (sC l) (cW q)).isSome else(kz (sC l) (cW q)).isSome))=_;rw[if_neg (by simp),zw]
theorem zt(l:List (Int×Int)):rc (lN l)=.ok (l.map cW):=by
 show R.ok ((sC l).map (·.1))=_;unfold sC;rw[List.map_map];rfl
theorem wA{i:Nat}{fk fv:Fe}{ρ:aV}{l:List (Int×Int)}{q:Int×Int}(h1:fk ρ=.ok (cW q))(h2:fv ρ=.ok (.bool true))(h3:ρ[i]?=some (.own (lN l)))(h4:q∉l)(h5:l.length<=1000):pB i fk fv ρ=.ok (.nx (ρ.set i (.own (lN (l++[q]))))):=by
 unfold pB;rw[h2,h1,h3];have hz:(sC l).length<sizeLine:=by
  unfold sC;rw[Qd];exact Nat.lt_of_le_of_lt h5 (by decide)
 show(if(sC l).length<sizeLine then R.ok (rS.nx (ρ.set i (.own (.dict ((.bool true,.none)::ye (sC l) (cW q) (.bool true))))))else .no)=_;rw[if_pos hz,HC h4]
theorem wa{f:Fe}{ρ:aV}{h:Int->Qa}:∀ns:List Int,(∀x∈ns,f (.val (.int x)::ρ)=.ok (h x))->bJ (aE 0) (λ_=>.ok true) f (.non::ρ) (ns.map .int)=.ok (ns.map h)
 | [],_=>dM ..
 |x::ns,hh=>by
  rw[List.map_cons,fi,wa ns λy hy=>hh y (Qf _ hy)];show(R.ok true>>=λk=>if k=true then f (.val (.int x)::ρ)>>=λx=>R.ok (ns.map h)>>=λxs=>.ok (x::xs)else _)=_;rw[hh x List.mem_cons_self];rfl
theorem nI(l:List (Int×Int))(q:Int×Int):om true (cW q) (lN l)=.ok (.bool (!decide (q∈l))):=by
 show R.ok (Qa.bool (if true=true then !(kz (sC l) (cW q)).isSome else(kz (sC l) (cW q)).isSome))=_;rw[if_pos rfl,zw]
theorem ET(l:List (Int×Int)):qF (lN l)=.ok (.list (l.map cW)):=by
 show R.ok (Qa.list ((sC l).map (·.1)))=_;unfold sC;rw[List.map_map];rfl
def v7(ps:List P4)(one:Int)(mv:Int->Option Int)(q:Int×Int):List Int:=if aL ps q.2=one then((mv (q.1*ps.length+q.2)).map (·%(ps.length:Int))).toList else bj ps q.2
def tO(ps:List P4)(ss:List St)(one:Int)(mv:Int->Option Int)(q:Int×Int):List (Int×Int):=(v7 ps one mv q).map λg=>(dz ss q.1 (aU ps g),g)
structure DZ(ps:List P4)(ss:List St)(q:Int×Int):Prop where
 s0:0<=q.1
 s1:q.1<ss.length
 i0:0<=q.2
 i1:q.2<ps.length
abbrev tu(ps:List P4)(ss:List St)(mv:Int->Option Int):Qa:=fu (λx=>oD ((mv x).map (·%(ps.length:Int)))) ss.length ps.length
theorem Fp{f:Int->Qa}{k n:Nat}{s i:Int}(s0:0<=s)(s1:s<k)(i0:0<=i)(i1:i<n):(aX (fu f k n) (.int s)>>=λr=>aX r (.int i))=.ok (f (s*n+i)):=by
 rw[hZ s0 s1,R.ok_bind,hZ i0 i1]
theorem B6{ps:List P4}(G:Gr ps){one:Int}{mv:Int->Option Int}{q:Int×Int}(i1:q.2<ps.length)(i0:0<=q.2){g:Int}(h:g∈v7 ps one mv q):0<=g/\g<ps.length:=by
 unfold v7 at h;split at h
 ·cases e:mv (q.1*ps.length+q.2)with
  |none=>rw[e]at h;simp at h
  |some y=>
   rw[e]at h;simp at h;subst h;exact⟨Int.emod_nonneg _ (by omega),Int.emod_lt_of_pos _ (by omega)⟩
 ·exact G.goals h
theorem Cj{ps:List P4}{i:Int}(h0:0<=i)(h1:i<ps.length):(aX (gD ps) (.int i)>>=λx=>aX x (.int 0))=.ok (.int (aL ps i)):=by
 rw[ky h0 h1,R.ok_bind,oH];unfold aL;rw[List.getElem?_eq_getElem (by omega)];rfl
theorem wf{ps:List P4}{i:Int}(h0:0<=i)(h1:i<ps.length):(aX (gD ps) (.int i)>>=λx=>aX x (.int 3))=.ok (.tuple ((bj ps i).map .int)):=by
 rw[ky h0 h1,R.ok_bind,rA,fj h0 h1]
theorem kc{ps:List P4}(G:Gr ps)(hm:∀i∈ids ps.length,0<=aU ps i/\aU ps i<13){ss:List St}(W:Wt ss){one:Int}{mv:Int->Option Int}{q:Int×Int}(I:DZ ps ss q) :
  aQ [gD ps,wD ss,.int one,tu ps ss mv,cW q]=.ok (.list ((tO ps ss one mv q).map cW)):=by
 have h1:=Cj I.i0 I.i1;have h2:=wf I.i0 I.i1;have h3:=Fp (f:=λx=>oD ((mv x).map (·%(ps.length:Int)))) I.s0 I.s1 I.i0 I.i1;have hgl:(bj ps q.2).length<=100:=by rw[fj I.i0 I.i1];exact G.hl _ (List.getElem_mem _)
 have hc:∀gs:List Int,(∀g∈gs,0<=g/\g<ps.length)->bJ (aE 0) (λ_=>.ok true) (gM (ai (e2 aX (e2 aX (e2 aX (ag 1) (ag 2)) (eC (.int 1))) (e2 aX (e2 aX (ag 3) (ag 0)) (eC (.int 1)))) (ai (ag 0) az))) [.non,.val (wD ss),.val (.int q.1),.val (gD ps)] (gs.map .int)=.ok ((gs.map λg=>(dz ss q.1 (aU ps g),g)).map cW):=λgs hg=>by
  have:=wa (f:=gM (ai (e2 aX (e2 aX (e2 aX (ag 1) (ag 2)) (eC (.int 1))) (e2 aX (e2 aX (ag 3) (ag 0)) (eC (.int 1)))) (ai (ag 0) az))) (ρ:=[.val (wD ss),.val (.int q.1),.val (gD ps)]) (h:=λg=>cW (dz ss q.1 (aU ps g),g)) gs λg hx=>by
   obtain⟨g0,g1⟩:=hg g hx;obtain⟨m0,m1⟩:=hm g (bW.mpr ⟨g0,g1⟩);obtain⟨p,ep⟩:∃p,p=(ps[g.toNat]'(by omega)).d:=⟨_,rfl⟩
   have e1a:=ky g0 g1;have e1b:=EO g0 g1;rw[e1a,R.ok_bind]at e1b;rw[<-ep]at e1a e1b;obtain⟨s,e2a,e2b⟩:=W.ix I.s0 I.s1 m0 m1;have s2:2<=sizeLine:=by decide
   simp only[gy,ay,aG,bf,ap,au,bA,R.ok_bind,e1a,e1b,e2a,rM,e2b,List.length_cons,List.length_nil,Nat.zero_add,Nat.reduceAdd,if_pos s2]
  rw[this,List.map_map];rfl
 have hin:∀g∈v7 ps one mv q,0<=g/\g<ps.length:=λg hg=>B6 G I.i1 I.i0 hg
 obtain⟨p,ep⟩:∃p,p=(ps[q.2.toNat]'(by have:=I.i0;have:=I.i1;omega)).d:=⟨_,rfl⟩
 have e0:=ky I.i0 I.i1;rw[e0,R.ok_bind]at h1 h2;rw[<-ep]at h1 h2 e0;have e3:=hZ (f:=λs=>Qa.tuple (cG (λi=>oD ((mv (s*ps.length+i)).map (·%(ps.length:Int)))) ps.length)) (n:=ss.length) I.s0 I.s1;have e4:=hZ (f:=λi=>oD ((mv (q.1*ps.length+i)).map (·%(ps.length:Int)))) (n:=ps.length) I.i0 I.i1;unfold aQ h9;refine eJ ?_;have s1:1<=sizeLine:=by decide
 rw[show([gD ps,wD ss,.int one,tu ps ss mv,cW q].map ba.val++Qi (8 - [gD ps,wD ss,Qa.int one,tu ps ss mv,cW q].length) ba.non)=[.val (gD ps),.val (wD ss),.val (.int one),.val (tu ps ss mv),.val (cW q),.non,.non,.non]from rfl];rw[aF (ρ':=[.val (gD ps),.val (wD ss),.val (.int one),.val (tu ps ss mv),.val (cW q),.val (.int q.1),.val (.int q.2),.non]) (by rw[A3 (x:=.int q.1) (y:=.int q.2) (e:=rfl)];rfl)];rw[aF (ρ':=[.val (gD ps),.val (wD ss),.val (.int one),.val (tu ps ss mv),.val (cW q),.val (.int q.1),.val (.int q.2),.val (.tuple ((bj ps q.2).map .int))]) (by
  simp only[bp,bf,ap,au,bA,R.ok_bind,e0,h2];rfl)]
 by_cases ho:aL ps q.2=one
 ·have hg:v7 ps one mv q=((mv (q.1*ps.length+q.2)).map (·%(ps.length:Int))).toList:=if_pos ho;rw[aF (ρ':=[.val (gD ps),.val (wD ss),.val (.int one),.val (tu ps ss mv),.val (cW q),.val (.int q.1),.val (.int q.2),.val (.list ((v7 ps one mv q).map .int))]) (by
   simp only[cj,bT,bf,ap,au,bA,R.ok_bind,e0,h1,fZ,ca,ho,decide_true,if_true];rw[bp,bg,show aB 1 [] [.val (gD ps),.val (wD ss),.val (.int one),.val (tu ps ss mv),.val (cW q),.val (.int q.1),.val (.int q.2),.val (.tuple ((bj ps q.2).map .int))]=[.non]from rfl];simp only[bV,lE,ay,aG,bf,ap,au,R.ok_bind,e3,e4,List.length_cons,List.length_nil,Nat.zero_add,if_pos s1,mI,cb];rw[hg];cases(mv (q.1*ps.length+q.2)).map (·%(ps.length:Int))with
   |none=>rfl
   |some y=>rfl)]
  have hlen:((v7 ps one mv q).map Qa.int).length<=1000:=by
   rw[Qd,hg];cases mv (q.1*ps.length+q.2)<;>simp
  rw[da,bg,show aB 1 [1,5,0] [.val (gD ps),.val (wD ss),.val (.int one),.val (tu ps ss mv),.val (cW q),.val (.int q.1),.val (.int q.2),.val (.list ((v7 ps one mv q).map .int))]=[.non,.val (wD ss),.val (.int q.1),.val (gD ps)]from rfl];simp only[bV,ap,au,R.ok_bind,mI,cb];rw[if_pos (bG hlen),hc _ hin];rfl
 ·have hg:v7 ps one mv q=bj ps q.2:=if_neg ho;rw[aF (ρ':=[.val (gD ps),.val (wD ss),.val (.int one),.val (tu ps ss mv),.val (cW q),.val (.int q.1),.val (.int q.2),.val (.tuple ((v7 ps one mv q).map .int))]) (by
   simp only[cj,bT,bf,ap,au,bA,R.ok_bind,e0,h1,fZ,ca,ho,decide_false,if_false,Bool.false_eq_true];rw[hg];rfl)]
  have hlen:((v7 ps one mv q).map Qa.int).length<=1000:=by rw[Qd,hg];omega
  rw[da,bg,show aB 1 [1,5,0] [.val (gD ps),.val (wD ss),.val (.int one),.val (tu ps ss mv),.val (cW q),.val (.int q.1),.val (.int q.2),.val (.tuple ((v7 ps one mv q).map .int))]=[.non,.val (wD ss),.val (.int q.1),.val (gD ps)]from rfl];simp only[bV,ap,au,R.ok_bind,dG,cb];rw[if_pos (bG hlen),hc _ hin];rfl
theorem zK(q:Int×Int):fK (cW q):=eP.mpr λx hx=>by
 simp at hx;rcases hx with rfl|rfl<;>exact kZ _
theorem wt(l:List (Int×Int)):fK (.list (l.map cW)):=sU.mpr λx hx=>by
 obtain⟨q,_,rfl⟩:=List.mem_map.mp hx;exact zK q
theorem CS(q:Int×Int):(cW q).depth=1:=by simp[Qa.depth,Qa.depthAll]
theorem vW(l:List (Int×Int)):sv (.list (l.map cW)) (.list [])=true:=by
 unfold sv;rw[wt l];simp[Qa.canLay0,Qa.canLayAll0,Qa.depth,Qa.depthAll]
theorem GL(l:List (Int×Int)):jc (.list (l.map cW)) (.list [])=.ok (.bool l.isEmpty):=by
 unfold jc;rw[if_pos (vW l)];cases l<;>simp[Qa.eqv,Qa.eqvAll]
theorem Ct(l:List (Int×Int)):mL (.list (l.map cW)) (.list [])=.ok (.bool (!l.isEmpty)):=by
 unfold mL;rw[if_pos (vW l)];cases l<;>simp[Qa.eqv,Qa.eqvAll]
theorem GM(p q:Int×Int):Qa.eqv (cW p) (cW q)=decide (p=q):=by
 have:=qM [p.1,p.2] [q.1,q.2];simp only[List.map_cons,List.map_nil]at this;simp only[Qa.eqv,this];exact decide_eq_decide.mpr ⟨λh=>by injection h with h1 h2;injection h2 with h3 _;exact Prod.ext h1 h3,λh=>by rw[h]⟩
theorem xL(l:List (Int×Int))(q:Int×Int):pZ false (cW q) (.list (l.map cW))=.ok (.bool (decide (q∈l))):=by
 have hok:pQ (l.map cW) (cW q)=true:=by
  unfold pQ;have h1:Qa.canLayAll0 (l.map cW)=true:=by have h:=wt l;unfold fK at h;simpa only[Qa.canLay0]using h
  have h2:(cW q).canLay0=true:=zK q;rw[h1,h2,CS];simp;omega
 show(if pQ (l.map cW) (cW q)=true then R.ok (Qa.bool _)else .no)=_;rw[if_pos hok,if_neg (by simp),List.any_map];congr 2;have:((λy=>Qa.eqv y (cW q))∘cW)=λp=>decide (p=q):=by
  funext p;exact GM p q
 rw[this];by_cases h:q∈l
 ·rw[decide_eq_true h,List.any_eq_true];exact⟨q,h,decide_eq_true rfl⟩
 ·rw[decide_eq_false h,List.any_eq_false];intro p hp z;exact h (of_decide_eq_true z▸hp)
theorem mx{t:aV->R Bool}{ρ:aV}{p:Int×Int->Bool}:∀l:List (Int×Int),(∀q∈l,t (.val (cW q)::ρ)=.ok (p q))->bJ (aE 0) t (ag 0) (.non::ρ) (l.map cW)=.ok ((l.filter p).map cW)
 | [],_=>dM ..
 |x::ns,h=>by
  rw[List.map_cons,fi,List.set_cons_zero,h x List.mem_cons_self,mx ns λy hy=>h y (Qf _ hy)];cases hp:p x with
  |true=>rw[List.filter_cons_of_pos hp];rfl
  |false=>rw[List.filter_cons_of_neg (by rw[hp];simp)];rfl
structure Go(ps:List P4)(ss:List St)(one:Int)(mv:Int->Option Int)(l:List (Int×Int)):Prop where
 inn:∀q∈l,DZ ps ss q
 ne:∀q∈l,tO ps ss one mv q≠[]
 stay:∀q∈l,∀r∈tO ps ss one mv q,r∈l
 len:∀q∈l,(tO ps ss one mv q).length<=100
section
variable{ps:List P4}(G:Gr ps)(hm:∀i∈ids ps.length,0<=aU ps i/\aU ps i<13){ss:List St}(W:Wt ss){one:Int}{mv:Int->Option Int}{l:List (Int×Int)}(K:Go ps ss one mv l)
def rd:Fs:=(aO (bZ 6 (aC aQ (ai (ag 0) (ai (ag 1) (ai (ag 2) (ai (ag 3) (ai (ag 5) az))))))) (hW (nV (tE (e2 (jc) (ag 6) (kE az))) (tE (e2 (mL) (bD (dY (ag 6)) 1 [4] (aE 0) (tE (e2 (om true) (ag 0) (ag 1))) (ag 0)) (kE az)))) (bQ (eC (.bool false))) bU))
abbrev DS(ps:List P4)(ss:List St)(one:Int)(mv:Int->Option Int)(l:List (Int×Int))(c5 c6:ba):aV:=[.val (gD ps),.val (wD ss),.val (.int one),.val (tu ps ss mv),.val (lN l),c5,c6]
include G hm W K in
theorem EQ{q:Int×Int}(hq:q∈l){c6:ba}:∃c6',rd (DS ps ss one mv l (.val (cW q)) c6)=.ok (.nx (DS ps ss one mv l (.val (cW q)) c6')):=by
 refine⟨.val (.list ((tO ps ss one mv q).map cW)),?_⟩;have hw:=kc G hm W (one:=one) (mv:=mv) (K.inn q hq);unfold rd;rw[aF (ρ':=DS ps ss one mv l (.val (cW q)) (.val (.list ((tO ps ss one mv q).map cW)))) (by
  simp only[bp,aS,ay,aG,ap,au,R.ok_bind,hw];rfl)]
 have hf:=mx (t:=tE (e2 (om true) (ag 0) (ag 1))) (ρ:=[.val (lN l)]) (p:=λr=>!decide (r∈l)) (tO ps ss one mv q) λr _=>by
  simp only[bT,bf,ap,au,R.ok_bind,nI,ca]
 have hn:(tO ps ss one mv q).filter (λr=>!decide (r∈l))=[]:=List.filter_eq_nil_iff.mpr λr hr=>by simp[K.stay q hq r hr]
 rw[hn]at hf;have hne:(tO ps ss one mv q).isEmpty=false:=by simp[K.ne q hq]
 have hl:=K.len q hq;have s0:0<=sizeLine:=by decide
 have n0:=Ct [];simp only[List.map_nil]at n0 hf;rw[cj,kr,bT,bf];simp only[lE,aG,ap,au,R.ok_bind,List.length_nil,if_pos s0,GL,hne,ca];rw[bT,bf,bg,show aB 1 [4] (DS ps ss one mv l (.val (cW q)) (.val (.list ((tO ps ss one mv q).map cW))))=[.non,.val (lN l)]from rfl];simp only[bV,ap,au,R.ok_bind,mI,cb];rw[if_pos (bG (by rw[Qd];omega)),hf];simp only[iq,lE,aG,R.ok_bind,List.length_nil,if_pos s0,n0,ca];rfl
include G hm W K in
theorem zu:∀(ds:List (Int×Int)) (c5 c6:ba),(∀q∈ds,q∈l)->∃c5' c6',gc (aE 5) rd (ds.map cW) (DS ps ss one mv l c5 c6)=.ok (.nx (DS ps ss one mv l c5' c6'))
 | [],c5,c6,_=>⟨c5,c6,by rw[List.map_nil,dw]⟩
 |q::ds,c5,c6,h=>by
  obtain⟨c6',e⟩:=EQ G hm W K (h q List.mem_cons_self) (c6:=c6);obtain⟨a,b,e2'⟩:=zu ds (.val (cW q)) c6' λr hr=>h r (Qf _ hr)
  refine⟨a,b,?_⟩;rw[List.map_cons,bY,<-e2'];show(rd (DS ps ss one mv l (.val (cW q)) c6)>>=_)=_;rw[e,R.ok_bind,cO]
include G hm W K in
theorem xQ:cw [gD ps,wD ss,.int one,tu ps ss mv,lN l]=.ok (.bool true):=by
 obtain⟨a,b,e⟩:=zu G hm W K l .non .non λq h=>h
 unfold cw i7;refine eJ ?_;show aO _ _ (DS ps ss one mv l .non .non)=_;rw[aF (ρ':=DS ps ss one mv l a b) (by
  rw[dF,dX];show jG ((ag 4 (DS ps ss one mv l .non .non)>>=rc)>>=_)=_;simp only[ap,au,R.ok_bind,zt];unfold rd at e;rw[e];rfl)]
 rfl
end
def tm(al m:List (Int×Int)):Nat:=(al.filter λq=>!decide (q∈m)).length
theorem AQ{al m:List (Int×Int)}{q:Int×Int}(h1:q∈al)(h2:q∉m):tm al (m++[q])<tm al m:=by
 unfold tm;have e:(al.filter λr=>!decide (r∈m++[q]))=(al.filter λr=>!decide (r∈m)).filter λr=>!decide (r=q):=by
  rw[List.filter_filter];congr 1;funext r;simp[not_or,Bool.and_comm]
 rw[e];exact List.length_filter_lt_length_iff_exists.mpr ⟨q,List.mem_filter.mpr ⟨h1,by simp[h2]⟩,by simp⟩
def ux:aV->R Bool:=(tE (e2 (mL) (eS 7) (kE az)))
def qy:Fs:=(aO (A5 8 7) (hW (jE (tE (e2 (pZ false) (ag 8) (ag 5))) (tE (e2 (om true) (ag 8) (eS 6)))) (aO (pB 6 (ag 8) (eC (.bool true))) (gP 7 (e2 qE (eS 7) (aC aQ (ai (ag 0) (ai (ag 1) (ai (ag 2) (ai (ag 3) (ai (ag 8) az))))))))) bU))
abbrev yQ(ps:List P4)(ss:List St)(one:Int)(mv:Int->Option Int)(q0:Int×Int)(al m td:List (Int×Int))(c8:ba):aV:=[.val (gD ps),.val (wD ss),.val (.int one),.val (tu ps ss mv),.val (cW q0),.val (.list (al.map cW)),.own (lN m),.own (.list (td.map cW)),c8]
theorem Em{xs ys:List Qa}(h:xs.length+ys.length<=100000):qE (.list xs) (.list ys)=.ok (.list (xs++ys)):=if_pos (Nat.le_trans h (by decide))
section
variable{ps:List P4}(G:Gr ps)(hm:∀i∈ids ps.length,0<=aU ps i/\aU ps i<13){ss:List St}(W:Wt ss){one:Int}{mv:Int->Option Int}{l:List (Int×Int)}(K:Go ps ss one mv l){q0:Int×Int}{al:List (Int×Int)}(hal:∀q∈al,q∈l){π:Int×Int->Int}
 (hd:∀q∈al,π q<π q0->∀r∈tO ps ss one mv q,π r<π q0)
theorem GA{td m:List (Int×Int)}{q:Int×Int}{c8:ba}:A5 8 7 (yQ ps ss one mv q0 al m (td++[q]) c8)=.ok (.nx (yQ ps ss one mv q0 al m td (.val (cW q)))):=by
 have e1':((td++[q]).map cW)[((td++[q]).map cW).length-1]?=some (cW q):=by simp
 have e2':((td++[q]).map cW).dropLast=td.map cW:=by simp
 unfold A5;show(match ((td++[q]).map cW)[((td++[q]).map cW).length-1]? with
  |some d=>R.ok (rS.nx (((yQ ps ss one mv q0 al m (td++[q]) c8).set 7 (.own (.list ((td++[q]).map cW).dropLast))).set 8 (.val d)))
  |none=>.no)=_
 rw[e1',e2'];rfl
include G hm W K hal in
theorem Eg{td m:List (Int×Int)}{q:Int×Int}(hq:q∈l)(ht:td.length<=10000)(hml:m.length<=1000){c8:ba}:qy (yQ ps ss one mv q0 al m (td++[q]) c8)=if q∈al/\q∉m then .ok (.nx (yQ ps ss one mv q0 al (m++[q]) (td++tO ps ss one mv q) (.val (cW q))))else .ok (.nx (yQ ps ss one mv q0 al m td (.val (cW q)))):=by
 have hw:=kc G hm W (one:=one) (mv:=mv) (K.inn q hq);have hl:=K.len q hq;have hgo:∀x:R rS,(hW (jE (tE (e2 (pZ false) (ag 8) (ag 5))) (tE (e2 (om true) (ag 8) (eS 6)))) (aO (pB 6 (ag 8) (eC (.bool true))) (gP 7 (e2 qE (eS 7) (aC aQ (ai (ag 0) (ai (ag 1) (ai (ag 2) (ai (ag 3) (ai (ag 8) az))))))))) bU (yQ ps ss one mv q0 al m td (.val (cW q)))=x)->qy (yQ ps ss one mv q0 al m (td++[q]) c8)=x:=λx h=>by
  unfold qy;rw[aF GA];exact h
 by_cases h1:q∈al
 ·by_cases h2:q∈m
  ·rw[if_neg (λz=>z.2 h2)];refine hgo _ ?_;rw[cj,gg];simp only[bT,bf,ap,au,gW,io,R.ok_bind,xL,nI,ca,h1,h2,decide_true,if_true,Bool.not_true,Bool.false_eq_true,if_false];rfl
  ·rw[if_pos ⟨h1,h2⟩];refine hgo _ ?_;rw[cj,gg];simp only[bT,bf,ap,au,gW,io,R.ok_bind,xL,nI,ca,h1,h2,decide_true,if_true,decide_false,Bool.not_false];rw[aF (ρ':=yQ ps ss one mv q0 al (m++[q]) td (.val (cW q))) (by
    rw[wA (l:=m) (q:=q) rfl rfl rfl h2 hml];rfl)]
   simp only[lI,bf,aS,ay,aG,ap,au,gW,io,R.ok_bind,hw];rw[Em (by rw[Qd,Qd];omega),<-List.map_append];rfl
 ·rw[if_neg (λz=>h1 z.1)];refine hgo _ ?_;rw[cj,gg];simp only[bT,bf,ap,au,gW,io,R.ok_bind,xL,nI,ca,h1,decide_false,Bool.false_eq_true,if_false];rfl
theorem uz{td m:List (Int×Int)}{c8:ba}:ux (yQ ps ss one mv q0 al m td c8)=.ok (!td.isEmpty):=by
 have s0:0<=sizeLine:=by decide
 unfold ux;simp only[bT,bf,lE,aG,gW,io,R.ok_bind,List.length_nil,if_pos s0,Ct,ca]
include G hm W K hal hd in
theorem uy:∀(k:Nat) (td m:List (Int×Int)) (c8:ba) (n:Nat),td.length+101*tm al m<=k->k<=10000->k<n->m.length+tm al m<=1000->(∀q∈td,q∈l/\π q<π q0)->(∀q∈m,π q<π q0) ->
  ∃m' c8',e9 ux qy n (yQ ps ss one mv q0 al m td c8)=.ok (.nx (yQ ps ss one mv q0 al m' [] c8'))/\∀q∈m',π q<π q0
 | 0,[],m,c8,n+1,_,_,_,_,_,hmp=>⟨m,c8,by rw[jF,uz];rfl,hmp⟩
 | 0,_::_,_,_,_,hk,_,_,_,_,_=>by simp at hk
 | _,_,_,_,0,_,_,hn,_,_,_=>by omega
 |k+1,td,m,c8,n+1,hk,hk2,hn,hml,ht,hmp=>by
  rcases List.eq_nil_or_concat td with etd| ⟨td',q,etd⟩
  ·subst etd;exact⟨m,c8,by rw[jF,uz];rfl,hmp⟩
  ·rw[List.concat_eq_append]at etd;rw[etd]at ht hk ⊢;obtain⟨hq,hp⟩:=ht q (by simp);have hlen:(td'++[q]).length=td'.length+1:=by simp
   rw[hlen]at hk;rw[jF,uz,R.ok_bind,if_pos (by simp),Eg G hm W K hal hq (by omega) (by omega)];by_cases h:q∈al/\q∉m
   ·rw[if_pos h,R.ok_bind,cO];have hl:=AQ h.1 h.2;have hw:=K.len q hq;exact uy k (td'++tO ps ss one mv q) (m++[q]) (.val (cW q)) n (by rw[List.length_append];omega) (by omega) (by omega) (by rw[List.length_append,List.length_singleton];omega)
     (λr hr=>(List.mem_append.mp hr).elim (λz=>ht r (List.mem_append_left _ z)) λz=>⟨K.stay q hq r z,hd q h.1 hp r z⟩) λr hr=>(List.mem_append.mp hr).elim (hmp r) λz=>by rw[List.mem_singleton.mp z];exact hp
   ·rw[if_neg h,R.ok_bind,cO];exact uy k td' m (.val (cW q)) n (by omega) (by omega) (by omega) hml (λr hr=>ht r (List.mem_append_left _ hr)) hmp
include G hm W K hal hd in
theorem yO(h0:q0∈l)(hs:∀r∈tO ps ss one mv q0,π r<π q0)(hall:al.length<=60):dq [gD ps,wD ss,.int one,tu ps ss mv,cW q0,.list (al.map cW)]=.ok (.bool false):=by
 have hw:=kc G hm W (one:=one) (mv:=mv) (K.inn q0 h0);have hl:=K.len q0 h0;have hlf:tm al []<=60:=Nat.le_trans (List.length_filter_le _ _) hall;obtain⟨m,c8,e,hmp⟩:=uy G hm W K hal hd 10000 (tO ps ss one mv q0) [] .non 1000000 (by omega) (Nat.le_refl _) (by omega) (by simp;omega) (λr hr=>⟨K.stay q0 h0 r hr,hs r hr⟩) (λr hr=>by cases hr);have hn:q0∉m:=λz=>by have:=hmp q0 z;omega
 unfold dq l3;refine eJ ?_;show aO _ _ [.val (gD ps),.val (wD ss),.val (.int one),.val (tu ps ss mv),.val (cW q0),.val (.list (al.map cW)),.non,.non,.non]=_;rw[aF (ρ':=[.val (gD ps),.val (wD ss),.val (.int one),.val (tu ps ss mv),.val (cW q0),.val (.list (al.map cW)),.own (lN []),.non,.non]) (by rfl)];rw[aF (ρ':=yQ ps ss one mv q0 al [] (tO ps ss one mv q0) .non) (by
  simp only[lI,aS,ay,aG,ap,au,R.ok_bind,hw];rfl)]
 rw[aF (ρ':=yQ ps ss one mv q0 al m [] c8) (by
  rw[dF];unfold ux qy at e;show jG (e9 _ _ 1000000 _)=_;rw[e];rfl)]
 simp only[da,bf,ap,au,gW,io,R.ok_bind,I8,hn,decide_false]
end
abbrev xq(n:Nat)(q:Int×Int):Int:=q.1*n+q.2
def Bm(ps:List P4)(ss:List St)(wn:Int->Option Int)(one:Int):List (Int×Int):=(ids ss.length).flatMap λs=>((ids ps.length).filter λi=>decide (wn (s*ps.length+i)=some one)).map λi=>(s,i)
theorem rj{ps:List P4}{ss:List St}{wn:Int->Option Int}{one:Int}{q:Int×Int}:q∈Bm ps ss wn one<->DZ ps ss q/\wn (xq ps.length q)=some one:=by
 unfold Bm;rw[List.mem_flatMap];constructor
 ·rintro⟨s,hs,h⟩;obtain⟨i,hi,rfl⟩:=List.mem_map.mp h;obtain⟨hi,hw⟩:=List.mem_filter.mp hi;obtain⟨s0,s1⟩:=bW.mp hs;obtain⟨i0,i1⟩:=bW.mp hi;exact⟨⟨s0,s1,i0,i1⟩,of_decide_eq_true hw⟩
 ·rintro⟨I,hw⟩;exact⟨q.1,bW.mpr ⟨I.s0,I.s1⟩,List.mem_map.mpr ⟨q.2,List.mem_filter.mpr ⟨bW.mpr ⟨I.i0,I.i1⟩,decide_eq_true hw⟩,rfl⟩⟩
theorem CQ(ps:List P4)(ss:List St)(wn:Int->Option Int)(one:Int):(Bm ps ss wn one).length<=ss.length*ps.length:=by
 unfold Bm;rw[List.length_flatMap];have:∀is:List Int,(is.map λs=>(((ids ps.length).filter λi=>decide (wn (s*ps.length+i)=some one)).map λi=>(s,i)).length).sum<=is.length*ps.length:=by
  intro is;induction is with
  |nil=>simp
  |cons s is ih=>
   have h1:((ids ps.length).filter λi=>decide (wn (s*ps.length+i)=some one)).length<=ps.length:=Nat.le_trans (List.length_filter_le _ _) (by rw[gz];exact Nat.le_refl _);rw[List.map_cons,List.sum_cons,List.length_cons,Qd,Nat.add_mul,Nat.one_mul];omega
 have h:=this (ids ss.length);rw[gz]at h;exact h
section
variable{ps:List P4}(G:Gr ps)(hm:∀i∈ids ps.length,0<=aU ps i/\aU ps i<13)(hown:∀i∈ids ps.length,aL ps i=0\/aL ps i=1){who:Int}(h01:who=0\/who=1){ss:List St}(W:Wt ss)(hz:ss.length*ps.length<=60)
structure D1(ps:List P4)(ss:List St)(who:Int)(Wn:Int->Int)(M:Int->Option Int)(Φ Ψ:Int->Int):Prop where
 A:∃L,yC (dZ ps ss) who (zh ps ss) (ids (ss.length*ps.length)) L Wn M Φ Ψ
 wn:∀x∈ids (ss.length*ps.length),nN ps ss who x=some (Wn x)
 mv:∀x∈ids (ss.length*ps.length),tx ps ss who x=M x
include G hm hown h01 W hz in
theorem CI:∃Wn M Φ Ψ,D1 ps ss who Wn M Φ Ψ:=by
 have GP:=zM G hm W hz;have hlP:=jv (ps:=ps) ss;have hw:=tN GP;rw[hlP]at hw;obtain⟨Wn,M,Φ,Ψ,B⟩:=vI (ps:=dZ ps ss) h01 (gs:=zh ps ss) (by rw[hlP];exact zi ps ss) (ss.length*ps.length) (ids (ss.length*ps.length)) (by rw[hlP];exact eh.ids _) hw (by rw[gz];exact Nat.le_refl _) λx hx=>by
  have hb:=bW.mp hx;rw[Int.natCast_mul]at hb;obtain⟨_,_,a,b,_⟩:=mf hb.1 hb.2;rw[nL hb.1 hb.2];exact hown _ (bW.mpr ⟨a,b⟩)
 exact⟨Wn,M,Φ,Ψ,⟨_,B⟩,λx hx=>(B.wins _ x).trans (if_pos hx),λx hx=>(B.mvs _ x λ_=>rfl).trans (if_pos hx)⟩
variable{Wn:Int->Int}{M:Int->Option Int}{Φ Ψ:Int->Int}(P:D1 ps ss who Wn M Φ Ψ){one:Int}
theorem lw{q:Int×Int}(I:DZ ps ss q):(0<=xq ps.length q/\xq ps.length q<ss.length*ps.length)/\xq ps.length q∈ids (ss.length*ps.length)/\xq ps.length q / ps.length=q.1/\xq ps.length q%ps.length=q.2:=by
 have h:=yU I.s0 I.s1 I.i0 I.i1;exact⟨h,bW.mpr ⟨h.1,by rw[Int.natCast_mul];exact h.2⟩,ny I.i0 I.i1⟩
include G hm W P in
theorem DJ{q r:Int×Int}(I:DZ ps ss q)(hw:Wn (xq ps.length q)=one)(h:r∈tO ps ss one (tx ps ss who) q):DZ ps ss r/\Wy (dZ ps ss) (ids (ss.length*ps.length)) one M (xq ps.length q) (xq ps.length r):=by
 obtain⟨L,A⟩:=P.A;obtain⟨hb,hx,d1,d2⟩:=lw I;obtain⟨g,hg,rfl⟩:=List.mem_map.mp h;obtain⟨g0,g1⟩:=B6 G I.i1 I.i0 hg;obtain⟨m0,m1⟩:=hm g (bW.mpr ⟨g0,g1⟩);obtain⟨t0,t1⟩:=W.step I.s0 I.s1 m0 m1;have Ir:DZ ps ss (dz ss q.1 (aU ps g),g):=⟨t0,t1,g0,g1⟩
 refine⟨Ir,?_⟩;have ho:aL (dZ ps ss) (xq ps.length q)=aL ps q.2:=by rw[nL hb.1 hb.2,d2]
 by_cases h1:aL ps q.2=one
 ·left;refine⟨ho.trans h1,?_⟩;obtain⟨y,y1,y2⟩:=A.has _ hx ((ho.trans h1).trans hw.symm);obtain⟨g',hg',ey⟩:=(oJ hb.1 hb.2).mp y2;rw[d1]at ey;rw[d2]at hg';obtain⟨a0,a1⟩:=G.goals hg';unfold v7 at hg;rw[if_pos h1,P.mv _ hx,y1]at hg;simp at hg;have e2':=(ny (s:=dz ss q.1 (aU ps g')) a0 a1).2;rw[<-ey,<-hg]at e2';subst e2';rw[y1,ey]
 ·right;refine⟨λz=>h1 (ho.symm.trans z),?_⟩;unfold v7 at hg;rw[if_neg h1]at hg;refine u8 ((oJ hb.1 hb.2).mpr ⟨g,by rw[d2];exact hg,by rw[d1]⟩) (lw Ir).2.1
include P in
theorem rC{q:Int×Int}(h:q∈Bm ps ss (nN ps ss who) one):DZ ps ss q/\Wn (xq ps.length q)=one:=by
 obtain⟨I,hw⟩:=rj.mp h;rw[P.wn _ (lw I).2.1]at hw;exact⟨I,Option.some.inj hw⟩
include G hm W P in
theorem F2:Go ps ss one (tx ps ss who) (Bm ps ss (nN ps ss who) one):=by
 obtain⟨L,A⟩:=P.A;refine⟨λq h=>(rj.mp h).1,λq h z=>?_,λq h r hr=>?_,λq h=>?_⟩
 ·obtain⟨I,hw⟩:=rC P h;obtain⟨hb,hx,d1,d2⟩:=lw I;have ho:aL (dZ ps ss) (xq ps.length q)=aL ps q.2:=by rw[nL hb.1 hb.2,d2]
  have z':v7 ps one (tx ps ss who) q=[]:=List.map_eq_nil_iff.mp z;unfold v7 at z';by_cases h1:aL ps q.2=one
  ·obtain⟨y,y1,y2⟩:=A.has _ hx ((ho.trans h1).trans hw.symm);rw[if_pos h1,P.mv _ hx,y1]at z';simp at z'
  ·rw[if_neg h1,fj I.i0 I.i1]at z';exact G.ne _ (List.getElem_mem _) z'
 ·obtain⟨I,hw⟩:=rC P h;obtain⟨Ir,wy⟩:=DJ G hm W P I hw hr;rw[<-hw]at wy;obtain⟨_,e⟩:=A.stay _ (lw I).2.1 _ wy;exact rj.mpr ⟨Ir,by rw[P.wn _ (lw Ir).2.1,e,hw]⟩
 ·have I:=(rj.mp h).1;unfold tO v7;rw[Qd];split
  ·cases tx ps ss who (q.1*ps.length+q.2)<;>simp
  ·rw[fj I.i0 I.i1];exact G.hl _ (List.getElem_mem _)
def md(ps:List P4)(ss:List St)(who one:Int):List (Int×Int):=(Bm ps ss (nN ps ss who) one).filter λq=>decide (jY ss q.1=if one=who then 0 else 1)
include P in
theorem xm{q:Int×Int}(h:q∈md ps ss who one):q∈Bm ps ss (nN ps ss who) one/\(one=who->xq ps.length q∉zh ps ss)/\(one≠who->xq ps.length q∈zh ps ss):=by
 obtain⟨hq,hg⟩:=List.mem_filter.mp h;have hg:=of_decide_eq_true hg;obtain⟨hb,hx,d1,d2⟩:=lw (rj.mp hq).1;refine⟨hq,λe z=>?_,λe=>?_⟩
 ·rw[if_pos e]at hg;have:=(Cr.mp z).2;rw[d1]at this;omega
 ·rw[if_neg e]at hg;exact Cr.mpr ⟨hb,by rw[d1];exact hg⟩
include G hm W P h01 hz in
theorem Ef(ho:one=0\/one=1){q0:Int×Int}(h0:q0∈md ps ss who one) :
  dq [gD ps,wD ss,.int one,tu ps ss (tx ps ss who),cW q0,.list ((if one=who then md ps ss who one else Bm ps ss (nN ps ss who) one).map cW)]=.ok (.bool false):=by
 obtain⟨L,A⟩:=P.A;have K:=F2 G hm W P (one:=one);obtain⟨hq0,g1,g2⟩:=xm P h0;obtain⟨I0,w0⟩:=rC P hq0;have hl:=CQ ps ss (nN ps ss who) one;by_cases e:one=who
 ·rw[if_pos e];subst e;have step:∀q∈md ps ss one one,∀r∈tO ps ss one (tx ps ss one) q,Φ (xq ps.length r)<Φ (xq ps.length q):=λq hq r hr=>by
   obtain⟨h1,h2,_⟩:=xm P hq;obtain⟨I,hw⟩:=rC P h1;obtain⟨Ir,wy⟩:=DJ G hm W P I hw hr;exact A.mine _ (lw I).2.1 hw (h2 rfl) _ wy
  refine yO G hm W K (π:=λq=>Φ (xq ps.length q)) (λq hq=>(xm P hq).1) (λq hq hlt r hr=>?_) hq0 (λr hr=>step q0 h0 r hr) (Nat.le_trans (List.length_filter_le _ _) (by omega));have:=step q hq r hr;show Φ (xq ps.length r)<Φ (xq ps.length q0);have hlt':Φ (xq ps.length q)<Φ (xq ps.length q0):=hlt;omega
 ·rw[if_neg e];have e2':one=1-who:=by omega
  have step:∀q∈Bm ps ss (nN ps ss who) one,∀r∈tO ps ss one (tx ps ss who) q,Ψ (xq ps.length r)<=Ψ (xq ps.length q)/\(xq ps.length q∈zh ps ss->Ψ (xq ps.length r)<Ψ (xq ps.length q)):=λq hq r hr=>by
   obtain⟨I,hw⟩:=rC P hq;obtain⟨Ir,wy⟩:=DJ G hm W P I hw hr;rw[e2']at wy hw;exact A.oth _ (lw I).2.1 hw _ wy
  refine yO G hm W K (π:=λq=>Ψ (xq ps.length q)) (λq hq=>hq) (λq hq hlt r hr=>?_) hq0 (λr hr=>(step q0 hq0 r hr).2 (g2 e)) (by omega);have:=(step q hq r hr).1;show Ψ (xq ps.length r)<Ψ (xq ps.length q0);have hlt':Ψ (xq ps.length q)<Ψ (xq ps.length q0):=hlt;omega
end
theorem sL{α:Type}:∀l:List α,D2.pO (l.map λ_=>Qa.bool true)=some true
 | []=>rfl
 | _::l=>by simp only[List.map_cons,D2.pO,sL l,Option.map_some,Bool.true_and]
theorem sR{α:Type}(l:List α):pP (.list (l.map λ_=>Qa.bool true))=.ok (.bool true):=by
 show(match pO (l.map λ_=>Qa.bool true)with|some k=>R.ok (Qa.bool k)|none=>.no)=_;rw[sL]
theorem Cf(xs:List Qa):gL .tuple (.tuple xs)=.ok (.bool true):=rfl
theorem kS{is:List Int}(h:∀i∈is,i=0\/i=1)(hl:is.length<=100):br [.tuple (is.map .int),.int is.length]=.ok (.bool true):=by
 have s2:2<=sizeLine:=by decide
 unfold br gv;refine eJ ?_;show aO _ _ [.val (.tuple (is.map .int)),.val (.int is.length)]=_;rw[aF (ρ':=[.val (.tuple (is.map .int)),.val (.int is.length)]) (by
  simp only[cj,kr,fB,bT,bL,bf,ap,au,R.ok_bind,Cf,ca,kW,Qd,yX,decide_true];rfl)]
 have hc:bJ (aE 0) (λ_=>.ok true) (qH (e1 (gL .int) (ag 0)) (qH (BY (e1 (gL .bool) (ag 0))) (e2 (pZ false) (ag 0) (gM (ai (eC (.int 0)) (ai (eC (.int 1)) az)))))) [.non] (is.map .int)=.ok ((is.map Qa.int).map λ_=>.bool true):=by
  refine eA (i:=0) (G:=λ_=>Qa.bool true) _ _ _ λd hd=>?_
  obtain⟨i,hi,rfl⟩:=List.mem_map.mp hd;rcases h i hi with rfl|rfl<;>rfl
 rw[da,bL,bg,show aB 1 [] [.val (.tuple (is.map .int)),.val (.int is.length)]=[.non]from rfl];simp only[bV,ap,R.ok_bind,dG,cb];rw[if_pos (bG (by rw[Qd];omega)),hc];simp only[iq,R.ok_bind,sR]
abbrev oP(ps:List P4)(ss:List St)(d:Qa)(c3 c4 c5 c6 c7:ba):aV:=[.val d,.val (gD ps),.val (wD ss),c3,c4,c5,c6,c7]
def oM:Fs:=(aO (hW (nV (fg (tE (e1 (gL .tuple) (ag 3)))) (tE (e2 (mL) (bD (dY (ag 3)) 1 [] (aE 0) (λ_=>.ok true) (e1 ci (ag 0))) (e2 oZ (kE (ai (e1 ci (ag 1)) az)) (e1 ci (ag 2)))))) (bQ (eC (.bool false))) bU) (hW (fg (tE (e1 pP (bD (dY (ag 3)) 1 [] (aE 0) (λ_=>.ok true) (e1 (gL .tuple) (ag 0)))))) (bQ (eC (.bool false))) bU))
theorem vY(d:Qa):∀k:Nat,(Qi k [d]).flatten=Qi k d
 | 0=>rfl
 |k+1=>by simp[List.replicate_succ,vY d k]
theorem G8{xs:List Qa}{k:Int}(h0:0<=k)(h1:k<=1000)(h:xs.length*k.toNat<=sizeLine):oZ (.list xs) (.int k)=.ok (.list (Qi k.toNat xs).flatten):=by
 show(if -(2 ^ 63)<=k/\k<2 ^ 63/\xs.length*k.toNat<=sizeLine then R.ok (Qa.list (Qi k.toNat xs).flatten)else .no)=_;rw[if_pos ⟨by omega,by omega,h⟩]
theorem A0(n:Int):∀k:Nat,(Qa.list (Qi k (Qa.int n))).depth=1:=λk=>by
 have h:Qa.depthAll (Qi k (Qa.int n))=0:=by
  induction k with
  |zero=>rfl
  |succ k ih=>simp[List.replicate_succ,Qa.depthAll,Qa.depth,ih]
 simp[Qa.depth,h]
theorem rw_body{ps:List P4}{ss:List St}{d:Qa}{f:Int->Qa}(hk:ss.length<=60){c4 c5 c6 c7:ba} :
  oM (oP ps ss d (.val (fu f ss.length ps.length)) c4 c5 c6 c7)=.ok (.nx (oP ps ss d (.val (fu f ss.length ps.length)) c4 c5 c6 c7)):=by
 have s1:1<=sizeLine:=by decide
 have hlg:ci (gD ps)=.ok (.int ps.length):=by simp
 have hlw:ci (wD ss)=.ok (.int ss.length):=by simp[wD]
 have h1:bJ (aE 0) (λ_=>.ok true) (e1 ci (ag 0)) [.non] (cG (λs=>.tuple (cG (λi=>f (s*ps.length+i)) ps.length)) ss.length)=.ok (Qi ss.length (.int ps.length)):=by
  rw[eA (i:=0) (G:=λ_=>Qa.int ps.length) _ _ _ λx hx=>?_]
  ·rw[List.map_const',bH]
  ·obtain⟨s,_,rfl⟩:=List.mem_map.mp hx;show(ci (.tuple (cG _ ps.length)))=_;rw[kW,bH]
 have h2:bJ (aE 0) (λ_=>.ok true) (e1 (gL .tuple) (ag 0)) [.non] (cG (λs=>.tuple (cG (λi=>f (s*ps.length+i)) ps.length)) ss.length)=.ok ((cG (λs=>.tuple (cG (λi=>f (s*ps.length+i)) ps.length)) ss.length).map λ_=>.bool true):=by
  refine eA (i:=0) (G:=λ_=>Qa.bool true) _ _ _ λx hx=>?_
  obtain⟨s,_,rfl⟩:=List.mem_map.mp hx;rfl
 have hmul:oZ (.list [.int ps.length]) (.int ss.length)=.ok (.list (Qi ss.length (.int ps.length))):=by
  exact(G8 (by omega) (by omega) (bG (by simp;omega))).trans (by rw[Int.toNat_natCast,vY])
 have hgd:fK (.list (Qi ss.length (Qa.int ps.length))):=sU.mpr λx hx=>by rw[List.eq_of_mem_replicate hx];exact kZ _
 have hdp:(Qa.list (Qi ss.length (Qa.int ps.length))).depth<=60:=by
  rw[A0];omega
 unfold oM;rw[aF (ρ':=oP ps ss d (.val (fu f ss.length ps.length)) c4 c5 c6 c7) (by
  rw[cj,kr,fB,bT,bL];simp only[ap,au,R.ok_bind,Cf,ca,Bool.not_true,Bool.false_eq_true,if_false];rw[bT,bf,bg,show aB 1 [] (oP ps ss d (.val (fu f ss.length ps.length)) c4 c5 c6 c7)=[.non]from rfl];simp only[bV,ap,au,R.ok_bind,dG,cb];rw[if_pos (bG (by rw[bH];omega)),h1];simp -implicitDefEqProofs only[iq,bf,bL,lE,ay,aG,ap,au,R.ok_bind,hlg,hlw,List.length_cons,List.length_nil,Nat.zero_add,if_pos s1,hmul,BS hgd hdp,ca];rfl)]
 rw[cj,fB,bT,bL,bg,show aB 1 [] (oP ps ss d (.val (fu f ss.length ps.length)) c4 c5 c6 c7)=[.non]from rfl];simp only[bV,ap,au,R.ok_bind,dG,cb];rw[if_pos (bG (by rw[bH];omega)),h2];simp only[iq,R.ok_bind,sR,ca];rfl
def Ip(ps:List P4)(ss:List St)(fw fm:Int->Qa):Prop:=∀s i:Int,0<=s->s<ss.length->0<=i->i<ps.length->∃w m,fw (s*ps.length+i)=.int w/\(w=0\/w=1)/\fm (s*ps.length+i)=oD m/\m.isNone=!decide (aL ps i=w)/\∀g,m=some g->g∈bj ps i
def og:Fs:=(aO (bZ 6 (e2 aX (e2 aX (e2 aX (ag 0) (eC (.int 1))) (ag 4)) (ag 5))) (aO (bZ 7 (e2 aX (e2 aX (e2 aX (ag 0) (eC (.int 2))) (ag 4)) (ag 5))) (aO (hW (nV (fg (tE (aC br (ai (gM (ai (ag 6) az)) (ai (eC (.int 1)) az))))) (tE (e2 (mL) (e2 (nA) (ag 7) (eC .none)) (e2 (mL) (e2 aX (e2 aX (ag 1) (ag 5)) (eC (.int 0))) (ag 6))))) (bQ (eC (.bool false))) bU) (hW (jE (tE (e2 (kx) (ag 7) (eC .none))) (nV (tE (e1 (gL .bool) (ag 7))) (tE (e2 (pZ true) (ag 7) (e2 aX (e2 aX (ag 1) (ag 5)) (eC (.int 3))))))) (bQ (eC (.bool false))) bU))))
theorem Ja(b:Bool):mL (.bool b) (.bool b)=.ok (.bool false):=by cases b<;>rfl
section
variable{ps:List P4}{ss:List St}{fw fm:Int->Qa}(S:Ip ps ss fw fm){d0:Qa}
abbrev mM(ps:List P4)(ss:List St)(d0:Qa)(fw fm:Int->Qa):Qa:=.tuple [d0,fu fw ss.length ps.length,fu fm ss.length ps.length]
include S in
theorem Ei{s i:Int}(s0:0<=s)(s1:s<ss.length)(i0:0<=i)(i1:i<ps.length){c3 c6 c7:ba}:∃c6' c7',og (oP ps ss (mM ps ss d0 fw fm) c3 (.val (.int s)) (.val (.int i)) c6 c7)=.ok (.nx (oP ps ss (mM ps ss d0 fw fm) c3 (.val (.int s)) (.val (.int i)) c6' c7')):=by
 obtain⟨w,m,h1,h2,h3,h4,h5⟩:=S s i s0 s1 i0 i1;refine⟨.val (.int w),.val (oD m),?_⟩;have a1:aX (mM ps ss d0 fw fm) (.int 1)=.ok (fu fw ss.length ps.length):=rfl;have a2:aX (mM ps ss d0 fw fm) (.int 2)=.ok (fu fm ss.length ps.length):=rfl;have b1:=hZ (f:=λs=>Qa.tuple (cG (λi=>fw (s*ps.length+i)) ps.length)) (n:=ss.length) s0 s1;have b2:=hZ (f:=λi=>fw (s*ps.length+i)) (n:=ps.length) i0 i1;have b3:=hZ (f:=λs=>Qa.tuple (cG (λi=>fm (s*ps.length+i)) ps.length)) (n:=ss.length) s0 s1;have b4:=hZ (f:=λi=>fm (s*ps.length+i)) (n:=ps.length) i0 i1;rw[h1]at b2;rw[h3]at b4;obtain⟨p,ep⟩:∃p,p=(ps[i.toNat]'(by omega)).d:=⟨_,rfl⟩
 have e0:=ky i0 i1;have q1:=Cj i0 i1;have q2:=wf i0 i1;rw[e0,R.ok_bind]at q1 q2;rw[<-ep]at q1 q2 e0;have hw:=kS (is:=[w]) (λj hj=>by simp at hj;rw[hj];exact h2) (by simp);simp only[List.map_cons,List.map_nil,List.length_cons,List.length_nil,Nat.zero_add]at hw;have hw':br [.tuple [.int w],.int 1]=.ok (.bool true):=hw;have l1:1<=sizeLine:=by decide
 unfold og;rw[aF (ρ':=oP ps ss (mM ps ss d0 fw fm) c3 (.val (.int s)) (.val (.int i)) (.val (.int w)) c7) (by
  simp only[bp,bf,ap,au,bA,R.ok_bind,a1,b1,b2];rfl)]
 rw[aF (ρ':=oP ps ss (mM ps ss d0 fw fm) c3 (.val (.int s)) (.val (.int i)) (.val (.int w)) (.val (oD m))) (by
  simp only[bp,bf,ap,au,bA,R.ok_bind,a2,b3,b4];rfl)]
 rw[aF (ρ':=oP ps ss (mM ps ss d0 fw fm) c3 (.val (.int s)) (.val (.int i)) (.val (.int w)) (.val (oD m))) (by
  simp only[cj,kr,fB,bT,bf,aS,ay,aG,gy,ap,au,bA,R.ok_bind,List.length_cons,List.length_nil,Nat.zero_add,if_pos l1,hw',ca,uM,e0,q1,yX,h4,Ja];rfl)]
 cases m with
 |none=>rfl
 |some g=>
  have hg:e8 (bj ps i) g=true:=cN.mpr (h5 g rfl);have ii:gL .bool (.int g)=.ok (.bool false):=rfl;have nn:kx (.int g) .none=.ok (.bool true):=rfl;show hW _ _ _ (oP ps ss (mM ps ss d0 fw fm) c3 (.val (.int s)) (.val (.int i)) (.val (.int w)) (.val (.int g)))=_;simp only[cj,gg,kr,bT,bL,bf,ap,au,bA,R.ok_bind,nn,ii,ca,e0,q2,GQ,hg];rfl
include S in
theorem yV{s:Int}(s0:0<=s)(s1:s<ss.length){c3:ba}:∀(is:List Int) (c5 c6 c7:ba),(∀i∈is,i∈ids ps.length)->∃c5' c6' c7',gc (aE 5) og (is.map .int) (oP ps ss (mM ps ss d0 fw fm) c3 (.val (.int s)) c5 c6 c7)=.ok (.nx (oP ps ss (mM ps ss d0 fw fm) c3 (.val (.int s)) c5' c6' c7'))
 | [],c5,c6,c7,_=>⟨c5,c6,c7,by rw[List.map_nil,dw]⟩
 |i::is,c5,c6,c7,h=>by
  obtain⟨i0,i1⟩:=bW.mp (h i List.mem_cons_self);obtain⟨a,b,e⟩:=Ei S (d0:=d0) s0 s1 i0 i1 (c3:=c3) (c6:=c6) (c7:=c7);obtain⟨x,y,z,e2'⟩:=yV s0 s1 is (.val (.int i)) a b λj hj=>h j (Qf _ hj)
  refine⟨x,y,z,?_⟩;rw[List.map_cons,bY,<-e2'];show(og (oP ps ss (mM ps ss d0 fw fm) c3 (.val (.int s)) (.val (.int i)) c6 c7)>>=_)=_;rw[e,R.ok_bind,cO]
def rG:Fs:=(gk (gO (eo (ai (e1 ci (ag 1)) az)) (aE 5) og))
include S in
theorem zW(hn:ps.length<=1000){c3:ba}:∀(is:List Int) (c4 c5 c6 c7:ba),(∀i∈is,i∈ids ss.length)->∃c4' c5' c6' c7',gc (aE 4) rG (is.map .int) (oP ps ss (mM ps ss d0 fw fm) c3 c4 c5 c6 c7)=.ok (.nx (oP ps ss (mM ps ss d0 fw fm) c3 c4' c5' c6' c7'))
 | [],c4,c5,c6,c7,_=>⟨c4,c5,c6,c7,by rw[List.map_nil,dw]⟩
 |s::is,c4,c5,c6,c7,h=>by
  obtain⟨s0,s1⟩:=bW.mp (h s List.mem_cons_self);obtain⟨a,b,c,e⟩:=yV S (d0:=d0) s0 s1 (c3:=c3) (ids ps.length) c5 c6 c7 λi hi=>hi
  obtain⟨w,x,y,z,e2'⟩:=zW hn is (.val (.int s)) a b c λj hj=>h j (Qf _ hj)
  refine⟨w,x,y,z,?_⟩;rw[List.map_cons,bY,<-e2'];show(rG (oP ps ss (mM ps ss d0 fw fm) c3 (.val (.int s)) c5 c6 c7)>>=_)=_;have hlg:ci (gD ps)=.ok (.int ps.length):=by simp
  have hb:rG (oP ps ss (mM ps ss d0 fw fm) c3 (.val (.int s)) c5 c6 c7)=.ok (.nx (oP ps ss (mM ps ss d0 fw fm) c3 (.val (.int s)) a b c)):=by
   unfold rG;rw[dF,dX,fD];simp -implicitDefEqProofs only[ay,aG,bL,ap,au,R.ok_bind,hlg,nP hn];rw[e];rfl
  rw[hb,R.ok_bind,cO]
include S in
theorem A8(hk:ss.length<=60)(hn:ps.length<=100){is:List Int}(hl:is.length=ps.length)(h:∀i∈is,i=0\/i=1)(hd:d0=.tuple (is.map .int)):cH [mM ps ss d0 fw fm,gD ps,wD ss]=.ok (.bool true):=by
 have l2:2<=sizeLine:=by decide
 have hlg:ci (gD ps)=.ok (.int ps.length):=by simp
 have hlw:ci (wD ss)=.ok (.int ss.length):=by simp[wD]
 have a0:aX (mM ps ss d0 fw fm) (.int 0)=.ok d0:=rfl;have a1:aX (mM ps ss d0 fw fm) (.int 1)=.ok (fu fw ss.length ps.length):=rfl;have a2:aX (mM ps ss d0 fw fm) (.int 2)=.ok (fu fm ss.length ps.length):=rfl;have hl3:ci (mM ps ss d0 fw fm)=.ok (.int 3):=rfl;have hw:=kS h (by omega);rw[<-hd,hl]at hw;unfold cH jN;refine eJ ?_;show aO _ _ (oP ps ss (mM ps ss d0 fw fm) .non .non .non .non .non)=_;rw[aF (ρ':=oP ps ss (mM ps ss d0 fw fm) .non .non .non .non .non) (by
  simp -implicitDefEqProofs only[cj,kr,fB,bT,bL,bf,aS,ay,aG,ap,au,bA,R.ok_bind,Cf,hl3,yX,a0,hlg,hw,ca,decide_true,Bool.not_true,Bool.false_eq_true,if_false];rfl)]
 have hfr:gc (aE 3) oM [fu fw ss.length ps.length,fu fm ss.length ps.length] (oP ps ss (mM ps ss d0 fw fm) .non .non .non .non .non)=.ok (.nx (oP ps ss (mM ps ss d0 fw fm) (.val (fu fm ss.length ps.length)) .non .non .non .non)):=by
  rw[bY];show(oM (oP ps ss (mM ps ss d0 fw fm) (.val (fu fw ss.length ps.length)) .non .non .non .non)>>=_)=_;rw[rw_body hk,R.ok_bind,cO,bY];show(oM (oP ps ss (mM ps ss d0 fw fm) (.val (fu fm ss.length ps.length)) .non .non .non .non)>>=_)=_;rw[rw_body hk,R.ok_bind,cO,dw]
 rw[aF (ρ':=oP ps ss (mM ps ss d0 fw fm) (.val (fu fm ss.length ps.length)) .non .non .non .non) (by
  rw[dF,dX,bV,gy];simp -implicitDefEqProofs only[ay,aG,bf,ap,bA,R.ok_bind,a1,a2,List.length_cons,List.length_nil,Nat.zero_add,Nat.reduceAdd,if_pos l2,dG];unfold oM at hfr;rw[hfr];rfl)]
 obtain⟨w,x,y,z,e⟩:=zW S (d0:=d0) (by omega) (c3:=.val (fu fm ss.length ps.length)) (ids ss.length) .non .non .non .non λi hi=>hi
 rw[aF (ρ':=oP ps ss (mM ps ss d0 fw fm) (.val (fu fm ss.length ps.length)) w x y z) (by
  rw[dF,dX,fD];simp -implicitDefEqProofs only[ay,aG,bL,ap,au,R.ok_bind,hlw,nP (show ss.length<=1000 by omega)];unfold rG og at e;rw[e];rfl)]
 rfl
end
section
variable{ps:List P4}(G:Gr ps){who:Int}(h01:who=0\/who=1){ss:List St}{Wn:Int->Int}{M:Int->Option Int}{Φ Ψ:Int->Int}(P:D1 ps ss who Wn M Φ Ψ)
include h01 P in
theorem DI{x:Int}(hx:x∈ids (ss.length*ps.length)):Wn x=0\/Wn x=1:=by
 obtain⟨L,A⟩:=P.A;have:=A.two x hx;omega
include G h01 P in
theorem JG:Ip ps ss (λx=>oD (nN ps ss who x)) (λx=>oD ((tx ps ss who x).map (·%(ps.length:Int)))):=λs i s0 s1 i0 i1=>by
 obtain⟨L,A⟩:=P.A;have I:DZ ps ss (s,i):=⟨s0,s1,i0,i1⟩
 obtain⟨hb,hx,d1,d2⟩:=lw I;have ho:aL (dZ ps ss) (xq ps.length (s,i))=aL ps i:=by rw[nL hb.1 hb.2,d2]
 refine⟨Wn (xq ps.length (s,i)),(M (xq ps.length (s,i))).map (·%(ps.length:Int)),?_,DI h01 P hx,?_,?_,λg hg=>?_⟩
 ·show oD (nN ps ss who (xq ps.length (s,i)))=_;rw[P.wn _ hx];rfl
 ·show oD ((tx ps ss who (xq ps.length (s,i))).map _)=_;rw[P.mv _ hx]
 ·by_cases h:aL ps i=Wn (xq ps.length (s,i))
  ·obtain⟨y,y1,_⟩:=A.has _ hx (ho.trans h);rw[y1,decide_eq_true h];rfl
  ·rw[A.non _ hx (λz=>h (ho.symm.trans z)),decide_eq_false h];rfl
 ·by_cases h:aL ps i=Wn (xq ps.length (s,i))
  ·obtain⟨y,y1,y2⟩:=A.has _ hx (ho.trans h);rw[y1]at hg;obtain⟨g',hg',ey⟩:=(oJ hb.1 hb.2).mp y2;rw[d2]at hg';simp at hg;have hgin:=G.goals hg';have e2':=(ny (s:=dz ss (xq ps.length (s,i) / ps.length) (aU ps g')) hgin.1 hgin.2).2;rw[<-ey,hg]at e2';rw[e2'];exact hg'
  ·rw[A.non _ hx (λz=>h (ho.symm.trans z))]at hg;cases hg
end
abbrev Cp(a:Qa)(ps:List P4)(ss:List St)(who:Int)(D fs:Qa)(c6 c7 c8 c9 c10 c11 c12:ba):aV:=[.val a,.val (gD ps),.val (wD ss),.val (.int who),.val D,.val fs,c6,c7,c8,c9,c10,c11,c12]
def oI:Fs:=(hW (tE (e2 (jc) (e2 aX (e2 aX (e2 aX (ag 4) (eC (.int 1))) (ag 8)) (ag 9)) (ag 6))) (pB 7 (gM (ai (ag 8) (ai (ag 9) az))) (eC (.bool true))) bU)
section
variable{a fs d0:Qa}{ps:List P4}{ss:List St}{who one:Int}{wn:Int->Option Int}{fm:Int->Qa}{c10 c11 c12:ba}
abbrev xF(ps:List P4)(ss:List St)(d0:Qa)(wn:Int->Option Int)(fm:Int->Qa):Qa:=mM ps ss d0 (λx=>oD (wn x)) fm
theorem Fb{s i:Int}(s0:0<=s)(s1:s<ss.length)(i0:0<=i)(i1:i<ps.length){l:List (Int×Int)}(hn:(s,i)∉l)(hl:l.length<=1000) :
  oI (Cp a ps ss who (xF ps ss d0 wn fm) fs (.val (.int one)) (.own (lN l)) (.val (.int s)) (.val (.int i)) c10 c11 c12)=.ok (.nx (Cp a ps ss who (xF ps ss d0 wn fm) fs (.val (.int one)) (.own (lN (if wn (s*ps.length+i)=some one then l++[(s,i)]else l))) (.val (.int s)) (.val (.int i)) c10 c11 c12)):=by
 have a1:aX (xF ps ss d0 wn fm) (.int 1)=.ok (fu (λx=>oD (wn x)) ss.length ps.length):=rfl;have b1:=hZ (f:=λs=>Qa.tuple (cG (λi=>oD (wn (s*ps.length+i))) ps.length)) (n:=ss.length) s0 s1;have b2:=hZ (f:=λi=>oD (wn (s*ps.length+i))) (n:=ps.length) i0 i1;have l2:2<=sizeLine:=by decide
 by_cases h:wn (s*ps.length+i)=some one
 ·rw[if_pos h];unfold oI;simp only[cj,bT,bf,ap,au,bA,R.ok_bind,a1,b1,b2,uG,ca,h,decide_true,if_true];rw[wA (l:=l) (q:=(s,i)) (by simp only[gy,ay,aG,ap,au,R.ok_bind,List.length_cons,List.length_nil,Nat.zero_add,Nat.reduceAdd,if_pos l2]) rfl rfl hn hl];rfl
 ·rw[if_neg h];unfold oI;simp only[cj,bT,bf,ap,au,bA,R.ok_bind,a1,b1,b2,uG,ca,h,decide_false,Bool.false_eq_true,if_false];rfl
theorem zJ{s:Int}(s0:0<=s)(s1:s<ss.length):∀(is:List Int) (l:List (Int×Int)) (c9:ba),(∀i∈is,i∈ids ps.length/\(s,i)∉l)->is.Nodup->l.length+is.length<=1000 ->
  ∃c9',gc (aE 9) oI (is.map .int) (Cp a ps ss who (xF ps ss d0 wn fm) fs (.val (.int one)) (.own (lN l)) (.val (.int s)) c9 c10 c11 c12)=.ok (.nx (Cp a ps ss who (xF ps ss d0 wn fm) fs (.val (.int one)) (.own (lN (l++(is.filter λi=>decide (wn (s*ps.length+i)=some one)).map λi=>(s,i)))) (.val (.int s)) c9' c10 c11 c12))
 | [],l,c9,_,_,_=>⟨c9,by rw[List.map_nil,dw,List.filter_nil,List.map_nil,List.append_nil]⟩
 |i::is,l,c9,h,nd,hl=>by
  obtain⟨hi,hn⟩:=h i List.mem_cons_self;obtain⟨i0,i1⟩:=bW.mp hi;rw[List.length_cons]at hl;obtain⟨nd1,nd2⟩:=List.nodup_cons.mp nd;obtain⟨c9',e⟩:=zJ s0 s1 is (if wn (s*ps.length+i)=some one then l++[(s,i)]else l) (.val (.int i)) (λj hj=>⟨(h j (Qf _ hj)).1,λz=>by
   have hj':=(h j (Qf _ hj)).2;split at z
   ·rcases List.mem_append.mp z with z|z
    ·exact hj' z
    ·simp at z;exact nd1 (z▸hj)
   ·exact hj' z⟩) nd2 (by split<;>(try rw[List.length_append,List.length_singleton])<;>omega)
  refine⟨c9',?_⟩;rw[List.map_cons,bY];show(oI (Cp a ps ss who (xF ps ss d0 wn fm) fs (.val (.int one)) (.own (lN l)) (.val (.int s)) (.val (.int i)) c10 c11 c12)>>=_)=_;rw[Fb s0 s1 i0 i1 hn (by omega),R.ok_bind,cO,e];by_cases h:wn (s*ps.length+i)=some one
  ·rw[if_pos h,List.filter_cons_of_pos (by simp[h]),List.map_cons,List.append_assoc];rfl
  ·rw[if_neg h,List.filter_cons_of_neg (by simp[h])]
def rD:Fs:=(gk (gO (eo (ai (e1 ci (ag 1)) az)) (aE 9) oI))
theorem zP(hp:ps.length<=100):∀(is:List Int) (l:List (Int×Int)) (c8 c9:ba),(∀s∈is,s∈ids ss.length/\∀i,(s,i)∉l)->is.Nodup->l.length+is.length*ps.length<=1000 ->
  ∃c8' c9',gc (aE 8) rD (is.map .int) (Cp a ps ss who (xF ps ss d0 wn fm) fs (.val (.int one)) (.own (lN l)) c8 c9 c10 c11 c12)=.ok (.nx (Cp a ps ss who (xF ps ss d0 wn fm) fs (.val (.int one)) (.own (lN (l++is.flatMap λs=>((ids ps.length).filter λi=>decide (wn (s*ps.length+i)=some one)).map λi=>(s,i)))) c8' c9' c10 c11 c12))
 | [],l,c8,c9,_,_,_=>⟨c8,c9,by rw[List.map_nil,dw,List.flatMap_nil,List.append_nil]⟩
 |s::is,l,c8,c9,h,nd,hl=>by
  obtain⟨hs,hn⟩:=h s List.mem_cons_self;obtain⟨s0,s1⟩:=bW.mp hs;rw[List.length_cons,Nat.add_mul,Nat.one_mul]at hl;obtain⟨nd1,nd2⟩:=List.nodup_cons.mp nd;obtain⟨x,e⟩:=zJ (a:=a) (fs:=fs) (d0:=d0) (who:=who) (one:=one) (wn:=wn) (fm:=fm) (c10:=c10) (c11:=c11) (c12:=c12) s0 s1 (ids ps.length) l c9 (λi hi=>⟨hi,hn i⟩) (rz (xK _)) (by rw[gz];omega);have hlen:(((ids ps.length).filter λi=>decide (wn (s*ps.length+i)=some one)).map λi=>(s,i)).length<=ps.length:=by
   rw[Qd];exact Nat.le_trans (List.length_filter_le _ _) (by rw[gz];exact Nat.le_refl _)
  obtain⟨y,z,e2'⟩:=zP hp is (l++((ids ps.length).filter λi=>decide (wn (s*ps.length+i)=some one)).map λi=>(s,i)) (.val (.int s)) x (λs' hs'=>⟨(h s' (Qf _ hs')).1,λi z=>by
   rcases List.mem_append.mp z with z|z
   ·exact(h s' (Qf _ hs')).2 i z
   ·obtain⟨j,_,ej⟩:=List.mem_map.mp z;injection ej with e1' _
    exact nd1 (e1'▸hs')⟩) nd2 (by rw[List.length_append];omega)
  refine⟨y,z,?_⟩;rw[List.map_cons,bY];show(rD (Cp a ps ss who (xF ps ss d0 wn fm) fs (.val (.int one)) (.own (lN l)) (.val (.int s)) c9 c10 c11 c12)>>=_)=_;have hlg:ci (gD ps)=.ok (.int ps.length):=by simp
  have hb:rD (Cp a ps ss who (xF ps ss d0 wn fm) fs (.val (.int one)) (.own (lN l)) (.val (.int s)) c9 c10 c11 c12)=.ok (.nx (Cp a ps ss who (xF ps ss d0 wn fm) fs (.val (.int one)) (.own (lN (l++((ids ps.length).filter λi=>decide (wn (s*ps.length+i)=some one)).map λi=>(s,i)))) (.val (.int s)) x c10 c11 c12)):=by
   unfold rD;rw[dF,dX,fD];simp -implicitDefEqProofs only[ay,aG,bL,ap,au,R.ok_bind,hlg,nP (show ps.length<=1000 by omega)];rw[e];rfl
  rw[hb,R.ok_bind,cO,e2',List.flatMap_cons,List.append_assoc]
end
abbrev Lv:Str:=PySem.Str.ofString "NoWatcher"
theorem wL{d:Qa}(hg:fK d)(h:sD d=false){ps:List P4}{who:Int}{c:Addr}:cm c [gD ps,d,.int who]=.ex Lv:=by
 have ht:=lX hg;unfold cm lx;rw[fN,show([gD ps,d,Qa.int who].map ba.val++Qi (9 - [gD ps,d,Qa.int who].length) ba.non)=[.val (gD ps),.val d,.val (.int who),.non,.non,.non,.non,.non,.non]from rfl];rw[uZ,cj,fB,bT];simp only[aS,ay,aG,ap,au,R.ok_bind,ht,h,ca];rfl
theorem yh{d:Qa}(hg:fK d)(h:sD d=false){ps:List P4}{who:Int}{c:Addr}:cF c [gD ps,d,.int who]=.ok (.bool true):=by
 have h1:=wL hg h (ps:=ps) (who:=who) (c:=c);unfold cF i8;refine eJ ?_;rw[show([gD ps,d,Qa.int who].map ba.val++Qi (4 - [gD ps,d,Qa.int who].length) ba.non)=[.val (gD ps),.val d,.val (.int who),.non]from rfl];refine yl ?_;have hx:∀p,(λp (ρ:aV)=>(uF 3 p) (ρ.set 3 (.exc p))) p ([.val (gD ps),.val d,.val (.int who),.non]:aV)=.ok (.bool true):=λp=>by
  show uF 3 p _=_;unfold uF;simp
 unfold zU;simp -implicitDefEqProofs only[ay,aG,ap,au,R.ok_bind,cb,h1,FG,List.lookup_cons,beq_self_eq_true];rw[show(λp=>uF 3 p (([.val (gD ps),.val d,.val (.int who),.non]:aV).set 3 (.exc p)))=λ_=>R.ok (Qa.bool true)from funext hx,x8];rfl
def qA:Fs:=(hW (tE (aC dq (ai (ag 1) (ai (ag 2) (ai (ag 6) (ai (e2 aX (ag 4) (eC (.int 2))) (ai (ag 12) (ai (ag 11) az)))))))) (bQ (eC (.bool false))) bU)
def oG:Fs:=(aO (gP 7 (eC (.dict [(.bool true,.none)]))) (aO (gk (gO (eo (ai (e1 ci (ag 2)) az)) (aE 8) rD)) (aO (hW (fg (tE (jq 7 (aC cw (ai (ag 1) (ai (ag 2) (ai (ag 6) (ai (e2 aX (ag 4) (eC (.int 2))) (ai (ag 7) az))))))))) (bQ (eC (.bool false))) bU) (aO (HI 7 (bZ 10 (bD (qS (ag 7)) 1 [2,6,3] (aE 0) (tE (e2 (jc) (e2 aX (e2 aX (ag 1) (e2 aX (ag 0) (eC (.int 0)))) (eC (.int 0))) (e1 su (e2 (mL) (ag 2) (ag 3))))) (ag 0)))) (aO (bZ 11 (e1 qF (eS 7))) (aO (hW (tE (e2 (jc) (ag 6) (ag 3))) (bZ 11 (ag 10)) bU) (gk (gO (dY (ag 10)) (aE 12) qA))))))))
section
variable{a fs d0:Qa}{ps:List P4}(G:Gr ps)(hm:∀i∈ids ps.length,0<=aU ps i/\aU ps i<13){who:Int}(h01:who=0\/who=1){ss:List St}(W:Wt ss)(hz:ss.length*ps.length<=60)(hp1:1<=ps.length)
 {Wn:Int->Int} {M:Int->Option Int} {Φ Ψ:Int->Int} (P:D1 ps ss who Wn M Φ Ψ) {one:Int} (ho:one=0\/one=1)
abbrev oR(a fs d0:Qa)(ps:List P4)(ss:List St)(who:Int)(c6 c7 c8 c9 c10 c11 c12:ba):aV:=Cp a ps ss who (xF ps ss d0 (nN ps ss who) (λx=>oD ((tx ps ss who x).map (·%(ps.length:Int))))) fs c6 c7 c8 c9 c10 c11 c12
abbrev Eb(ps:List P4)(ss:List St)(who one:Int):List (Int×Int):=if one=who then md ps ss who one else Bm ps ss (nN ps ss who) one
include G hm h01 W hz P ho in
theorem yS{c7 c8 c9 c10:ba}:∀(bs:List (Int×Int)) (c12:ba),(∀q∈bs,q∈md ps ss who one)->∃c12',gc (aE 12) qA (bs.map cW) (oR a fs d0 ps ss who (.val (.int one)) c7 c8 c9 c10 (.val (.list ((Eb ps ss who one).map cW))) c12)=.ok (.nx (oR a fs d0 ps ss who (.val (.int one)) c7 c8 c9 c10 (.val (.list ((Eb ps ss who one).map cW))) c12'))
 | [],c12,_=>⟨c12,by rw[List.map_nil,dw]⟩
 |q::bs,c12,h=>by
  obtain⟨x,e⟩:=yS bs (.val (cW q)) λr hr=>h r (Qf _ hr)
  refine⟨x,?_⟩;have hb:=Ef G hm h01 W hz P ho (h q List.mem_cons_self);rw[List.map_cons,bY,<-e];show(qA (oR a fs d0 ps ss who (.val (.int one)) c7 c8 c9 c10 (.val (.list ((Eb ps ss who one).map cW))) (.val (cW q)))>>=_)=_;have hbd:qA (oR a fs d0 ps ss who (.val (.int one)) c7 c8 c9 c10 (.val (.list ((Eb ps ss who one).map cW))) (.val (cW q)))=.ok (.nx (oR a fs d0 ps ss who (.val (.int one)) c7 c8 c9 c10 (.val (.list ((Eb ps ss who one).map cW))) (.val (cW q)))):=by
   have a2:aX (xF ps ss d0 (nN ps ss who) (λx=>oD ((tx ps ss who x).map (·%(ps.length:Int))))) (.int 2)=.ok (tu ps ss (tx ps ss who)):=rfl;unfold qA;simp -implicitDefEqProofs only[cj,bT,aS,ay,aG,bf,ap,au,bA,R.ok_bind,a2,hb,ca];rfl
  rw[hbd,R.ok_bind,cO]
include G hm h01 W hz hp1 P ho in
theorem zD{c7 c8 c9 c10 c11 c12:ba}:∃c7' c8' c9' c10' c11' c12',oG (oR a fs d0 ps ss who (.val (.int one)) c7 c8 c9 c10 c11 c12)=.ok (.nx (oR a fs d0 ps ss who (.val (.int one)) c7' c8' c9' c10' c11' c12')):=by
 have n0:=W.n0;have n1:=W.n1;have hn:=G.hp;have hlw:ci (wD ss)=.ok (.int ss.length):=by simp[wD]
 obtain⟨c8',c9',e⟩:=zP (a:=a) (fs:=fs) (d0:=d0) (who:=who) (one:=one) (wn:=nN ps ss who) (fm:=λx=>oD ((tx ps ss who x).map (·%(ps.length:Int)))) (c10:=c10) (c11:=c11) (c12:=c12) (ps:=ps) (ss:=ss) (by omega) (ids ss.length) [] c8 c9 (λs hs=>⟨hs,λi z=>by cases z⟩) (rz (xK _)) (by rw[gz];simp;omega);rw[List.nil_append]at e;obtain⟨pl,epl⟩:∃pl,pl=Bm ps ss (nN ps ss who) one:=⟨_,rfl⟩
 rw[show((ids ss.length).flatMap λs=>((ids ps.length).filter λi=>decide (nN ps ss who (s*ps.length+i)=some one)).map λi=>(s,i))=pl from epl.symm]at e;have K:=F2 G hm W P (one:=one);rw[<-epl]at K;have hk:=xQ G hm W K;have hpl:pl.length<=60:=by rw[epl];exact Nat.le_trans (CQ ..) hz
 have a2:aX (xF ps ss d0 (nN ps ss who) (λx=>oD ((tx ps ss who x).map (·%(ps.length:Int))))) (.int 2)=.ok (tu ps ss (tx ps ss who)):=rfl;have ebd:pl.filter (λq=>decide (jY ss q.1=if one=who then 0 else 1))=md ps ss who one:=by rw[epl];rfl
 obtain⟨c12',eb⟩:=yS G hm h01 W hz P ho (a:=a) (fs:=fs) (d0:=d0) (c7:=.val (lN pl)) (c8:=c8') (c9:=c9') (c10:=.val (.list ((md ps ss who one).map cW))) (md ps ss who one) c12 λq hq=>hq
 refine⟨.val (lN pl),c8',c9',.val (.list ((md ps ss who one).map cW)),.val (.list ((Eb ps ss who one).map cW)),c12',?_⟩;unfold oG;rw[aF (ρ':=oR a fs d0 ps ss who (.val (.int one)) (.own (lN [])) c8 c9 c10 c11 c12) (by rfl)];rw[aF (ρ':=oR a fs d0 ps ss who (.val (.int one)) (.own (lN pl)) c8' c9' c10 c11 c12) (by
  rw[dF,dX,fD];simp -implicitDefEqProofs only[ay,aG,bL,ap,au,R.ok_bind,hlw,nP (show ss.length<=1000 by omega)];rw[e];rfl)]
 rw[aF (ρ':=oR a fs d0 ps ss who (.val (.int one)) (.own (lN pl)) c8' c9' c10 c11 c12) (by
  rw[cj,fB,bT];unfold jq;show((((jG ((aC cw (ai (ag 1) (ai (ag 2) (ai (ag 6) (ai (e2 aX (ag 4) (eC (.int 2))) (ai (ag 7) az)))))) (oR a fs d0 ps ss who (.val (.int one)) (.val (lN pl)) (rf c8') (rf c9') (rf c10) (rf c11) (rf c12))))>>=lV)>>=_)>>=_)>>=_=_;simp -implicitDefEqProofs only[aS,ay,aG,bf,ap,au,bA,R.ok_bind,a2,hk];rfl)]
 have hcomp:bJ (aE 0) (tE (e2 (jc) (e2 aX (e2 aX (ag 1) (e2 aX (ag 0) (eC (.int 0)))) (eC (.int 0))) (e1 su (e2 (mL) (ag 2) (ag 3))))) (ag 0) [.non,.val (wD ss),.val (.int one),.val (.int who)] (pl.map cW)=.ok ((md ps ss who one).map cW):=by
  rw[<-ebd];refine mx pl λq hq=>?_
  have I:=K.inn q hq;have i0:aX (cW q) (.int 0)=.ok (.int q.1):=rfl;have i1:=wK I.s0 I.s1;have i2:aX (ss[q.1.toNat]'(by have:=I.s0;have:=I.s1;omega)).d (.int 0)=.ok (.int (jY ss q.1)):=by
   rw[Dm];unfold jY;rw[List.getElem?_eq_getElem (by have:=I.s0;have:=I.s1;omega)];rfl
  have i3:su (.bool (!decide (one=who)))=.ok (.int (if one=who then 0 else 1)):=by
   by_cases h:one=who
   ·simp[h,su]
   ·simp[h,su]
  simp only[bT,bL,bf,ap,au,bA,R.ok_bind,i0,i1,i2,yX,i3,fZ,ca]
 rw[aF (ρ':=oR a fs d0 ps ss who (.val (.int one)) (.val (lN pl)) c8' c9' (.val (.list ((md ps ss who one).map cW))) c11 c12) (by
  unfold HI;show bZ 10 _ (oR a fs d0 ps ss who (.val (.int one)) (.val (lN pl)) c8' c9' c10 c11 c12)=_;rw[bp,bg,show aB 1 [2,6,3] (oR a fs d0 ps ss who (.val (.int one)) (.val (lN pl)) c8' c9' c10 c11 c12)=[.non,.val (wD ss),.val (.int one),.val (.int who)]from rfl];rw[show qS (ag 7) (oR a fs d0 ps ss who (.val (.int one)) (.val (lN pl)) c8' c9' c10 c11 c12)=.ok (pl.map cW)from zt pl];simp only[R.ok_bind,cb];rw[if_pos (bG (by rw[Qd];omega)),hcomp];rfl)]
 rw[aF (ρ':=oR a fs d0 ps ss who (.val (.int one)) (.val (lN pl)) c8' c9' (.val (.list ((md ps ss who one).map cW))) (.val (.list (pl.map cW))) c12) (by
  simp only[bp,bL,gW,Et,R.ok_bind,ET];rfl)]
 rw[aF (ρ':=oR a fs d0 ps ss who (.val (.int one)) (.val (lN pl)) c8' c9' (.val (.list ((md ps ss who one).map cW))) (.val (.list ((Eb ps ss who one).map cW))) c12) (by
  simp only[cj,bT,bf,ap,au,R.ok_bind,fZ,ca];by_cases h:one=who
  ·rw[decide_eq_true h,if_pos rfl,show Eb ps ss who one=md ps ss who one from if_pos h];rfl
  ·rw[decide_eq_false h,if_neg (by simp),show Eb ps ss who one=pl from(if_neg h).trans epl.symm];rfl)]
 rw[dF,dX,bV];simp only[ap,au,R.ok_bind,mI];rw[eb];rfl
end
theorem vU(n:Int):∃dr:Int->Int,∀k,aJ [.int n,.int k]=.ok (.int (dr k))/\0<=dr k:=
 ⟨λk=>(kY n k).choose,λk=>⟨(kY n k).choose_spec.1,(kY n k).choose_spec.2.1⟩⟩
def u9:Fs:=(aO (bZ 4 (bD (eo (ai (eC (.int 13)) az)) 1 [0,3,1] (aE 0) (λ_=>.ok true) (e2 dQ (aC aJ (ai (ag 1) (ai (e2 eG (e2 eY (eC (.int 20)) (ag 2)) (ag 0)) az))) (ag 3)))) (gX 2 (gM (ai (e2 dQ (e2 dQ (aC aJ (ai (ag 0) (ai (e2 eG (eC (.int 99)) (ag 3)) az))) (eC (.int 3))) (eC (.int 2))) (ai (e1 cB (ag 4)) az)))))
structure Iq(c:Int)(s:St):Prop where
 g0:0<=s.g/\s.g<=1
 l:s.st.length=13
 inn:∀x∈s.st,0<=x/\x<c
theorem Ab(v c:Int)(hc:1<=c):∀(ds:List Qa) (acc:List St) (x y:ba),(∀d∈ds,∃k,d=.int k)->acc.length+ds.length<=1000 ->
  ∃ss x' y',(∀s∈ss,Iq c s)/\ss.length=ds.length/\gc (aE 3) u9 ds [.val (.int v),.val (.int c),.own (.list (acc.map St.d)),x,y]=.ok (.nx [.val (.int v),.val (.int c),.own (.list ((acc++ss).map St.d)),x',y'])
 | [],acc,x,y,_,_=>⟨[],x,y,by simp,rfl,by simp⟩
 |d::ds,acc,x,y,hi,hl=>by
  obtain⟨k,rfl⟩:=hi d List.mem_cons_self;obtain⟨dr,hdr⟩:=vU v;have hc':0<c:=by omega
  have m1:eY (.int 20) (.int k)=.ok (.int (20*k)):=gV (.inl (by omega));have hr:lU [.int 13]=.ok (bM 0 13):=rfl;have hcm:=mB (λm=>.int (dr (20*k+m)%c)) (aB 1 [0,3,1] [.val (.int v),.val (.int c),.own (.list (acc.map St.d)),.val (.int k),y]) (e2 dQ (aC aJ (ai (ag 1) (ai (e2 eG (e2 eY (eC (.int 20)) (ag 2)) (ag 0)) az))) (ag 3)) 13 λi _ _=>by
   simp[aB,Qi,m1,(hdr _).1,hc']
  have e0:cG (λm=>Qa.int (dr (20*k+m)%c)) 13=((ids 13).map λm=>dr (20*k+m)%c).map .int:=by
   unfold cG;rw[List.map_map];rfl
  rw[e0]at hcm;have s13:(13:Nat)<=sizeLine:=by decide
  have s2:(2:Nat)<=sizeLine:=by decide
  rw[List.length_cons]at hl;have hz:(acc.map St.d).length<sizeLine:=Nat.lt_of_lt_of_le (show(acc.map St.d).length<1001 by rw[Qd];omega) (by decide);generalize hst:(⟨dr (99+k)%3%2,(ids 13).map λm=>dr (20*k+m)%c⟩:St)=s;have hs:Iq c s:=by
   subst hst;refine⟨⟨by show 0<=dr (99+k)%3%2;omega,by show dr (99+k)%3%2<=1;omega⟩,by simp,λx hx=>?_⟩;obtain⟨m,_,rfl⟩:=List.mem_map.mp hx;exact⟨Int.emod_nonneg _ (by omega),Int.emod_lt_of_pos _ hc'⟩
  obtain⟨ss,x',y',h1,h2,h3⟩:=Ab v c hc ds (acc++[s]) (.val (.int k)) (.val (.list (s.st.map .int))) (λd hd=>hi d (Qf _ hd)) (by simp;omega);refine⟨s::ss,x',y',λt ht=>?_,by simp[h2],?_⟩
  ·rcases List.mem_cons.mp ht with rfl|z
   ·exact hs
   ·exact h1 t z
  ·rw[bY];rw[List.append_assoc]at h3;rw[show acc++s::ss=acc++([s]++ss)from rfl,<-h3];show(u9 [.val (.int v),.val (.int c),.own (.list (acc.map St.d)),.val (.int k),y]>>=_)=_;unfold u9;rw[aF (ρ':=[.val (.int v),.val (.int c),.own (.list (acc.map St.d)),.val (.int k),.val (.list (s.st.map .int))]) (by
    rw[bp,bg,fD];simp -implicitDefEqProofs only[ay,aG,bA,R.ok_bind,hr,cb,dU,if_pos s13,hcm,iq];rw[<-hst];rfl)]
   rw[oO (ds:=acc.map St.d) _ rfl hz];have e2':gM (ai (e2 dQ (e2 dQ (aC aJ (ai (ag 0) (ai (e2 eG (eC (.int 99)) (ag 3)) az))) (eC (.int 3))) (eC (.int 2))) (ai (e1 cB (ag 4)) az)) [.val (.int v),.val (.int c),.own (.list (acc.map St.d)),.val (.int k),.val (.list (s.st.map .int))]=.ok s.d:=by
    simp[(hdr _).1,s2];rw[<-hst];rfl
   rw[e2',cb,R.ok_bind,List.map_append];rfl
theorem wl{v:Int}(hv:0<=v):∃ss,cR [.int v]=.ok (wD ss)/\Wt ss:=by
 have hc0:1<=1+v%6:=by omega
 have hc1:1+v%6<=6:=by omega
 obtain⟨ss,x,y,h1,h2,h3⟩:=Ab v (1+v%6) hc0 (bM 0 (1+v%6).toNat) [] .non .non (lb _ _) (by rw[dU];simp;omega);rw[dU]at h2;have hr:lU [.int (1+v%6)]=.ok (bM 0 (1+v%6).toNat):=by
  show(if -(2 ^ 62)<=(1+v%6)/\(1+v%6)<2 ^ 62 then R.ok (bM 0 (1+v%6).toNat)else .no)=_;rw[if_pos (by omega)]
 refine⟨ss,?_,⟨λs hs=>(h1 s hs).g0,λs hs=>(h1 s hs).l,λs hs x hx=>?_,by omega,by omega⟩⟩
 ·unfold cR i9;refine eJ ?_;rw[show([Qa.int v].map ba.val++Qi (5 - [Qa.int v].length) ba.non)=[.val (.int v),.non,.non,.non,.non]from rfl];rw[aF (ρ':=[.val (.int v),.val (.int (1+v%6)),.non,.non,.non]) (by simp)];rw[aF (ρ':=[.val (.int v),.val (.int (1+v%6)),.own (.list []),.non,.non]) (by rfl)];rw[aF (ρ':=[.val (.int v),.val (.int (1+v%6)),.own (.list (([]++ss).map St.d)),x,y]) (by
   rw[dF,dX,fD];simp only[ay,aG,ap,au,R.ok_bind,hr];unfold u9 at h3;rw[List.map_nil]at h3;rw[h3];rfl)]
  simp
 ·have:=(h1 s hs).inn x hx;omega
def uJ:Fs:=(gX 1 (e1 cB (bD (eo (ai (eC (.int 13)) az)) 1 [0,2] (aE 0) (tE (e2 (jc) (e2 dQ (aC aJ (ai (ag 1) (ai (e2 eG (e2 eY (eC (.int 13)) (ag 2)) (ag 0)) az))) (eC (.int 3))) (eC (.int 0)))) (ag 0))))
theorem zj(v:Int):∀(ds:List Qa) (acc:List (List Int)) (x:ba),(∀d∈ds,∃k,d=.int k)->acc.length+ds.length<=1000 ->
  ∃gs x',(∀g∈gs,eh 13 g)/\gs.length=ds.length/\gc (aE 2) uJ ds [.val (.int v),.own (.list (acc.map λg=>Qa.tuple (g.map .int))),x]=.ok (.nx [.val (.int v),.own (.list ((acc++gs).map λg=>Qa.tuple (g.map .int))),x'])
 | [],acc,x,_,_=>⟨[],x,by simp,rfl,by simp⟩
 |d::ds,acc,x,hi,hl=>by
  obtain⟨k,rfl⟩:=hi d List.mem_cons_self;obtain⟨dr,hdr⟩:=vU v;have m1:eY (.int 13) (.int k)=.ok (.int (13*k)):=gV (.inl (by omega));have hr:lU [.int 13]=.ok ((ids 13).map .int):=by rw[<-kf];rfl
  have hcm:=eL (t:=tE (e2 (jc) (e2 dQ (aC aJ (ai (ag 1) (ai (e2 eG (e2 eY (eC (.int 13)) (ag 2)) (ag 0)) az))) (eC (.int 3))) (eC (.int 0)))) (ρ:=[.val (.int v),.val (.int k)]) (p:=λm=>decide (dr (13*k+m)%3=0)) (ids 13) λm _=>by
   simp[m1,(hdr _).1,fZ]
  have s13:((ids 13).map Qa.int).length<=sizeLine:=by rw[Qd,gz];decide
  rw[List.length_cons]at hl;generalize hL:(acc.map λg=>Qa.tuple (g.map .int))=L;have hz:L.length<sizeLine:=Nat.lt_of_lt_of_le (show L.length<1001 by rw[<-hL,Qd];omega) (by decide);generalize hg:(ids 13).filter (λm=>decide (dr (13*k+m)%3=0))=g at hcm;have hp:eh 13 g:=by rw[<-hg];exact(eh.ids 13).filter _
  obtain⟨gs,x',h1,h2,h3⟩:=zj v ds (acc++[g]) (.val (.int k)) (λd hd=>hi d (Qf _ hd)) (by simp;omega);refine⟨g::gs,x',λt ht=>?_,by simp[h2],?_⟩
  ·rcases List.mem_cons.mp ht with rfl|z
   ·exact hp
   ·exact h1 t z
  ·rw[bY];rw[List.append_assoc]at h3;rw[show acc++g::gs=acc++([g]++gs)from rfl,<-h3];show(uJ [.val (.int v),.own (.list L),.val (.int k)]>>=_)=_;unfold uJ;rw[oO (ds:=L) _ rfl hz];have e2':e1 cB (bD (eo (ai (eC (.int 13)) az)) 1 [0,2] (aE 0) (tE (e2 (jc) (e2 dQ (aC aJ (ai (ag 1) (ai (e2 eG (e2 eY (eC (.int 13)) (ag 2)) (ag 0)) az))) (eC (.int 3))) (eC (.int 0)))) (ag 0)) [.val (.int v),.own (.list L),.val (.int k)]=.ok (.tuple (g.map .int)):=by
    rw[bL,bg,fD];simp -implicitDefEqProofs only[ay,aG,bA,R.ok_bind,hr,cb,if_pos s13];rw[show aB 1 [0,2] [.val (.int v),.own (.list L),.val (.int k)]=[.non,.val (.int v),.val (.int k)]from rfl,hcm];rfl
   rw[e2',cb,R.ok_bind,<-hL,List.map_append];rfl
theorem xS{v:Int}(hv:0<=v):∃gs,dh [.int v]=.ok (EF gs)/\Gs gs:=by
 obtain⟨gs,x,h1,h2,h3⟩:=zj v (bM 0 (1+v%5).toNat) [] .non (lb _ _) (by rw[dU];simp;omega);rw[dU]at h2;have hr:lU [.int (1+v%5)]=.ok (bM 0 (1+v%5).toNat):=by
  show(if -(2 ^ 62)<=(1+v%5)/\(1+v%5)<2 ^ 62 then R.ok (bM 0 (1+v%5).toNat)else .no)=_;rw[if_pos (by omega)]
 refine⟨gs,?_,⟨by omega,by omega,h1⟩⟩;unfold dh jM;refine eJ ?_;rw[show([Qa.int v].map ba.val++Qi (3 - [Qa.int v].length) ba.non)=[.val (.int v),.non,.non]from rfl];rw[aF (ρ':=[.val (.int v),.own (.list []),.non]) (by rfl)];rw[aF (ρ':=[.val (.int v),.own (.list (([]++gs).map λ(g:List Int)=>Qa.tuple (g.map .int))),x]) (by
  rw[dF,dX,fD];simp only[ay,aG,ap,bA,bf,ml,xu,R.ok_bind,if_pos (show(0:Int)<5 by omega),hr];unfold uJ at h3;rw[List.map_nil]at h3;rw[h3];rfl)]
 simp
theorem KZ{ss:List St}(W:Wt ss):eY (wD ss) (.int 7)=.ok (.tuple (Qi 7 (ss.map St.d)).flatten):=by
 have n0:=W.n0;have n1:=W.n1;show(if ss.map St.d≠[]/\(2:Int)<=7/\(7:Int)<2 ^ 63/\(ss.map St.d).length*(7:Int).toNat<=sizeLine then R.ok (Qa.tuple (Qi (7:Int).toNat (ss.map St.d)).flatten)else .no)=_;rw[if_pos ⟨λz=>by rw[List.map_eq_nil_iff]at z;rw[z]at n0;simp at n0,by omega,by omega,bG (by rw[Qd];show ss.length*7<=1000;omega)⟩];rfl
theorem Cs{ss:List St}(W:Wt ss):fK (.tuple (Qi 7 (ss.map St.d)).flatten)/\sD (.tuple (Qi 7 (ss.map St.d)).flatten)=false:=by
 have n0:=W.n0;have n1:=W.n1;refine⟨eP.mpr λx hx=>?_,?_⟩
 ·obtain⟨r,hr,hx⟩:=List.mem_flatten.mp hx;rw[List.eq_of_mem_replicate hr]at hx;exact eP.mp W.good x hx
 ·have hl:((Qi 7 (ss.map St.d)).flatten).length=7*ss.length:=by simp;omega
  generalize (Qi 7 (ss.map St.d)).flatten=ds at hl ⊢;simp only[sD,hl,decide_eq_false (show ¬ 7*ss.length<=6 by omega),Bool.and_false,Bool.false_and]
abbrev zR(a:Qa)(ps:List P4)(ss:List St)(c3 c4 c5:ba):aV:=[.val a,.val (gD ps),.val (wD ss),c3,c4,c5,.non,.non,.non,.non,.non,.non,.non]
theorem EZ{ss:List St}(W:Wt ss)(n:Int)(h0:0<=n):∃d,aX (.list [.tuple [],.tuple (Qi 7 (ss.map St.d)).flatten,.none]) (.int (n%3))=.ok d/\fK d/\sD d=false:=by
 have h:n%3=0\/n%3=1\/n%3=2:=by omega
 rcases h with h|h|h
 ·exact⟨.tuple [],by rw[h];rfl,eP.mpr λx hx=>by simp at hx,rfl⟩
 ·exact⟨_,by rw[h];rfl,Cs W⟩
 ·exact⟨.none,by rw[h];rfl,rfl,rfl⟩
def I9(c:Addr):Fs:=(aO (bZ 3 (e2 dQ (e2 jV (aC aY (ai (ag 0) (ai (eC (.int 2)) az))) (eC (.int 7))) (eC (.int 2)))) (aO (hW (jE (tE (e2 (jc) (e2 dQ (e2 jV (aC aY (ai (ag 0) (ai (eC (.int 2)) az))) (eC (.int 14))) (eC (.int 6))) (eC (.int 1)))) (fg (tE (aC (cF c) (ai (ag 1) (ai (e2 aX (kE (ai (gM az) (ai (e2 eY (ag 2) (eC (.int 7))) (ai (eC .none) az)))) (e2 dQ (e1 ci (ag 0)) (eC (.int 3)))) (ai (ag 3) az))))))) (bQ (eC (.bool false))) bU) (aO (bZ 4 (aC (cm c) (ai (ag 1) (ai (ag 2) (ai (ag 3) az))))) (aO (hW (fg (tE (aC cH (ai (ag 4) (ai (ag 1) (ai (ag 2) az)))))) (bQ (eC (.bool false))) bU) (aO (bZ 5 (bD (o5 (ag 1)) 2 [4,2] (fT 0 1) (λ_=>.ok true) (e2 aX (e2 aX (e2 aX (ag 2) (eC (.int 1))) (e2 aX (e2 aX (e2 aX (ag 3) (eC (.int 0))) (eC (.int 1))) (e2 aX (ag 1) (eC (.int 1))))) (ag 0)))) (aO (hW (tE (e2 (mL) (e1 nB (e2 aX (ag 4) (eC (.int 0)))) (ag 5))) (bQ (eC (.bool false))) bU) (aO (gk (gO (dY (gM (ai (eC (.int 0)) (ai (eC (.int 1)) az)))) (aE 6) oG)) (bQ (eC (.bool true))))))))))
theorem ES(ns:List Int)(hl:ns.length<=63){ps:List P4}{hi:Int}(hP:∀p∈ps,Pl ps.length hi p)(hi12:hi<=12)(hp1:1<=ps.length){ss:List St}(W:Wt ss)(hz:ss.length*ps.length<=60)(hn:ps.length<=24)(c:Addr):I9 c (zR (pT ns) ps ss .non .non .non)=.ok (.rt (.bool true)):=by
 obtain⟨v2,hv2,a2,b2⟩:=ju ns (k:=2) (by omega);have n0:=W.n0;have n1:=W.n1;have G:Gr ps:=IP hP (by omega);have at':∀i∈ids ps.length,∃p∈ps,ps[i.toNat]?=some p:=λi hi=>by
  obtain⟨i0,i1⟩:=bW.mp hi;exact⟨_,List.getElem_mem (show i.toNat<ps.length by omega),List.getElem?_eq_getElem _⟩
 have hm:∀i∈ids ps.length,0<=aU ps i/\aU ps i<13:=λi hi=>by
  obtain⟨p,hp,e⟩:=at' i hi;unfold aU;rw[e];have:=hP p hp;exact⟨this.m0,by have:=this.m1;show p.m<13;omega⟩
 have hown:∀i∈ids ps.length,aL ps i=0\/aL ps i=1:=λi hi=>by
  obtain⟨p,hp,e⟩:=at' i hi;unfold aL;rw[e];have h0:=(hP p hp).w0;have h1:=(hP p hp).w1;show p.w=0\/p.w=1;omega
 have h64:∀p∈ps,p.ns.length<64:=λp hp=>by have:=(hP p hp).len;omega
 obtain⟨who,ew⟩:∃who,who=v2 / 7%2:=⟨_,rfl⟩
 have h01:who=0\/who=1:=by omega
 obtain⟨Wn,M,Φ,Ψ,P⟩:=CI G hm hown h01 W hz;obtain⟨d2,d3,⟨hd2,hd3⟩,hwa⟩:=yA G hm h64 hp1 W hz (who:=who) (c:=c);have sh:=JG G h01 P;have hst:∀i∈ids ps.length,nN ps ss who (dz ss 0 (aU ps i)*ps.length+i)=some (Wn (dz ss 0 (aU ps i)*ps.length+i))/\(Wn (dz ss 0 (aU ps i)*ps.length+i)=0\/Wn (dz ss 0 (aU ps i)*ps.length+i)=1)/\0<=dz ss 0 (aU ps i)/\dz ss 0 (aU ps i)<ss.length:=λi hi=>by
  obtain⟨i0,i1⟩:=bW.mp hi;obtain⟨m0,m1⟩:=hm i hi;obtain⟨t0,t1⟩:=W.step (i:=0) (by omega) (by omega) m0 m1;have hx:=(lw (ps:=ps) (ss:=ss) (q:=(dz ss 0 (aU ps i),i)) ⟨t0,t1,i0,i1⟩).2.1;exact⟨P.wn _ hx,DI h01 P hx,t0,t1⟩
 obtain⟨ws,ews⟩:∃ws,ws=(ids ps.length).map λi=>Wn (dz ss 0 (aU ps i)*ps.length+i):=⟨_,rfl⟩
 have hws:cG (λi=>oD (nN ps ss who (dz ss 0 (aU ps i)*ps.length+i))) ps.length=ws.map .int:=by
  rw[ews,List.map_map];exact List.map_congr_left λi hi=>by rw[(hst i hi).1];rfl
 have hw01:∀w∈ws,w=0\/w=1:=λw hw=>by
  rw[ews]at hw;obtain⟨i,hi,rfl⟩:=List.mem_map.mp hw;exact(hst i hi).2.1
 have hwl:ws.length=ps.length:=by rw[ews,Qd,gz]
 obtain⟨d0,ed0⟩:∃d0,d0=Qa.tuple (ws.map .int):=⟨_,rfl⟩
 rw[show oT (λi=>nN ps ss who (dz ss 0 (aU ps i)*ps.length+i)) ps.length=d0 from(congrArg Qa.tuple hws).trans ed0.symm,hd2,hd3]at hwa;have hsh:=A8 sh (d0:=d0) (by omega) (by omega) hwl hw01 ed0;obtain⟨D,eD⟩:∃D,D=xF ps ss d0 (nN ps ss who) (λx=>oD ((tx ps ss who x).map (·%(ps.length:Int)))):=⟨_,rfl⟩
 have hsh:cH [D,gD ps,wD ss]=.ok (.bool true):=by rw[eD];exact hsh
 have hwa':cm c [gD ps,wD ss,.int who]=.ok D:=hwa.trans (by rw[eD]);have s1:1<=sizeLine:=by decide
 have s2:2<=sizeLine:=by decide
 have s3:3<=sizeLine:=by decide
 have s0:0<=sizeLine:=by decide
 have hll:ci (pT ns)=.ok (.int ns.length):=by simp
 unfold I9;rw[aF (ρ':=zR (pT ns) ps ss (.val (.int who)) .non .non) (by rw[ew];simp[hv2])];rw[aF (ρ':=zR (pT ns) ps ss (.val (.int who)) .non .non) (by
  obtain⟨d,h1,h2,h3⟩:=EZ W (ns.length:Int) (by omega);have hre:=yh h2 h3 (ps:=ps) (who:=who) (c:=c);have e14:jV (.int v2) (.int 14)=.ok (.int (v2 / 14)):=by rw[xw,if_pos (by omega)]
  have e6:dQ (.int (v2 / 14)) (.int 6)=.ok (.int (v2 / 14%6)):=by rw[ml,if_pos (by omega)]
  have e3:dQ (.int ns.length) (.int 3)=.ok (.int ((ns.length:Int)%3)):=by rw[ml,if_pos (by omega)]
  have m7:=KZ W;by_cases h:v2 / 14%6=1
  ·simp -implicitDefEqProofs only[cj,gg,fB,bT,bL,bf,aS,ay,aG,gy,lE,ap,au,bA,R.ok_bind,hv2,e14,e6,fZ,h,decide_true,ca,if_true,List.length_cons,List.length_nil,Nat.zero_add,Nat.reduceAdd,if_pos s3,if_pos s0,m7,hll,e3,h1,hre,Bool.not_true,Bool.false_eq_true,if_false];rfl
  ·simp -implicitDefEqProofs only[cj,gg,bT,bf,aS,ay,aG,ap,au,bA,R.ok_bind,hv2,e14,e6,fZ,h,decide_false,ca,Bool.false_eq_true,if_false];rfl)]
 rw[aF (ρ':=zR (pT ns) ps ss (.val (.int who)) (.val D) .non) (by
  simp -implicitDefEqProofs only[bp,aS,ay,aG,ap,au,R.ok_bind,hwa'];rfl)]
 rw[aF (ρ':=zR (pT ns) ps ss (.val (.int who)) (.val D) .non) (by
  simp -implicitDefEqProofs only[cj,fB,bT,aS,ay,aG,ap,au,R.ok_bind,hsh,ca];rfl)]
 have ix0:=wK (ss:=ss) (i:=0) (by omega) (by omega);generalize hs0:ss[(0:Int).toNat]'(by omega)=st0 at ix0;have hl0:=W.l st0 (by rw[<-hs0];exact List.getElem_mem _);have hstk:∀m:Int,dz ss 0 m=st0.st.getD m.toNat 0:=λm=>by rw[nU (by omega) (by omega),hs0]
 have i1D:aX D (.int 1)=.ok (fu (λx=>oD (nN ps ss who x)) ss.length ps.length):=by rw[eD];rfl
 have i0D:aX D (.int 0)=.ok d0:=by rw[eD];rfl
 have hcw:bJ (fT 0 1) (λ_=>.ok true) (e2 aX (e2 aX (e2 aX (ag 2) (eC (.int 1))) (e2 aX (e2 aX (e2 aX (ag 3) (eC (.int 0))) (eC (.int 1))) (e2 aX (ag 1) (eC (.int 1))))) (ag 0)) [.non,.non,.val D,.val (wD ss)] (dR 0 (ps.map P4.d))=.ok (ws.map .int):=by
  have hen:=qK (fe:=e2 aX (e2 aX (e2 aX (ag 2) (eC (.int 1))) (e2 aX (e2 aX (e2 aX (ag 3) (eC (.int 0))) (eC (.int 1))) (e2 aX (ag 1) (eC (.int 1))))) (ag 0)) (ρ:=[.val D,.val (wD ss)]) (g:=Hi ps) (h:=λi=>oD (nN ps ss who (dz ss 0 (aU ps i)*ps.length+i))) ps.length 0 λj _ hj=>by
   have j0:(0:Int)<=j:=by omega
   have j1:(j:Int)<ps.length:=by omega
   obtain⟨m0,m1⟩:=hm j (bW.mpr ⟨j0,j1⟩);have e1':=qa (xs:=st0.st) m0 (by omega);rw[<-hstk]at e1';obtain⟨_,_,t0,t1⟩:=hst j (bW.mpr ⟨j0,j1⟩);have e2':=hZ (f:=λs=>Qa.tuple (cG (λi=>oD (nN ps ss who (s*ps.length+i))) ps.length)) (n:=ss.length) t0 t1;have e3':=hZ (f:=λi=>oD (nN ps ss who (dz ss 0 (aU ps j)*ps.length+i))) (n:=ps.length) j0 j1;simp -implicitDefEqProofs only[bf,ap,au,bA,R.ok_bind,i1D,ix0,rM,FY j0 j1,e1',e2',e3']
  rw[uL]at hen;rw[B5 ps];exact hen.trans (congrArg R.ok hws)
 rw[aF (ρ':=zR (pT ns) ps ss (.val (.int who)) (.val D) (.val (.list (ws.map .int)))) (by
  rw[bp,bg,show aB 2 [4,2] (zR (pT ns) ps ss (.val (.int who)) (.val D) .non)=[.non,.non,.val D,.val (wD ss)]from rfl];simp -implicitDefEqProofs only[nD,ap,au,R.ok_bind,dG,cb];rw[if_pos (by rw[qJ,Qd];exact bG (by omega)),hcw];rfl)]
 rw[aF (ρ':=zR (pT ns) ps ss (.val (.int who)) (.val D) (.val (.list (ws.map .int)))) (by
  have hli:nB d0=.ok (.list (ws.map .int)):=by rw[ed0];rfl
  simp -implicitDefEqProofs only[cj,bT,bL,bf,ap,au,bA,R.ok_bind,i0D,hli,Jb,decide_true,ca];rfl)]
 subst eD;obtain⟨p7,p8,p9,p10,p11,p12,t1⟩:=zD G hm h01 W hz hp1 P (one:=0) (.inl rfl) (a:=pT ns) (fs:=.list (ws.map .int)) (d0:=d0) (c7:=.non) (c8:=.non) (c9:=.non) (c10:=.non) (c11:=.non) (c12:=.non);obtain⟨q7,q8,q9,q10,q11,q12,t2⟩:=zD G hm h01 W hz hp1 P (one:=1) (.inr rfl) (a:=pT ns) (fs:=.list (ws.map .int)) (d0:=d0) (c7:=p7) (c8:=p8) (c9:=p9) (c10:=p10) (c11:=p11) (c12:=p12);have hfor:gc (aE 6) oG [.int 0,.int 1] (oR (pT ns) (.list (ws.map .int)) d0 ps ss who .non .non .non .non .non .non .non)=.ok (.nx (oR (pT ns) (.list (ws.map .int)) d0 ps ss who (.val (.int 1)) q7 q8 q9 q10 q11 q12)):=by
  rw[bY];show(oG (oR (pT ns) (.list (ws.map .int)) d0 ps ss who (.val (.int 0)) .non .non .non .non .non .non)>>=_)=_;rw[t1,R.ok_bind,cO,bY];show(oG (oR (pT ns) (.list (ws.map .int)) d0 ps ss who (.val (.int 1)) p7 p8 p9 p10 p11 p12)>>=_)=_;rw[t2,R.ok_bind,cO,dw]
 rw[aF (ρ':=oR (pT ns) (.list (ws.map .int)) d0 ps ss who (.val (.int 1)) q7 q8 q9 q10 q11 q12) (by
  rw[dF,dX,bV,gy];simp -implicitDefEqProofs only[ay,aG,bA,R.ok_bind,List.length_cons,List.length_nil,Nat.zero_add,Nat.reduceAdd,if_pos s2,dG];rw[hfor];rfl)]
 rfl
theorem Cn(c:Addr):Ck (Bp c):=by
 intro ns hl;obtain⟨v1,hv1,a1,b1⟩:=ju ns (k:=1) (by omega);obtain⟨v2,hv2,a2,b2⟩:=ju ns (k:=2) (by omega);obtain⟨v3,hv3,a3,b3⟩:=ju ns (k:=3) (by omega);have s2:2<=sizeLine:=by decide
 obtain⟨most,hmost,m0,m1⟩:∃most:Int,aX (.tuple [.int 9,.int 4]) (.int (v3%2))=.ok (.int most)/\1<=most/\most<=9:=by
  have h:v3%2=0\/v3%2=1:=by omega
  rcases h with h|h
  ·exact⟨9,by rw[h];rfl,by omega,by omega⟩
  ·exact⟨4,by rw[h];rfl,by omega,by omega⟩
 obtain⟨ps0,hi0,hg0,hP0,hl0,hl1,x0,x1⟩:=rg ns (most:=most) (by omega) (by omega);obtain⟨ps4,hi4,hg4,hP4,hl04,hl14,x04,x14⟩:=rg ns (most:=4) (by omega) (by omega);obtain⟨ss0,hs0,W0⟩:=wl a1;obtain⟨gs,hgs,Gs'⟩:=xS (v:=v2 / 3) (by omega);have hwo:=sE Gs';obtain⟨ss,hss,W⟩:∃ss,(if v2%3=1 then G5 gs else ss0)=ss/\Wt ss:=by
  by_cases h:v2%3=1
  ·exact⟨_,if_pos h,G6 Gs'⟩
  ·exact⟨_,if_neg h,W0⟩
 have n0:=W.n0;have n1:=W.n1;have hlw:ci (wD ss)=.ok (.int ss.length):=by simp[wD]
 have hlg:ci (gD ps0)=.ok (.int ps0.length):=by simp
 obtain⟨ps,hps,hi,hP,hi12,hp1,hz,hn⟩:∃ps,(if ps0.length>4/\ss.length>4 then ps4 else ps0)=ps/\∃hi,(∀p∈ps,Pl ps.length hi p)/\hi<=12/\1<=ps.length/\ss.length*ps.length<=60/\ps.length<=24:=by
  by_cases h:ps0.length>4/\ss.length>4
  ·refine⟨_,if_pos h,hi4,hP4,x14,hl04,Nat.le_trans (Nat.mul_le_mul n1 (show ps4.length<=4 by omega)) (by omega),by omega⟩
  ·refine⟨_,if_neg h,hi0,hP0,x1,hl0,?_,by omega⟩;by_cases h2:ps0.length>4
   ·exact Nat.le_trans (Nat.mul_le_mul (show ss.length<=4 by omega) (show ps0.length<=9 by omega)) (by omega)
   ·exact Nat.le_trans (Nat.mul_le_mul n1 (show ps0.length<=4 by omega)) (by omega)
 refine eJ ?_;show yE dq cS dh cw aY (cF c) cH cR (cm c) di [.val (pT ns),.non,.non,.non,.non,.non,.non,.non,.non,.non,.non,.non,.non]=_;unfold yE;rw[aF (ρ':=[.val (pT ns),.val (gD ps0),.non,.non,.non,.non,.non,.non,.non,.non,.non,.non,.non]) (by
  simp -implicitDefEqProofs only[bp,aS,ay,aG,bf,gy,ap,bA,R.ok_bind,List.length_cons,List.length_nil,Nat.zero_add,Nat.reduceAdd,if_pos s2,hv3,ml,if_pos (show(0:Int)<2 by omega),hmost,hg0];rfl)]
 rw[aF (ρ':=[.val (pT ns),.val (gD ps0),.val (wD ss0),.non,.non,.non,.non,.non,.non,.non,.non,.non,.non]) (by
  simp -implicitDefEqProofs only[bp,aS,ay,aG,ap,bA,R.ok_bind,hv1,hs0];rfl)]
 rw[aF (ρ':=zR (pT ns) ps0 ss .non .non .non) (by
  rw[<-hss];by_cases h:v2%3=1
  ·rw[if_pos h];simp -implicitDefEqProofs only[cj,bT,bp,aS,ay,aG,bf,ap,bA,R.ok_bind,hv2,ml,xw,if_pos (show(0:Int)<3 by omega),if_pos (show(0:Int)<3/\(3:Int)<1073741824 by omega),fZ,ca,h,decide_true,if_true,hgs,hwo];rfl
  ·rw[if_neg h];simp -implicitDefEqProofs only[cj,bT,aS,ay,aG,bf,ap,bA,R.ok_bind,hv2,ml,if_pos (show(0:Int)<3 by omega),fZ,ca,h,decide_false,if_false,Bool.false_eq_true];rfl)]
 rw[aF (ρ':=zR (pT ns) ps ss .non .non .non) (by
  rw[<-hps];by_cases h1:ps0.length>4
  ·by_cases h2:ss.length>4
   ·rw[if_pos ⟨h1,h2⟩];simp -implicitDefEqProofs only[cj,gg,bT,bL,bf,bp,aS,ay,aG,ap,au,bA,R.ok_bind,hlg,hlw,mh,ca,hg4,show rU (ps0.length:Int) 4=true from decide_eq_true (show(4:Int)<ps0.length by omega),show rU (ss.length:Int) 4=true from decide_eq_true (show(4:Int)<ss.length by omega),if_true];rfl
   ·rw[if_neg (λz=>h2 z.2)];simp -implicitDefEqProofs only[cj,gg,bT,bL,bf,ap,au,bA,R.ok_bind,hlg,hlw,mh,ca,show rU (ps0.length:Int) 4=true from decide_eq_true (show(4:Int)<ps0.length by omega),show rU (ss.length:Int) 4=false from decide_eq_false (show ¬(4:Int)<ss.length by omega),if_true,if_false,Bool.false_eq_true];rfl
  ·rw[if_neg (λz=>h1 z.1)];simp -implicitDefEqProofs only[cj,gg,bT,bL,bf,ap,au,bA,R.ok_bind,hlg,mh,ca,show rU (ps0.length:Int) 4=false from decide_eq_false (show ¬(4:Int)<ps0.length by omega),if_false,Bool.false_eq_true];rfl)]
 exact ES ns hl hP hi12 hp1 W hz hn c
abbrev fx:Stmt:=top 58
abbrev mH:Stmt:=top 60
abbrev ji:Stmt:=top 49
abbrev ln:Stmt:=top 50
abbrev lg:Stmt:=top 51
abbrev lh:Stmt:=top 52
abbrev lp:Stmt:=top 53
abbrev iw:Stmt:=top 54
abbrev iy:Stmt:=top 57
abbrev gY:Stmt:=top 59
abbrev kg:Stmt:=top 14
abbrev mG:Stmt:=top 9
abbrev kh:Stmt:=top 10
abbrev mE:Stmt:=top 11
abbrev nS:Stmt:=top 15
abbrev gj:Stmt:=top 18
abbrev nT:Stmt:=top 24
abbrev fy:Stmt:=top 25
abbrev iW:Stmt:=top 22
abbrev gm:Stmt:=top 23
abbrev ki:Stmt:=top 17
abbrev ie:Stmt:=top 19
abbrev lL:Stmt:=top 16
abbrev gG:Stmt:=top 27
abbrev eT:Stmt:=top 20
abbrev u3:Stmt:=top 28
abbrev iV:Stmt:=top 46
abbrev ir:Stmt:=top 45
abbrev kl:Stmt:=top 30
abbrev lK:Stmt:=top 43
abbrev fG:Stmt:=top 44
abbrev jh:Stmt:=top 37
abbrev iU:Stmt:=top 38
abbrev mF:Stmt:=top 39
abbrev iu:Stmt:=top 40
abbrev jA:Stmt:=top 47
abbrev jk:Stmt:=top 61
abbrev fH:Stmt:=top 62
abbrev gF:Stmt:=top 63
abbrev gZ:Stmt:=top 56
abbrev kj:Stmt:=top 41
abbrev gH:Stmt:=top 42
abbrev lf:Stmt:=top 64
section
variable{P:Program}{w:World}{K:PySem.W.Frag}{mg:Str->Option Value}{base:Heap}{f:Addr}{fd:Qh}{k:Nat}
abbrev lJ:Stmt:=zl (top 13) 0
theorem D4:aR ["self","who","places","moves"] ["self","who","places","moves"] (ao lJ):=⟨rfl,rfl,rfl,by decide +kernel,rfl,by decide +kernel,by decide +kernel⟩
theorem DV{P:Program}{w:World}{K:PySem.W.Frag}{mg:Str->Option Value}{base:Heap}{f C:Addr}{fd:Qh}(F:gq K "__init__" "Share.__init__" lJ f fd)(cl:Bk K C)(n0:fV K C "who")(n1:fV K C "places")(n2:fV K C "moves") :
  bc P w K mg base (cX P w mg) 1 f fd ["self","who","places","moves"] (Ko C ["who","places","moves"]):=by
 obtain⟨oc,od,kV,doc,pm,an,cdv,ct,osl,rfl,lk,hcd⟩:=F.ex;refine zd (k:=0) lk hcd D4 (λvs H Q E h=>?_) λA outer s H vs Q E hr h=>?_
 ·obtain⟨x,dx,ws,rfl,_,hl,_⟩:=h;rw[List.length_cons,hl];rfl
 ·obtain⟨x,dx,ws,rfl,hx,hl,k⟩:=h;obtain⟨w1,r0,rfl,q0⟩:=D2.gN hl;obtain⟨w2,r1,rfl,q1⟩:=D2.gN q0;obtain⟨w3,r2,rfl,q2⟩:=D2.gN q1;obtain rfl:=List.eq_nil_of_length_eq_zero q2;refine⟨_,nM (yb (pv 0) (pv 1) rfl) (nM (yb (pv 0) (pv 2) rfl) (uV (yb (pv 0) (pv 3) rfl))),?_⟩;refine⟨_,rfl,_,rfl,x,C,dx,[],rfl,hx,cl,n0,(by show 0<1000;decide),_,rfl,_,rfl,x,C,dx,_,rfl,bh,cl,n1,(by show 1<1000;decide),_,rfl,_,rfl,x,C,dx,_,rfl,bh,cl,n2,(by refine Nat.lt_of_le_of_lt (iR _ _ _) ?_;exact Nat.lt_of_le_of_lt (Nat.succ_le_succ (iR _ _ _)) (by show 2<1000;decide)),?_⟩;refine k _ (by rw[bh,Jo (by decide +kernel) (by decide +kernel) (by decide +kernel)];rfl) λb hb=>?_
  rw[aD hb,aD hb,aD hb]
theorem pK:aR ["_law_ground_here","_law_watcher_here","_law_who","_law_moves","_law_pair","_law_state","_law_place_here","_law_goals_here"] ["_law_ground_here","_law_watcher_here","_law_who","_law_moves","_law_pair"] (ao fx):=⟨rfl,rfl,rfl,by decide +kernel,rfl,by decide +kernel,by decide +kernel⟩
theorem pD(W:gq K "_law_pair_ways" "_law_pair_ways" fx f fd) :
  bc P w K mg base (cX P w mg) (k+1) f fd ["_law_ground_here","_law_watcher_here","_law_who","_law_moves","_law_pair"] (Kq (dS 8 (h9)) 5):=by
 refine xj W pK (G:=[]) (by decide +kernel) λcdv A outer s H E hr T=>?_
 exact(n9 (Bw (aa T 4 rfl) (iC T 5 6 rfl rfl)) EW
   (n9 (aP T 7 rfl (ax T.hu (ae (ax T.hu (ae (aa T 0 rfl)) (ae (aa T 6 rfl)) (λ_ _=>rfl))) (ae aj) (λ_ _=>rfl))) zC
   (n9 (bR (dO T.hu (ae (ax T.hu (ae (ax T.hu (ae (aa T 0 rfl)) (ae (aa T 6 rfl)) (λ_ _=>rfl))) (ae aj) (λ_ _=>rfl))) (ae (aa T 2 rfl))) (aq (gx (eU 7 rfl (N:=["_law_goal"]) (own:=1) (G:=[]) (fr:=[]) T rfl rfl (oN:=["_law_ground_here","_law_watcher_here","_law_who","_law_moves","_law_pair","_law_state","_law_place_here","_law_goals_here"]) (on:=(ao fx).names) (by decide +kernel) (bq (iO (eW (af (ax T.hu (ae (ax T.hu (ae (aa T 3 rfl)) (ae (aa T 5 rfl)) (λ_ _=>rfl))) (ae (aa T 6 rfl)) (λ_ _=>rfl)) ak)))) (bi (by decide)) (λcl C s' H' fp E' T=>⟨(aI T 0 rfl),(ft (jS (ae (aa T 0 rfl)) (ae dn))),(aa T 0 rfl)⟩)) (show 7<8 by decide))) bt) (G9 zC Cw)
   (BF (bd (N:=["_law_goal","_law_watcher_here","_law_state","_law_ground_here"]) (own:=1) (G:=[]) (fr:=[1,5,0]) T rfl rfl (oN:=["_law_ground_here","_law_watcher_here","_law_who","_law_moves","_law_pair","_law_state","_law_place_here","_law_goals_here"]) (on:=(ao fx).names) (by decide +kernel) (bq (aa T 7 rfl)) (bi (by decide)) (λcl C s' H' fp E' T=>⟨(aI T 0 rfl),cs,(du (af (ax T.hu (ae (ax T.hu (ae (ax T.hu (ae (aa T 1 rfl)) (ae (aa T 2 rfl)) (λ_ _=>rfl))) (ae aj) (λ_ _=>rfl))) (ae (ax T.hu (ae (ax T.hu (ae (aa T 3 rfl)) (ae (aa T 0 rfl)) (λ_ _=>rfl))) (ae aj) (λ_ _=>rfl))) (λ_ _=>rfl)) (af (aa T 0 rfl) ak)))⟩))))))
theorem w9:aR ["_law_ground_here","_law_watcher_here","_law_who","_law_moves","_law_pair","_law_allowed","_law_met","_law_todo","_law_at"] ["_law_ground_here","_law_watcher_here","_law_who","_law_moves","_law_pair","_law_allowed"] (ao mH):=⟨rfl,rfl,rfl,by decide +kernel,rfl,by decide +kernel,by decide +kernel⟩
theorem wU(W:gq K "_law_back" "_law_back" mH f fd){f37:Addr}{d37:Qh}{aQ:gh}(C37:Gh P w K mg base k "_law_pair_ways" ["_law_ground_here","_law_watcher_here","_law_who","_law_moves","_law_pair"] aQ f37 d37) :
  bc P w K mg base (cX P w mg) (k+1) f fd ["_law_ground_here","_law_watcher_here","_law_who","_law_moves","_law_pair","_law_allowed"] (dN (dS 9 (l3 aQ)) 6):=by
 refine aH W w9 (G:=["_law_pair_ways"]) (by decide +kernel) λcdv A outer s H E hr T=>?_
 exact(am (fM T 6 rfl mZ)
   (am (fM T 7 rfl (n6 C37 hr T 0 rfl (af (aa T 0 rfl) (af (aa T 1 rfl) (af (aa T 2 rfl) (af (aa T 3 rfl) (af (aa T 4 rfl) ak))))) rfl (ah (ah (ah (ah (ah ar)))))))
   (am (bX (have T:=T.nox;l8 1000000 PassesOwn.never (iI T.hu (cT T 7 rfl) (cq (eW ak))) (am (Bx T 8 rfl 7 rfl)
   (aq (bR (gi (jp (nh T.hu (ae (aa T 8 rfl)) (ae (aa T 5 rfl)) (by with_unfolding_all rfl)) (iJ (ni T.hu (ae (aa T 8 rfl)) (cT T 6 rfl) (by with_unfolding_all rfl))))) (am (sJ T 6 rfl (aa T 8 rfl) bF)
   (aq (fM T 7 rfl (xh (cT T 7 rfl) (cq (n6 C37 hr T 0 rfl (af (aa T 0 rfl) (af (aa T 1 rfl) (af (aa T 2 rfl) (af (aa T 3 rfl) (af (aa T 8 rfl) ak))))) rfl (ah (ah (ah (ah (ah ar))))))))))) bt)))))
   (aq (aA (Bz T.hu (ae (aa T 4 rfl)) (cT T 6 rfl) (by with_unfolding_all rfl)))))))
theorem se:aR ["_law_script","_law_k"] ["_law_script","_law_k"] (ao ji):=⟨rfl,rfl,rfl,by decide +kernel,rfl,by decide +kernel,by decide +kernel⟩
theorem rW(W:gq K "_law_cell_at" "_law_cell_at" ji f fd)(b_len:mg "len" = none) :
  bc P w K mg base (cX P w mg) (k+1) f fd ["_law_script","_law_k"] (dN (dS 2 (i6)) 2):=by
 refine aH W se (G:=["len"]) (by decide +kernel) λcdv A outer s H E hr T=>?_
 exact(am (bR (BE (ae (aa T 1 rfl)) (ae (bu T 0 rfl b_len (ae (aa T 0 rfl))))) (aq (aA (ax T.hu (ae (aa T 0 rfl)) (ae (aa T 1 rfl)) (λ_ _=>rfl)))) bt)
   (aq (aA aj)))
theorem vx:aR ["_law_script","_law_k","_law_drawn_here"] ["_law_script","_law_k"] (ao ln):=⟨rfl,rfl,rfl,by decide +kernel,rfl,by decide +kernel,by decide +kernel⟩
theorem vi(W:gq K "_law_mixed" "_law_mixed" ln f fd){f28:Addr}{d28:Qh}{dg:gh}(C28:gt P w K mg base k "_law_cell_at" ["_law_script","_law_k"] dg f28 d28) :
  bc P w K mg base (cX P w mg) (k+1) f fd ["_law_script","_law_k"] (dN (dS 3 (kN dg)) 2):=by
 refine aH W vx (G:=["_law_cell_at"]) (by decide +kernel) λcdv A outer s H E hr T=>?_
 exact(am (aP T 2 rfl (bP (ae (eF (ae (cu (ae (cu (ae (av C28 hr T 0 rfl (af (aa T 0 rfl) (af (aa T 1 rfl) ak)) rfl (ah (ah ar)))) (ae (eF (ae aj) (ae (aa T 1 rfl)))))) (ae aj))) (ae aj))) (ae aj)))
   (aq (aA (bP (ae (cu (ae (cu (ae (eF (ae (aa T 2 rfl)) (ae (aa T 2 rfl)))) (ae (eF (ae aj) (ae (aa T 2 rfl)))))) (ae (aa T 1 rfl)))) (ae aj)))))
theorem vt:aR ["_law_number","_law_k","_law_drawn_here"] ["_law_number","_law_k"] (ao lg):=⟨rfl,rfl,rfl,by decide +kernel,rfl,by decide +kernel,by decide +kernel⟩
theorem vg(W:gq K "_law_drawn" "_law_drawn" lg f fd) :
  bc P w K mg base (cX P w mg) (k+1) f fd ["_law_number","_law_k"] (dN (dS 3 (kL)) 2):=by
 refine aH W vt (G:=[]) (by decide +kernel) λcdv A outer s H E hr T=>?_
 exact(am (aP T 2 rfl (bP (ae (eF (ae (cu (ae (cu (ae (aa T 0 rfl)) (ae (eF (ae aj) (ae (aa T 1 rfl)))))) (ae aj))) (ae aj))) (ae aj)))
   (aq (aA (bP (ae (cu (ae (cu (ae (eF (ae (aa T 2 rfl)) (ae (aa T 2 rfl)))) (ae (eF (ae aj) (ae (aa T 2 rfl)))))) (ae (aa T 1 rfl)))) (ae aj)))))
theorem vw:aR ["_law_number","_law_count","_law_found","_law_k"] ["_law_number","_law_count"] (ao lh):=⟨rfl,rfl,rfl,by decide +kernel,rfl,by decide +kernel,by decide +kernel⟩
theorem vh(W:gq K "_law_goals" "_law_goals" lh f fd){f30:Addr}{d30:Qh}{aJ:gh}(C30:gt P w K mg base k "_law_drawn" ["_law_number","_law_k"] aJ f30 d30)(b_int:mg "int" = none)(b_range:mg "range" = none)(b_sorted:mg "sorted" = none)(b_tuple:mg "tuple" = none) :
  bc P w K mg base (cX P w mg) (k+1) f fd ["_law_number","_law_count"] (dN (dS 4 (kM aJ)) 2):=by
 refine aH W vw (G:=["range","int","_law_drawn","tuple","sorted"]) (by decide +kernel) λcdv A outer s H E hr T=>?_
 exact(am (fM T 2 rfl vF)
   (am (bX (have T:=T.nox;dc PassesOwn.never T.calm (cL T 0 rfl b_range (af (cu (ae (cu (ae aj) (ae (bP (ae (aa T 0 rfl)) (ae aj))))) (ae (eF (ae aj) (ae (sK T 1 rfl b_int (ae (yJ T.hu (ae (bP (ae (fY (ae (aa T 0 rfl)) (ae aj))) (ae aj))) (ae aj)))))))) ak) (ah ar)) (aI T 3 rfl) (aq (By T 2 rfl (bP (ae (av C30 hr T 2 rfl (af (aa T 0 rfl) (af (aa T 3 rfl) ak)) rfl (ah (ah ar)))) (ae (aa T 1 rfl))) bF))))
   (aq (aA (bw T 3 rfl b_tuple (cq (nc T 4 rfl b_sorted (cT T 2 rfl))))))))
theorem vy:aR ["_law_number","_law_count","_law_high","_law_gain"] ["_law_number","_law_count","_law_high"] (ao lp):=⟨rfl,rfl,rfl,by decide +kernel,rfl,by decide +kernel,by decide +kernel⟩
theorem vj(W:gq K "_law_place" "_law_place" lp f fd){f30:Addr}{d30:Qh}{aJ:gh}(C30:gt P w K mg base k "_law_drawn" ["_law_number","_law_k"] aJ f30 d30){f31:Addr}{d31:Qh}{eE:gh}(C31:gt P w K mg base k "_law_goals" ["_law_number","_law_count"] eE f31 d31) :
  bc P w K mg base (cX P w mg) (k+1) f fd ["_law_number","_law_count","_law_high"] (dN (dS 4 (kO aJ eE)) 3):=by
 refine aH W vy (G:=["_law_goals","_law_drawn"]) (by decide +kernel) λcdv A outer s H E hr T=>?_
 exact(am (aP T 3 rfl (iH (ae (bP (ae (fY (ae (aa T 0 rfl)) (ae aj))) (ae aj))) (ae aj)))
   (am (bR (dO T.hu (ae (bP (ae (fY (ae (aa T 0 rfl)) (ae aj))) (ae aj))) (ae aj)) (aq (aP T 3 rfl (iH (ae (bP (ae (fY (ae (aa T 0 rfl)) (ae aj))) (ae aj))) (ae aj)))) bt)
   (aq (aA (du (af (bP (ae (aa T 0 rfl)) (ae aj)) (af (bP (ae (fY (ae (aa T 0 rfl)) (ae aj))) (ae (cu (ae (aa T 2 rfl)) (ae aj)))) (af (aa T 3 rfl) (af (av C31 hr T 0 rfl (af (av C30 hr T 1 rfl (af (aa T 0 rfl) (af aj ak)) rfl (ah (ah ar))) (af (aa T 1 rfl) ak)) rfl (ah (ah ar))) ak)))))))))
theorem uf:aR ["_law_script","_law_most","_law_number","_law_count","_law_high"] ["_law_script","_law_most"] (ao iw):=⟨rfl,rfl,rfl,by decide +kernel,rfl,by decide +kernel,by decide +kernel⟩
theorem tU(W:gq K "_law_ground" "_law_ground" iw f fd){f29:Addr}{d29:Qh}{aY:gh}(C29:gt P w K mg base k "_law_mixed" ["_law_script","_law_k"] aY f29 d29){f32:Addr}{d32:Qh}{dI:gh}(C32:gt P w K mg base k "_law_place" ["_law_number","_law_count","_law_high"] dI f32 d32)(b_len:mg "len" = none)(b_max:mg "max" = none)(b_min:mg "min" = none)(b_range:mg "range" = none)(b_tuple:mg "tuple" = none) :
  bc P w K mg base (cX P w mg) (k+1) f fd ["_law_script","_law_most"] (dN (dS 5 (jL aY dI)) 2):=by
 refine aH W uf (G:=["_law_mixed","min","max","len","tuple","range"]) (by decide +kernel) λcdv A outer s H E hr T=>?_
 exact(am (aP T 2 rfl (av C29 hr T 0 rfl (af (aa T 0 rfl) (af aj ak)) rfl (ah (ah ar))))
   (am (aP T 3 rfl (cu (ae aj) (ae (bP (ae (aa T 2 rfl)) (ae (BD T 1 rfl b_min (ae (aa T 1 rfl)) (ae (BC T 2 rfl b_max (ae aj) (ae (bu T 3 rfl b_len (ae (aa T 0 rfl))))))))))))
   (am (aP T 4 rfl (ax T.hu (cq (eW (af aj (af aj (af aj (af aj (af aj (af aj ak)))))))) (ae (bP (ae (fY (ae (aa T 2 rfl)) (ae aj))) (ae aj))) (λ_ _=>rfl)))
   (aq (aA (bw T 4 rfl b_tuple (cq (bd (N:=["_law_k","_law_script","_law_count","_law_high"]) (own:=1) (G:=["_law_place","_law_mixed"]) (fr:=[0,3,4]) T rfl rfl (oN:=["_law_script","_law_most","_law_number","_law_count","_law_high"]) (on:=(ao iw).names) (by decide +kernel) (cL T 5 rfl b_range (af (aa T 3 rfl) ak) (ah ar)) (bi (by decide)) (λcl C s' H' fp E' T=>⟨(aI T 0 rfl),cs,(av C32 hr T 0 rfl (af (av C29 hr T 1 rfl (af (aa T 1 rfl) (af (cu (ae aj) (ae (aa T 0 rfl))) ak)) rfl (ah (ah ar))) (af (aa T 2 rfl) (af (aa T 3 rfl) ak))) rfl (ah (ah (ah ar))))⟩)))))))))
theorem ug:aR ["_law_number","_law_groups_here","_law_k"] ["_law_number"] (ao iy):=⟨rfl,rfl,rfl,by decide +kernel,rfl,by decide +kernel,by decide +kernel⟩
theorem tV(W:gq K "_law_groups" "_law_groups" iy f fd){f30:Addr}{d30:Qh}{aJ:gh}(C30:gt P w K mg base k "_law_drawn" ["_law_number","_law_k"] aJ f30 d30)(b_range:mg "range" = none)(b_tuple:mg "tuple" = none) :
  bc P w K mg base (cX P w mg) (k+1) f fd ["_law_number"] (dN (dS 3 (jM aJ)) 1):=by
 refine aH W ug (G:=["range","tuple"]) (by decide +kernel) λcdv A outer s H E hr T=>?_
 exact(am (fM T 1 rfl (eW ak))
   (am (bX (have T:=T.nox;dc PassesOwn.never T.calm (cL T 0 rfl b_range (af (cu (ae aj) (ae (bP (ae (aa T 0 rfl)) (ae aj)))) ak) (ah ar)) (aI T 2 rfl) (aq (kP T 1 rfl (bw T 1 rfl b_tuple (cq (bd (N:=["_law_mark","_law_number","_law_k"]) (own:=1) (G:=["_law_drawn"]) (fr:=[0,2]) T rfl rfl (oN:=["_law_number","_law_groups_here","_law_k"]) (on:=(ao iy).names) (by decide +kernel) (cL T 0 rfl b_range (af aj ak) (ah ar)) (bi (by decide)) (λcl C s' H' fp E' T=>⟨(aI T 0 rfl),(ft (dO T.hu (ae (bP (ae (av C30 hr T 0 rfl (af (aa T 1 rfl) (af (cu (ae (eF (ae aj) (ae (aa T 2 rfl)))) (ae (aa T 0 rfl))) ak)) rfl (ah (ah ar)))) (ae aj))) (ae aj))),(aa T 0 rfl)⟩))))))))
   (aq (aA (bw T 1 rfl b_tuple (cT T 1 rfl))))))
theorem sf:aR ["_law_ground_here","_law_watcher_here","_law_who","_law_moves","_law_pairs","_law_pair","_law_ways"] ["_law_ground_here","_law_watcher_here","_law_who","_law_moves","_law_pairs"] (ao gY):=⟨rfl,rfl,rfl,by decide +kernel,rfl,by decide +kernel,by decide +kernel⟩
theorem rX(W:gq K "_law_kept_in" "_law_kept_in" gY f fd){f37:Addr}{d37:Qh}{aQ:gh}(C37:Gh P w K mg base k "_law_pair_ways" ["_law_ground_here","_law_watcher_here","_law_who","_law_moves","_law_pair"] aQ f37 d37) :
  bc P w K mg base (cX P w mg) (k+1) f fd ["_law_ground_here","_law_watcher_here","_law_who","_law_moves","_law_pairs"] (dN (dS 7 (i7 aQ)) 5):=by
 refine aH W sf (G:=["_law_pair_ways"]) (by decide +kernel) λcdv A outer s H E hr T=>?_
 exact(am (bX (have T:=T.nox;dc PassesOwn.never T.calm (qr (aa T 4 rfl)) (aI T 5 rfl) (am (aP T 6 rfl (iO (n6 C37 hr T 0 rfl (af (aa T 0 rfl) (af (aa T 1 rfl) (af (aa T 2 rfl) (af (aa T 3 rfl) (af (aa T 5 rfl) ak))))) rfl (ah (ah (ah (ah (ah ar))))))))
   (aq (bR (gi (hJ (dO T.hu (ae (aa T 6 rfl)) (cq (eW ak))) (gU (iI T.hu (cq (bd (N:=["_law_way","_law_pairs"]) (own:=1) (G:=[]) (fr:=[4]) T rfl rfl (oN:=["_law_ground_here","_law_watcher_here","_law_who","_law_moves","_law_pairs","_law_pair","_law_ways"]) (on:=(ao gY).names) (by decide +kernel) (bq (aa T 6 rfl)) (bi (by decide)) (λcl C s' H' fp E' T=>⟨(aI T 0 rfl),(ft (ni T.hu (ae (aa T 0 rfl)) (ae (aa T 1 rfl)) (by with_unfolding_all rfl))),(aa T 0 rfl)⟩))) (cq (eW ak)))))) (aq (aA bF)) bt)))))
   (aq (aA bF)))
theorem ub:aR ["ground"] ["ground"] (ao kg):=⟨rfl,rfl,rfl,by decide +kernel,rfl,by decide +kernel,by decide +kernel⟩
theorem tP(W:gq K "all_places" "all_places" kg f fd)(b_len:mg "len" = none)(b_range:mg "range" = none)(b_tuple:mg "tuple" = none) :
  bc P w K mg base (cX P w mg) (k+1) f fd ["ground"] (dN (dS 1 (jH)) 1):=by
 refine aH W ub (G:=["tuple","range","len"]) (by decide +kernel) λcdv A outer s H E hr T=>?_
 exact(aq (aA (Ao T 0 rfl b_tuple 1 rfl b_range (af (bu T 2 rfl b_len (ae (aa T 0 rfl))) ak))))
theorem w8:aR ["thing"] ["thing"] (ao mG):=⟨rfl,rfl,rfl,by decide +kernel,rfl,by decide +kernel,by decide +kernel⟩
theorem wT(W:gq K "is_whole" "is_whole" mG f fd)(b_bool:mg "bool" = none)(b_int:mg "int" = none)(b_isinstance:mg "isinstance" = none) :
  bc P w K mg base (cX P w mg) (k+1) f fd ["thing"] (dN (dS 1 (qg)) 1):=by
 refine aH W w8 (G:=["isinstance","int","bool"]) (by decide +kernel) λcdv A outer s H E hr T=>?_
 exact(aq (aA (iG (mY T 0 rfl b_isinstance T 1 rfl b_int (ae (aa T 0 rfl))) (jo (vE (ja T 0 rfl b_isinstance T 2 rfl b_bool (ae (aa T 0 rfl))))))))
theorem ud:aR ["thing","low","high"] ["thing","low","high"] (ao kh):=⟨rfl,rfl,rfl,by decide +kernel,rfl,by decide +kernel,by decide +kernel⟩
theorem tS(W:gq K "is_between" "is_between" kh f fd){f0:Addr}{d0:Qh}{fJ:gh}(C0:gt P w K mg base k "is_whole" ["thing"] fJ f0 d0) :
  bc P w K mg base (cX P w mg) (k+1) f fd ["thing","low","high"] (dN (dS 3 (jJ fJ)) 3):=by
 refine aH W ud (G:=["is_whole"]) (by decide +kernel) λcdv A outer s H E hr T=>?_
 exact(aq (aA (iG (av C0 hr T 0 rfl (af (aa T 0 rfl) ak) rfl (ah ar)) (jo (qt zF mK zF mK (ae (aa T 1 rfl)) (ae (aa T 0 rfl)) (ae (aa T 2 rfl)))))))
theorem w5:aR ["thing","count","least","number"] ["thing","count"] (ao mE):=⟨rfl,rfl,rfl,by decide +kernel,rfl,by decide +kernel,by decide +kernel⟩
theorem wR(W:gq K "are_some" "are_some" mE f fd){f1:Addr}{d1:Qh}{aW:gh}(C1:gt P w K mg base k "is_between" ["thing","low","high"] aW f1 d1)(b_isinstance:mg "isinstance" = none)(b_tuple:mg "tuple" = none) :
  bc P w K mg base (cX P w mg) (k+1) f fd ["thing","count"] (dN (dS 4 (lZ aW)) 2):=by
 refine aH W w5 (G:=["isinstance","tuple","is_between"]) (by decide +kernel) λcdv A outer s H E hr T=>?_
 exact(am (bR (cM (cn (eV T 0 rfl b_isinstance T 1 rfl b_tuple (ae (aa T 0 rfl))))) (aq (aA bF)) bt)
   (am (aP T 2 rfl aj)
   (am (bX (have T:=T.nox;dc PassesOwn.never T.calm (bq (aa T 0 rfl)) (aI T 3 rfl) (am (bR (cM (cn (av C1 hr T 2 rfl (af (aa T 3 rfl) (af (aa T 2 rfl) (af (iH (ae (aa T 1 rfl)) (ae aj)) ak))) rfl (ah (ah (ah ar)))))) (aq (aA bF)) bt)
   (aq (aP T 2 rfl (cu (ae (aa T 3 rfl)) (ae aj)))))))
   (aq (aA bF)))))
theorem Bt:aR ["some","others"] ["some","others"] (ao nS):=⟨rfl,rfl,rfl,by decide +kernel,rfl,by decide +kernel,by decide +kernel⟩
theorem Bn(W:gq K "common" "common" nS f fd)(b_tuple:mg "tuple" = none) :
  bc P w K mg base (cX P w mg) (k+1) f fd ["some","others"] (dN (dS 2 (qf)) 2):=by
 refine aH W Bt (G:=["tuple"]) (by decide +kernel) λcdv A outer s H E hr T=>?_
 exact(aq (aA (bw T 0 rfl b_tuple (cq (bd (N:=["number","others"]) (own:=1) (G:=[]) (fr:=[1]) T rfl rfl (oN:=["some","others"]) (on:=(ao nS).names) (by decide +kernel) (bq (aa T 0 rfl)) (bi (by decide)) (λcl C s' H' fp E' T=>⟨(aI T 0 rfl),(ft (nh T.hu (ae (aa T 0 rfl)) (ae (aa T 1 rfl)) (by with_unfolding_all rfl))),(aa T 0 rfl)⟩))))))
theorem pL:aR ["moves","others"] ["moves","others"] (ao gj):=⟨rfl,rfl,rfl,by decide +kernel,rfl,by decide +kernel,by decide +kernel⟩
theorem pE(W:gq K "moves_of_both" "moves_of_both" gj f fd)(b_tuple:mg "tuple" = none)(b_zip:mg "zip" = none) :
  bc P w K mg base (cX P w mg) (k+1) f fd ["moves","others"] (dN (dS 2 (ia)) 2):=by
 refine aH W pL (G:=["tuple","zip"]) (by decide +kernel) λcdv A outer s H E hr T=>?_
 exact(aq (aA (bw T 0 rfl b_tuple (cq (bd (N:=["move","other"]) (own:=2) (G:=[]) (fr:=[]) T rfl rfl (oN:=["moves","others"]) (on:=(ao gj).names) (by decide +kernel) (Bv T 1 rfl b_zip (aa T 0 rfl) (aa T 1 rfl)) (jr (by decide) (by decide)) (λcl C s' H' fp E' T=>⟨(iC T 0 1 rfl rfl),cs,(jR (n8 (ae (aa T 0 rfl)) (ae dn)) (aa T 1 rfl) (aa T 0 rfl))⟩))))))
theorem Bu:aR ["ranks"] ["ranks"] (ao nT):=⟨rfl,rfl,rfl,by decide +kernel,rfl,by decide +kernel,by decide +kernel⟩
theorem Bo(W:gq K "ranked" "ranked" nT f fd)(b_enumerate:mg "enumerate" = none)(b_tuple:mg "tuple" = none) :
  bc P w K mg base (cX P w mg) (k+1) f fd ["ranks"] (dN (dS 1 (qh)) 1):=by
 refine aH W Bu (G:=["tuple","enumerate"]) (by decide +kernel) λcdv A outer s H E hr T=>?_
 exact(aq (aA (bw T 0 rfl b_tuple (cq (bd (N:=["number","rank"]) (own:=2) (G:=[]) (fr:=[]) T rfl rfl (oN:=["ranks"]) (on:=(ao nT).names) (by decide +kernel) (ly T 1 rfl b_enumerate (aa T 0 rfl)) (jr (by decide) (by decide)) (λcl C s' H' fp E' T=>⟨(iC T 0 1 rfl rfl),(ft (jS (ae (aa T 1 rfl)) (ae dn))),(aa T 0 rfl)⟩))))))
theorem pM:aR ["ground","who","ranks","moves","number"] ["ground","who","ranks"] (ao fy):=⟨rfl,rfl,rfl,by decide +kernel,rfl,by decide +kernel,by decide +kernel⟩
theorem pF(W:gq K "pulling_moves" "pulling_moves" fy f fd){f12:Addr}{d12:Qh}{dt:gh}(C12:gt P w K mg base k "ranked" ["ranks"] dt f12 d12){t_GOALS:Tok}(g_GOALS:mg "GOALS" = some (.int 3 t_GOALS)){t_WHO:Tok}(g_WHO:mg "WHO" = some (.int 0 t_WHO))(b_tuple:mg "tuple" = none) :
  bc P w K mg base (cX P w mg) (k+1) f fd ["ground","who","ranks"] (dN (dS 5 (ib dt)) 3):=by
 refine aH W pM (G:=["ranked","WHO","GOALS","tuple"]) (by decide +kernel) λcdv A outer s H E hr T=>?_
 exact(am (eU 3 rfl (N:=["rank"]) (own:=1) (G:=[]) (fr:=[]) T rfl rfl (oN:=["ground","who","ranks","moves","number"]) (on:=(ao fy).names) (by decide +kernel) (bq (aa T 2 rfl)) (bi (by decide)) (λcl C s' H' fp E' T=>⟨(aI T 0 rfl),cs,dn⟩))
   (am (bX (have T:=T.nox;dc PassesOwn.never T.calm (bq (av C12 hr T 0 rfl (af (aa T 2 rfl) ak) rfl (ah ar))) (aI T 4 rfl) (aq (bR (gi (jp (dO T.hu (ae (ax T.hu (ae (ax T.hu (ae (aa T 0 rfl)) (ae (aa T 4 rfl)) (λ_ _=>rfl))) (ae (bz T 1 rfl g_WHO)) (λ_ _=>rfl))) (ae (aa T 1 rfl))) (iJ (kR (ae (ax T.hu (ae (aa T 2 rfl)) (ae (aa T 4 rfl)) (λ_ _=>rfl))) (ae aj))))) (aq (lA T 3 rfl (have T:=T.nox;(aa T 4 rfl)) (ax T.hu (cq (bd (N:=["goal","ranks","number"]) (own:=1) (G:=[]) (fr:=[2,4]) T rfl rfl (oN:=["ground","who","ranks","moves","number"]) (on:=(ao fy).names) (by decide +kernel) (bq (ax T.hu (ae (ax T.hu (ae (aa T 0 rfl)) (ae (aa T 4 rfl)) (λ_ _=>rfl))) (ae (bz T 2 rfl g_GOALS)) (λ_ _=>rfl))) (bi (by decide)) (λcl C s' H' fp E' T=>⟨(aI T 0 rfl),(ft (dO T.hu (ae (ax T.hu (ae (aa T 1 rfl)) (ae (aa T 0 rfl)) (λ_ _=>rfl))) (ae (iH (ae (ax T.hu (ae (aa T 1 rfl)) (ae (aa T 2 rfl)) (λ_ _=>rfl))) (ae aj))))),(aa T 0 rfl)⟩))) (ae aj) (λ_ _=>rfl)))) bt))))
   (aq (aA (bw T 3 rfl b_tuple (cT T 3 rfl))))))
theorem vq:aR ["place","ways","who","ranks","known"] ["place","ways","who","ranks"] (ao iW):=⟨rfl,rfl,rfl,by decide +kernel,rfl,by decide +kernel,by decide +kernel⟩
theorem vf(W:gq K "is_forced" "is_forced" iW f fd){t_WHO:Tok}(g_WHO:mg "WHO" = some (.int 0 t_WHO))(b_len:mg "len" = none) :
  bc P w K mg base (cX P w mg) (k+1) f fd ["place","ways","who","ranks"] (dN (dS 5 (kK)) 4):=by
 refine aH W vq (G:=["WHO","len"]) (by decide +kernel) λcdv A outer s H E hr T=>?_
 exact(am (gx (eU 4 rfl (N:=["goal","ranks"]) (own:=1) (G:=[]) (fr:=[3]) T rfl rfl (oN:=["place","ways","who","ranks","known"]) (on:=(ao iW).names) (by decide +kernel) (bq (aa T 1 rfl)) (bi (by decide)) (λcl C s' H' fp E' T=>⟨(aI T 0 rfl),(ft (jS (ae (ax T.hu (ae (aa T 1 rfl)) (ae (aa T 0 rfl)) (λ_ _=>rfl))) (ae dn))),(aa T 0 rfl)⟩)) (show 4<5 by decide))
   (am (bR (dO T.hu (ae (ax T.hu (ae (aa T 0 rfl)) (ae (bz T 0 rfl g_WHO)) (λ_ _=>rfl))) (ae (aa T 2 rfl))) (aq (aA (D9 (ae (bu T 1 rfl b_len (ae (aa T 4 rfl)))) (ae aj)))) bt)
   (aq (aA (yJ T.hu (ae (bu T 1 rfl b_len (ae (aa T 4 rfl)))) (ae (bu T 1 rfl b_len (ae (aa T 1 rfl)))))))))
theorem xb:aR ["ground","inside","who","goals","ways","ranks","rank","found","unranked","number"] ["ground","inside","who","goals"] (ao gm):=⟨rfl,rfl,rfl,by decide +kernel,rfl,by decide +kernel,by decide +kernel⟩
theorem wW(W:gq K "ranks_to" "ranks_to" gm f fd){f4:Addr}{d4:Qh}{ce:gh}(C4:gt P w K mg base k "common" ["some","others"] ce f4 d4){f10:Addr}{d10:Qh}{cK:gh}(C10:gt P w K mg base k "is_forced" ["place","ways","who","ranks"] cK f10 d10){t_GOALS:Tok}(g_GOALS:mg "GOALS" = some (.int 3 t_GOALS))(b_len:mg "len" = none)(b_list:mg "list" = none)(b_range:mg "range" = none)(b_tuple:mg "tuple" = none) :
  bc P w K mg base (cX P w mg) (k+1) f fd ["ground","inside","who","goals"] (dN (dS 10 (l5 ce cK)) 4):=by
 refine aH W xb (G:=["range","len","list","tuple"]) (by decide +kernel) λcdv A outer s H E hr T=>?_
 exact(am (aP T 4 rfl (iO (bd (N:=["place","inside"]) (own:=1) (G:=["common","GOALS"]) (fr:=[1]) T rfl rfl (oN:=["ground","inside","who","goals","ways","ranks","rank","found","unranked","number"]) (on:=(ao gm).names) (by decide +kernel) (bq (aa T 0 rfl)) (bi (by decide)) (λcl C s' H' fp E' T=>⟨(aI T 0 rfl),cs,(av C4 hr T 0 rfl (af (ax T.hu (ae (aa T 0 rfl)) (ae (bz T 1 rfl g_GOALS)) (λ_ _=>rfl)) (af (aa T 1 rfl) ak)) rfl (ah (ah ar)))⟩))))
   (am (fM T 5 rfl (bd (N:=["number","goals"]) (own:=1) (G:=[]) (fr:=[3]) T rfl rfl (oN:=["ground","inside","who","goals","ways","ranks","rank","found","unranked","number"]) (on:=(ao gm).names) (by decide +kernel) (cL T 0 rfl b_range (af (bu T 1 rfl b_len (ae (aa T 0 rfl))) ak) (ah ar)) (bi (by decide)) (λcl C s' H' fp E' T=>⟨(aI T 0 rfl),cs,(jR (nh T.hu (ae (aa T 0 rfl)) (ae (aa T 1 rfl)) (by with_unfolding_all rfl)) aj dn)⟩)))
   (am (aP T 6 rfl aj)
   (am (aP T 7 rfl (iO (l9 T 2 rfl b_list (ae (aa T 3 rfl)))))
   (am (bX (have T:=T.nox;l8 1000000 PassesOwn.never (kR (ae (bu T 1 rfl b_len (ae (aa T 7 rfl)))) (ae aj)) (am (Am T 6 rfl aj)
   (am (gx (eU 8 rfl (N:=["number","ranks"]) (own:=1) (G:=[]) (fr:=[5]) T rfl rfl (oN:=["ground","inside","who","goals","ways","ranks","rank","found","unranked","number"]) (on:=(ao gm).names) (by decide +kernel) (bq (aa T 1 rfl)) (bi (by decide)) (λcl C s' H' fp E' T=>⟨(aI T 0 rfl),(ft (n8 (ae (ax T.hu (cT T 1 rfl) (ae (aa T 0 rfl)) (λ_ _=>rfl))) (ae dn))),(aa T 0 rfl)⟩)) (show 8<10 by decide))
   (am (gx (eU 7 rfl (N:=["number","ground","ways","who","ranks"]) (own:=1) (G:=["is_forced"]) (fr:=[0,4,2,5]) T rfl rfl (oN:=["ground","inside","who","goals","ways","ranks","rank","found","unranked","number"]) (on:=(ao gm).names) (by decide +kernel) (bq (aa T 8 rfl)) (bi (by decide)) (λcl C s' H' fp E' T=>⟨(aI T 0 rfl),(ft (cn (qp 4 (av C10 hr T 0 rfl (af (ax T.hu (ae (aa T 1 rfl)) (ae (aa T 0 rfl)) (λ_ _=>rfl)) (af (ax T.hu (ae (aa T 2 rfl)) (ae (aa T 0 rfl)) (λ_ _=>rfl)) (af (aa T 3 rfl) (af (aa T 4 rfl) ak)))) rfl (ah (ah (ah (ah ar)))))))),(aa T 0 rfl)⟩)) (show 7<10 by decide))
   (aq (bX (have T:=T.nox;dc PassesOwn.never T.calm (bq (aa T 7 rfl)) (aI T 9 rfl) (aq (lA T 5 rfl (have T:=T.nox;(aa T 9 rfl)) (aa T 6 rfl)))))))))))
   (aq (aA (bw T 3 rfl b_tuple (cT T 5 rfl)))))))))
theorem xa:aR ["ground"] ["ground"] (ao ki):=⟨rfl,rfl,rfl,by decide +kernel,rfl,by decide +kernel,by decide +kernel⟩
theorem wV(W:gq K "no_moves" "no_moves" ki f fd)(b_tuple:mg "tuple" = none) :
  bc P w K mg base (cX P w mg) (k+1) f fd ["ground"] (dN (dS 1 (l4)) 1):=by
 refine aH W xa (G:=["tuple"]) (by decide +kernel) λcdv A outer s H E hr T=>?_
 exact(aq (aA (bw T 0 rfl b_tuple (cq (bd (N:=["place"]) (own:=1) (G:=[]) (fr:=[]) T rfl rfl (oN:=["ground"]) (on:=(ao ki).names) (by decide +kernel) (bq (aa T 0 rfl)) (bi (by decide)) (λcl C s' H' fp E' T=>⟨(aI T 0 rfl),cs,dn⟩))))))
theorem pN:aR ["ground","who","part","moves","number"] ["ground","who","part"] (ao ie):=⟨rfl,rfl,rfl,by decide +kernel,rfl,by decide +kernel,by decide +kernel⟩
theorem pG(W:gq K "staying_moves" "staying_moves" ie f fd){f4:Addr}{d4:Qh}{ce:gh}(C4:gt P w K mg base k "common" ["some","others"] ce f4 d4){f6:Addr}{d6:Qh}{cJ:gh}(C6:gt P w K mg base k "no_moves" ["ground"] cJ f6 d6){t_GOALS:Tok}(g_GOALS:mg "GOALS" = some (.int 3 t_GOALS)){t_WHO:Tok}(g_WHO:mg "WHO" = some (.int 0 t_WHO))(b_list:mg "list" = none)(b_tuple:mg "tuple" = none) :
  bc P w K mg base (cX P w mg) (k+1) f fd ["ground","who","part"] (dN (dS 5 (ic ce cJ)) 3):=by
 refine aH W pN (G:=["list","no_moves","WHO","common","GOALS","tuple"]) (by decide +kernel) λcdv A outer s H E hr T=>?_
 exact(am (fM T 3 rfl (l9 T 0 rfl b_list (ae (av C6 hr T 1 rfl (af (aa T 0 rfl) ak) rfl (ah ar)))))
   (am (bX (have T:=T.nox;dc PassesOwn.never T.calm (bq (aa T 2 rfl)) (aI T 4 rfl) (aq (bR (dO T.hu (ae (ax T.hu (ae (ax T.hu (ae (aa T 0 rfl)) (ae (aa T 4 rfl)) (λ_ _=>rfl))) (ae (bz T 2 rfl g_WHO)) (λ_ _=>rfl))) (ae (aa T 1 rfl))) (aq (lA T 3 rfl (have T:=T.nox;(aa T 4 rfl)) (ax T.hu (ae (av C4 hr T 3 rfl (af (ax T.hu (ae (ax T.hu (ae (aa T 0 rfl)) (ae (aa T 4 rfl)) (λ_ _=>rfl))) (ae (bz T 4 rfl g_GOALS)) (λ_ _=>rfl)) (af (aa T 2 rfl) ak)) rfl (ah (ah ar)))) (ae aj) (λ_ _=>rfl)))) bt))))
   (aq (aA (bw T 5 rfl b_tuple (cT T 3 rfl))))))
theorem Al:aR ["some","others"] ["some","others"] (ao lL):=⟨rfl,rfl,rfl,by decide +kernel,rfl,by decide +kernel,by decide +kernel⟩
theorem Af(W:gq K "without" "without" lL f fd)(b_tuple:mg "tuple" = none) :
  bc P w K mg base (cX P w mg) (k+1) f fd ["some","others"] (dN (dS 2 (n4)) 2):=by
 refine aH W Al (G:=["tuple"]) (by decide +kernel) λcdv A outer s H E hr T=>?_
 exact(aq (aA (bw T 0 rfl b_tuple (cq (bd (N:=["number","others"]) (own:=1) (G:=[]) (fr:=[1]) T rfl rfl (oN:=["some","others"]) (on:=(ao lL).names) (by decide +kernel) (bq (aa T 0 rfl)) (bi (by decide)) (λcl C s' H' fp E' T=>⟨(aI T 0 rfl),(ft (oU T.hu (ae (aa T 0 rfl)) (ae (aa T 1 rfl)) (by with_unfolding_all rfl))),(aa T 0 rfl)⟩))))))
theorem mV:aR ["ground","inside","who","goals","ranks","away","moves","other"] ["ground","inside","who","goals"] (ao gG):=⟨rfl,rfl,rfl,by decide +kernel,rfl,by decide +kernel,by decide +kernel⟩
theorem mR(W:gq K "share_by_coming" "share_by_coming" gG f fd){f4:Addr}{d4:Qh}{ce:gh}(C4:gt P w K mg base k "common" ["some","others"] ce f4 d4){f7:Addr}{d7:Qh}{aZ:gh}(C7:gt P w K mg base k "moves_of_both" ["moves","others"] aZ f7 d7){f13:Addr}{d13:Qh}{cy:gh}(C13:gt P w K mg base k "pulling_moves" ["ground","who","ranks"] cy f13 d13){f12:Addr}{d12:Qh}{dt:gh}(C12:gt P w K mg base k "ranked" ["ranks"] dt f12 d12){f11:Addr}{d11:Qh}{eN:gh}(C11:gt P w K mg base k "ranks_to" ["ground","inside","who","goals"] eN f11 d11){f8:Addr}{d8:Qh}{cz:gh}(C8:gt P w K mg base k "staying_moves" ["ground","who","part"] cz f8 d8){f5:Addr}{d5:Qh}{cV:gh}(C5:gt P w K mg base k "without" ["some","others"] cV f5 d5)(b_len:mg "len" = none){c_Share:Addr}(cl_Share:Bk K c_Share)(n_Share_moves:fV K c_Share "moves")(n_Share_places:fV K c_Share "places")(n_Share_who:fV K c_Share "who")(m_Share:mg "Share" = some (.ref c_Share)){fi_Share:Addr}{di_Share:Qh}(MK_Share:Mk K c_Share fi_Share)(I_Share:bc P w K mg base (cX P w mg) 1 fi_Share di_Share ["self","who","places","moves"] (Ko c_Share ["who","places","moves"]))(B_Share:bx K di_Share ["self","who","places","moves"] [])(hk:2<=k) :
  bc P w K mg base (cX P w mg) (k+1) f fd ["ground","inside","who","goals"] (dN (dS 8 (gw ce aZ cy dt eN cz cV c_Share)) 4):=by
 refine aH W mV (G:=["ranks_to","common","without","ranked","len","moves_of_both","pulling_moves","staying_moves","Share"]) (by decide +kernel) λcdv A outer s H E hr T=>?_
 exact(am (aP T 4 rfl (av C11 hr T 0 rfl (af (aa T 0 rfl) (af (aa T 1 rfl) (af (aa T 2 rfl) (af (av C4 hr T 1 rfl (af (aa T 3 rfl) (af (aa T 1 rfl) ak)) rfl (ah (ah ar))) ak)))) rfl (ah (ah (ah (ah ar))))))
   (am (aP T 5 rfl (av C5 hr T 2 rfl (af (aa T 1 rfl) (af (av C12 hr T 3 rfl (af (aa T 4 rfl) ak) rfl (ah ar)) ak)) rfl (ah (ah ar))))
   (am (bR (dO T.hu (ae (bu T 4 rfl b_len (ae (aa T 5 rfl)))) (ae aj)) (am (aP T 6 rfl (av C7 hr T 5 rfl (af (av C13 hr T 6 rfl (af (aa T 0 rfl) (af (aa T 2 rfl) (af (aa T 4 rfl) ak))) rfl (ah (ah (ah ar)))) (af (av C8 hr T 7 rfl (af (aa T 0 rfl) (af (aa T 2 rfl) (af (aa T 1 rfl) ak))) rfl (ah (ah (ah ar)))) ak)) rfl (ah (ah ar))))
   (aq (aA (vD MK_Share I_Share (hr.mono hk) T 8 rfl m_Share B_Share (af (aa T 2 rfl) (af (aa T 1 rfl) (af (aa T 6 rfl) ak))) (ah (ah (ah ar))))))) bt)
   (am (aP T 7 rfl (iH (ae aj) (ae (aa T 2 rfl))))
   (am (aP T 4 rfl (av C11 hr T 0 rfl (af (aa T 0 rfl) (af (aa T 1 rfl) (af (aa T 7 rfl) (af (aa T 5 rfl) ak)))) rfl (ah (ah (ah (ah ar))))))
   (am (aP T 6 rfl (av C7 hr T 5 rfl (af (av C13 hr T 6 rfl (af (aa T 0 rfl) (af (aa T 7 rfl) (af (aa T 4 rfl) ak))) rfl (ah (ah (ah ar)))) (af (av C8 hr T 7 rfl (af (aa T 0 rfl) (af (aa T 7 rfl) (af (aa T 5 rfl) ak))) rfl (ah (ah (ah ar)))) ak)) rfl (ah (ah ar))))
   (aq (aA (vD MK_Share I_Share (hr.mono hk) T 8 rfl m_Share B_Share (af (aa T 7 rfl) (af (av C12 hr T 3 rfl (af (aa T 4 rfl) ak) rfl (ah ar)) (af (aa T 6 rfl) ak))) (ah (ah (ah ar))))))))))))
theorem lR:aR ["ground","shares","winners","moves","share","number"] ["ground","shares"] (ao eT):=⟨rfl,rfl,rfl,by decide +kernel,rfl,by decide +kernel,by decide +kernel⟩
theorem lP(W:gq K "winners_and_moves" "winners_and_moves" eT f fd){f7:Addr}{d7:Qh}{aZ:gh}(C7:gt P w K mg base k "moves_of_both" ["moves","others"] aZ f7 d7){f6:Addr}{d6:Qh}{cJ:gh}(C6:gt P w K mg base k "no_moves" ["ground"] cJ f6 d6)(b_tuple:mg "tuple" = none){c_Share:Addr}(cl_Share:Bk K c_Share)(n_Share_moves:fV K c_Share "moves")(n_Share_places:fV K c_Share "places")(n_Share_who:fV K c_Share "who") :
  bc P w K mg base (cX P w mg) (k+1) f fd ["ground","shares"] (dN (dS 6 (fU aZ cJ c_Share)) 2):=by
 refine aH W lR (G:=["no_moves","moves_of_both","tuple"]) (by decide +kernel) λcdv A outer s H E hr T=>?_
 exact(am (eU 2 rfl (N:=["place"]) (own:=1) (G:=[]) (fr:=[]) T rfl rfl (oN:=["ground","shares","winners","moves","share","number"]) (on:=(ao eT).names) (by decide +kernel) (bq (aa T 0 rfl)) (bi (by decide)) (λcl C s' H' fp E' T=>⟨(aI T 0 rfl),cs,dn⟩))
   (am (aP T 3 rfl (av C6 hr T 0 rfl (af (aa T 0 rfl) ak) rfl (ah ar)))
   (am (bX (have T:=T.nox;dc PassesOwn.never T.calm (bq (aa T 1 rfl)) (aI T 4 rfl) (am (bX (have T:=T.nox;dc PassesOwn.never T.calm (bq (mX cl_Share n_Share_places (aa T 4 rfl))) (aI T 5 rfl) (aq (lA T 2 rfl (have T:=T.nox;(aa T 5 rfl)) (mX cl_Share n_Share_who (aa T 4 rfl))))))
   (aq (aP T 3 rfl (av C7 hr T 1 rfl (af (aa T 3 rfl) (af (mX cl_Share n_Share_moves (aa T 4 rfl)) ak)) rfl (ah (ah ar))))))))
   (aq (aA (du (af (bw T 2 rfl b_tuple (cT T 2 rfl)) (af (aa T 3 rfl) ak))))))))
theorem D5:aR ["ground","who","goals","shares","inside","share"] ["ground","who","goals"] (ao u3):=⟨rfl,rfl,rfl,by decide +kernel,rfl,by decide +kernel,by decide +kernel⟩
theorem DW(W:gq K "again" "again" u3 f fd){f3:Addr}{d3:Qh}{dB:gh}(C3:gt P w K mg base k "all_places" ["ground"] dB f3 d3){f2:Addr}{d2:Qh}{cr:gh}(C2:gt P w K mg base k "are_some" ["thing","count"] cr f2 d2){f14:Addr}{d14:Qh}{bN:gh}(C14:gt P w K mg base k "share_by_coming" ["ground","inside","who","goals"] bN f14 d14){f9:Addr}{d9:Qh}{bK:gh}(C9:gt P w K mg base k "winners_and_moves" ["ground","shares"] bK f9 d9){f5:Addr}{d5:Qh}{cV:gh}(C5:gt P w K mg base k "without" ["some","others"] cV f5 d5)(b_len:mg "len" = none){c_NoPart:Addr}(m_NoPart:mg "NoPart" = some (.ref c_NoPart))(q_NoPart:PySem.W.excIn K c_NoPart xn xJ=true){c_Share:Addr}(cl_Share:Bk K c_Share)(n_Share_places:fV K c_Share "places") :
  bc P w K mg base (cX P w mg) (k+1) f fd ["ground","who","goals"] (dN (dS 6 (ua dB cr bN bK cV c_Share)) 3):=by
 refine aH W D5 (G:=["are_some","len","NoPart","all_places","share_by_coming","without","winners_and_moves"]) (by decide +kernel) λcdv A outer s H E hr T=>?_
 exact(am (bR (cM (cn (av C2 hr T 0 rfl (af (aa T 2 rfl) (af (bu T 1 rfl b_len (ae (aa T 0 rfl))) ak)) rfl (ah (ah ar))))) (aq (l7 T 2 rfl m_NoPart q_NoPart (have T:=T.nox;qu))) bt)
   (am (fM T 3 rfl (eW ak))
   (am (aP T 4 rfl (av C3 hr T 3 rfl (af (aa T 0 rfl) ak) rfl (ah ar)))
   (am (bX (have T:=T.nox;l8 1000000 PassesOwn.never (kR (ae (bu T 1 rfl b_len (ae (aa T 4 rfl)))) (ae aj)) (am (aP T 5 rfl (av C14 hr T 4 rfl (af (aa T 0 rfl) (af (aa T 4 rfl) (af (aa T 1 rfl) (af (aa T 2 rfl) ak)))) rfl (ah (ah (ah (ah ar))))))
   (am (kP T 3 rfl (aa T 5 rfl))
   (aq (aP T 4 rfl (av C5 hr T 5 rfl (af (aa T 4 rfl) (af (mX cl_Share n_Share_places (aa T 5 rfl)) ak)) rfl (ah (ah ar)))))))))
   (aq (yI 3 (aA (av C9 hr T 6 rfl (af (aa T 0 rfl) (af (aa T 3 rfl) ak)) rfl (ah (ah ar))))))))))
theorem vp:aR ["told","count"] ["told","count"] (ao iV):=⟨rfl,rfl,rfl,by decide +kernel,rfl,by decide +kernel,by decide +kernel⟩
theorem ve(W:gq K "by_states" "by_states" iV f fd)(b_len:mg "len" = none)(b_range:mg "range" = none)(b_tuple:mg "tuple" = none) :
  bc P w K mg base (cX P w mg) (k+1) f fd ["told","count"] (dN (dS 2 (kJ)) 2):=by
 refine aH W vp (G:=["tuple","range","len"]) (by decide +kernel) λcdv A outer s H E hr T=>?_
 exact(aq (aA (bw T 0 rfl b_tuple (cq (bd (N:=["first","told","count"]) (own:=1) (G:=["tuple"]) (fr:=[0,1]) T rfl rfl (oN:=["told","count"]) (on:=(ao iV).names) (by decide +kernel) (vB T 1 rfl b_range (af aj (af (bu T 2 rfl b_len (ae (aa T 0 rfl))) (af (aa T 1 rfl) ak))) (ah (ah (ah ar)))) (bi (by decide)) (λcl C s' H' fp E' T=>⟨(aI T 0 rfl),cs,(bw T 0 rfl b_tuple (ae (xg (ae (aa T 1 rfl)) (sI (aa T 0 rfl)) (sI (cu (ae (aa T 0 rfl)) (ae (aa T 2 rfl)))))))⟩))))))
theorem uc:aR ["ground","watcher","count"] ["ground","watcher"] (ao ir):=⟨rfl,rfl,rfl,by decide +kernel,rfl,by decide +kernel,by decide +kernel⟩
theorem tQ(W:gq K "good_pairs" "good_pairs" ir f fd){t_GOOD:Tok}(g_GOOD:mg "GOOD" = some (.int 0 t_GOOD))(b_len:mg "len" = none)(b_range:mg "range" = none)(b_tuple:mg "tuple" = none) :
  bc P w K mg base (cX P w mg) (k+1) f fd ["ground","watcher"] (dN (dS 3 (jI)) 2):=by
 refine aH W uc (G:=["len","tuple","range"]) (by decide +kernel) λcdv A outer s H E hr T=>?_
 exact(am (aP T 2 rfl (bu T 0 rfl b_len (ae (aa T 0 rfl))))
   (aq (aA (bw T 1 rfl b_tuple (cq (bd (N:=["pair","watcher","count"]) (own:=1) (G:=["GOOD"]) (fr:=[1,2]) T rfl rfl (oN:=["ground","watcher","count"]) (on:=(ao ir).names) (by decide +kernel) (cL T 2 rfl b_range (af (eF (ae (aa T 2 rfl)) (ae (bu T 0 rfl b_len (ae (aa T 1 rfl))))) ak) (ah ar)) (bi (by decide)) (λcl C s' H' fp E' T=>⟨(aI T 0 rfl),(ft (dO T.hu (ae (ax T.hu (ae (ax T.hu (ae (aa T 1 rfl)) (ae (fY (ae (aa T 0 rfl)) (ae (aa T 2 rfl)))) (λ_ _=>rfl))) (ae (bz T 0 rfl g_GOOD)) (λ_ _=>rfl))) (ae aj))),(aa T 0 rfl)⟩)))))))
theorem ul:aR ["place","goals"] ["place","goals"] (ao kl):=⟨rfl,rfl,rfl,by decide +kernel,rfl,by decide +kernel,by decide +kernel⟩
theorem tY(W:gq K "with_goals" "with_goals" kl f fd){t_GAIN:Tok}(g_GAIN:mg "GAIN" = some (.int 2 t_GAIN)){t_MARK:Tok}(g_MARK:mg "MARK" = some (.int 1 t_MARK)){t_WHO:Tok}(g_WHO:mg "WHO" = some (.int 0 t_WHO))(b_tuple:mg "tuple" = none) :
  bc P w K mg base (cX P w mg) (k+1) f fd ["place","goals"] (dN (dS 2 (jP)) 2):=by
 refine aH W ul (G:=["WHO","MARK","GAIN","tuple"]) (by decide +kernel) λcdv A outer s H E hr T=>?_
 exact(aq (aA (du (af (ax T.hu (ae (aa T 0 rfl)) (ae (bz T 0 rfl g_WHO)) (λ_ _=>rfl)) (af (ax T.hu (ae (aa T 0 rfl)) (ae (bz T 1 rfl g_MARK)) (λ_ _=>rfl)) (af (ax T.hu (ae (aa T 0 rfl)) (ae (bz T 2 rfl g_GAIN)) (λ_ _=>rfl)) (af (bw T 3 rfl b_tuple (ae (aa T 1 rfl))) ak)))))))
theorem Aj:aR ["ground","state","place","goals"] ["ground","state","place"] (ao lK):=⟨rfl,rfl,rfl,by decide +kernel,rfl,by decide +kernel,by decide +kernel⟩
theorem Ad(W:gq K "pair_of" "pair_of" lK f fd){f16:Addr}{d16:Qh}{dE:gh}(C16:gt P w K mg base k "with_goals" ["place","goals"] dE f16 d16){t_GOALS:Tok}(g_GOALS:mg "GOALS" = some (.int 3 t_GOALS)){t_MARK:Tok}(g_MARK:mg "MARK" = some (.int 1 t_MARK)){t_STEPS:Tok}(g_STEPS:mg "STEPS" = some (.int 1 t_STEPS))(b_len:mg "len" = none)(b_sorted:mg "sorted" = none) :
  bc P w K mg base (cX P w mg) (k+1) f fd ["ground","state","place"] (dN (dS 4 (nZ dE)) 3):=by
 refine aH W Aj (G:=["GOALS","with_goals","sorted"]) (by decide +kernel) λcdv A outer s H E hr T=>?_
 exact(am (gx (eU 3 rfl (N:=["goal","state","ground"]) (own:=1) (G:=["STEPS","MARK","len"]) (fr:=[1,0]) T rfl rfl (oN:=["ground","state","place","goals"]) (on:=(ao lK).names) (by decide +kernel) (bq (ax T.hu (ae (aa T 2 rfl)) (ae (bz T 0 rfl g_GOALS)) (λ_ _=>rfl))) (bi (by decide)) (λcl C s' H' fp E' T=>⟨(aI T 0 rfl),cs,(cu (ae (eF (ae (ax T.hu (ae (ax T.hu (ae (aa T 1 rfl)) (ae (bz T 0 rfl g_STEPS)) (λ_ _=>rfl))) (ae (ax T.hu (ae (ax T.hu (ae (aa T 2 rfl)) (ae (aa T 0 rfl)) (λ_ _=>rfl))) (ae (bz T 1 rfl g_MARK)) (λ_ _=>rfl))) (λ_ _=>rfl))) (ae (bu T 2 rfl b_len (ae (aa T 2 rfl)))))) (ae (aa T 0 rfl)))⟩)) (show 3<4 by decide))
   (aq (aA (av C16 hr T 1 rfl (af (aa T 2 rfl) (af (iO (nc T 2 rfl b_sorted (ae (aa T 3 rfl)))) ak)) rfl (ah (ah ar))))))
theorem mT:aR ["ground","watcher","pairs","state"] ["ground","watcher"] (ao fG):=⟨rfl,rfl,rfl,by decide +kernel,rfl,by decide +kernel,by decide +kernel⟩
theorem mP(W:gq K "ground_of_pairs" "ground_of_pairs" fG f fd){f23:Addr}{d23:Qh}{ez:gh}(C23:gt P w K mg base k "pair_of" ["ground","state","place"] ez f23 d23)(b_tuple:mg "tuple" = none) :
  bc P w K mg base (cX P w mg) (k+1) f fd ["ground","watcher"] (dN (dS 4 (gu ez)) 2):=by
 refine aH W mT (G:=["tuple"]) (by decide +kernel) λcdv A outer s H E hr T=>?_
 exact(am (fM T 2 rfl (eW ak))
   (am (bX (have T:=T.nox;dc PassesOwn.never T.calm (bq (aa T 1 rfl)) (aI T 3 rfl) (aq (vC T 2 rfl (iO (bd (N:=["place","ground","state"]) (own:=1) (G:=["pair_of"]) (fr:=[0,3]) T rfl rfl (oN:=["ground","watcher","pairs","state"]) (on:=(ao fG).names) (by decide +kernel) (bq (aa T 0 rfl)) (bi (by decide)) (λcl C s' H' fp E' T=>⟨(aI T 0 rfl),cs,(av C23 hr T 0 rfl (af (aa T 1 rfl) (af (aa T 2 rfl) (af (aa T 0 rfl) ak))) rfl (ah (ah (ah ar))))⟩)))))))
   (aq (aA (bw T 0 rfl b_tuple (cT T 2 rfl))))))
theorem sd:aR ["thing","least","most"] ["thing","least","most"] (ao jh):=⟨rfl,rfl,rfl,by decide +kernel,rfl,by decide +kernel,by decide +kernel⟩
theorem rV(W:gq K "is_tuple_of" "is_tuple_of" jh f fd)(b_isinstance:mg "isinstance" = none)(b_len:mg "len" = none)(b_tuple:mg "tuple" = none) :
  bc P w K mg base (cX P w mg) (k+1) f fd ["thing","least","most"] (dN (dS 3 (i4)) 3):=by
 refine aH W sd (G:=["isinstance","tuple","len"]) (by decide +kernel) λcdv A outer s H E hr T=>?_
 exact(aq (aA (iG (eV T 0 rfl b_isinstance T 1 rfl b_tuple (ae (aa T 0 rfl))) (jo (qt zF mK zF mK (ae (aa T 1 rfl)) (ae (bu T 2 rfl b_len (ae (aa T 0 rfl)))) (ae (aa T 2 rfl)))))))
theorem vo:aR ["thing","count"] ["thing","count"] (ao iU):=⟨rfl,rfl,rfl,by decide +kernel,rfl,by decide +kernel,by decide +kernel⟩
theorem vd(W:gq K "are_steps" "are_steps" iU f fd){f1:Addr}{d1:Qh}{aW:gh}(C1:gt P w K mg base k "is_between" ["thing","low","high"] aW f1 d1){f17:Addr}{d17:Qh}{aM:gh}(C17:gt P w K mg base k "is_tuple_of" ["thing","least","most"] aM f17 d17){t_COUNT_OF_MARKS:Tok}(g_COUNT_OF_MARKS:mg "COUNT_OF_MARKS" = some (.int 13 t_COUNT_OF_MARKS))(b_all:mg "all" = none) :
  bc P w K mg base (cX P w mg) (k+1) f fd ["thing","count"] (dN (dS 2 (kI aW aM)) 2):=by
 refine aH W vo (G:=["is_tuple_of","COUNT_OF_MARKS","all"]) (by decide +kernel) λcdv A outer s H E hr T=>?_
 exact(am (bR (cM (cn (av C17 hr T 0 rfl (af (aa T 0 rfl) (af (bz T 1 rfl g_COUNT_OF_MARKS) (af (bz T 1 rfl g_COUNT_OF_MARKS) ak))) rfl (ah (ah (ah ar)))))) (aq (aA bF)) bt)
   (aq (aA (kQ T 2 rfl b_all (cq (bd (N:=["step","count"]) (own:=1) (G:=["is_between"]) (fr:=[1]) T rfl rfl (oN:=["thing","count"]) (on:=(ao iU).names) (by decide +kernel) (bq (aa T 0 rfl)) (bi (by decide)) (λcl C s' H' fp E' T=>⟨(aI T 0 rfl),cs,(av C1 hr T 0 rfl (af (aa T 0 rfl) (af aj (af (iH (ae (aa T 1 rfl)) (ae aj)) ak))) rfl (ah (ah (ah ar))))⟩)))))))
theorem w6:aR ["thing","count"] ["thing","count"] (ao mF):=⟨rfl,rfl,rfl,by decide +kernel,rfl,by decide +kernel,by decide +kernel⟩
theorem wS(W:gq K "is_state" "is_state" mF f fd){f18:Addr}{d18:Qh}{eB:gh}(C18:gt P w K mg base k "are_steps" ["thing","count"] eB f18 d18){f1:Addr}{d1:Qh}{aW:gh}(C1:gt P w K mg base k "is_between" ["thing","low","high"] aW f1 d1){f17:Addr}{d17:Qh}{aM:gh}(C17:gt P w K mg base k "is_tuple_of" ["thing","least","most"] aM f17 d17){t_GOOD:Tok}(g_GOOD:mg "GOOD" = some (.int 0 t_GOOD)){t_PARTS_OF_STATE:Tok}(g_PARTS_OF_STATE:mg "PARTS_OF_STATE" = some (.int 2 t_PARTS_OF_STATE)){t_STEPS:Tok}(g_STEPS:mg "STEPS" = some (.int 1 t_STEPS)) :
  bc P w K mg base (cX P w mg) (k+1) f fd ["thing","count"] (dN (dS 2 (l0 eB aW aM)) 2):=by
 refine aH W w6 (G:=["is_tuple_of","PARTS_OF_STATE","is_between","GOOD","are_steps","STEPS"]) (by decide +kernel) λcdv A outer s H E hr T=>?_
 exact(am (bR (cM (cn (av C17 hr T 0 rfl (af (aa T 0 rfl) (af (bz T 1 rfl g_PARTS_OF_STATE) (af (bz T 1 rfl g_PARTS_OF_STATE) ak))) rfl (ah (ah (ah ar)))))) (aq (aA bF)) bt)
   (aq (aA (iG (av C1 hr T 2 rfl (af (ax T.hu (ae (aa T 0 rfl)) (ae (bz T 3 rfl g_GOOD)) (λ_ _=>rfl)) (af aj (af aj ak))) rfl (ah (ah (ah ar)))) (jo (av C18 hr T 4 rfl (af (ax T.hu (ae (aa T 0 rfl)) (ae (bz T 5 rfl g_STEPS)) (λ_ _=>rfl)) (af (aa T 1 rfl) ak)) rfl (ah (ah ar))))))))
theorem ue:aR ["thing"] ["thing"] (ao iu):=⟨rfl,rfl,rfl,by decide +kernel,rfl,by decide +kernel,by decide +kernel⟩
theorem tT(W:gq K "is_watcher" "is_watcher" iu f fd){f19:Addr}{d19:Qh}{eM:gh}(C19:gt P w K mg base k "is_state" ["thing","count"] eM f19 d19){f17:Addr}{d17:Qh}{aM:gh}(C17:gt P w K mg base k "is_tuple_of" ["thing","least","most"] aM f17 d17){t_MOST_STATES:Tok}(g_MOST_STATES:mg "MOST_STATES" = some (.int 6 t_MOST_STATES))(b_all:mg "all" = none)(b_len:mg "len" = none) :
  bc P w K mg base (cX P w mg) (k+1) f fd ["thing"] (dN (dS 1 (jK eM aM)) 1):=by
 refine aH W ue (G:=["is_tuple_of","MOST_STATES","all"]) (by decide +kernel) λcdv A outer s H E hr T=>?_
 exact(aq (aA (iG (av C17 hr T 0 rfl (af (aa T 0 rfl) (af aj (af (bz T 1 rfl g_MOST_STATES) ak))) rfl (ah (ah (ah ar)))) (jo (kQ T 2 rfl b_all (cq (bd (N:=["state","thing"]) (own:=1) (G:=["is_state","len"]) (fr:=[0]) T rfl rfl (oN:=["thing"]) (on:=(ao iu).names) (by decide +kernel) (bq (aa T 0 rfl)) (bi (by decide)) (λcl C s' H' fp E' T=>⟨(aI T 0 rfl),cs,(av C19 hr T 0 rfl (af (aa T 0 rfl) (af (bu T 1 rfl b_len (ae (aa T 1 rfl))) ak)) rfl (ah (ah ar)))⟩))))))))
theorem Ak:aR ["ground","watcher","who","count","told","pairs","moves","begun","winners"] ["ground","watcher","who"] (ao jA):=⟨rfl,rfl,rfl,by decide +kernel,rfl,by decide +kernel,by decide +kernel⟩
theorem Ae(W:gq K "watched" "watched" jA f fd){f15:Addr}{d15:Qh}{im:gh}(C15:gt P w K mg base k "again" ["ground","who","goals"] im f15 d15){f26:Addr}{d26:Qh}{dH:gh}(C26:gt P w K mg base k "by_states" ["told","count"] dH f26 d26){f25:Addr}{d25:Qh}{dC:gh}(C25:gt P w K mg base k "good_pairs" ["ground","watcher"] dC f25 d25){f24:Addr}{d24:Qh}{cf:gh}(C24:gt P w K mg base k "ground_of_pairs" ["ground","watcher"] cf f24 d24){f20:Addr}{d20:Qh}{dD:gh}(C20:gt P w K mg base k "is_watcher" ["thing"] dD f20 d20){t_MARK:Tok}(g_MARK:mg "MARK" = some (.int 1 t_MARK)){t_STEPS:Tok}(g_STEPS:mg "STEPS" = some (.int 1 t_STEPS))(b_enumerate:mg "enumerate" = none)(b_len:mg "len" = none)(b_tuple:mg "tuple" = none){c_NoWatcher:Addr}(m_NoWatcher:mg "NoWatcher" = some (.ref c_NoWatcher))(q_NoWatcher:PySem.W.excIn K c_NoWatcher xn xJ=true) :
  bc P w K mg base (cX P w mg) (k+1) f fd ["ground","watcher","who"] (dN (dS 9 (lx im dH dC cf dD)) 3):=by
 refine aH W Ak (G:=["is_watcher","NoWatcher","len","again","ground_of_pairs","good_pairs","by_states","STEPS","tuple","enumerate"]) (by decide +kernel) λcdv A outer s H E hr T=>?_
 exact(am (bR (cM (cn (av C20 hr T 0 rfl (af (aa T 1 rfl) ak) rfl (ah ar)))) (aq (l7 T 1 rfl m_NoWatcher q_NoWatcher (have T:=T.nox;qu))) bt)
   (am (aP T 3 rfl (bu T 2 rfl b_len (ae (aa T 0 rfl))))
   (am (aP T 4 rfl (av C15 hr T 3 rfl (af (av C24 hr T 4 rfl (af (aa T 0 rfl) (af (aa T 1 rfl) ak)) rfl (ah (ah ar))) (af (aa T 2 rfl) (af (av C25 hr T 5 rfl (af (aa T 0 rfl) (af (aa T 1 rfl) ak)) rfl (ah (ah ar))) ak))) rfl (ah (ah (ah ar)))))
   (am (aP T 5 rfl (av C26 hr T 6 rfl (af (ax T.hu (ae (aa T 4 rfl)) (ae aj) (λ_ _=>rfl)) (af (aa T 3 rfl) ak)) rfl (ah (ah ar))))
   (am (aP T 6 rfl (av C26 hr T 6 rfl (af (iO (bd (N:=["goal","count"]) (own:=1) (G:=[]) (fr:=[3]) T rfl rfl (oN:=["ground","watcher","who","count","told","pairs","moves","begun","winners"]) (on:=(ao jA).names) (by decide +kernel) (bq (ax T.hu (ae (aa T 4 rfl)) (ae aj) (λ_ _=>rfl))) (bi (by decide)) (λcl C s' H' fp E' T=>⟨(aI T 0 rfl),cs,(jR (n8 (ae (aa T 0 rfl)) (ae dn)) dn (bP (ae (aa T 0 rfl)) (ae (aa T 1 rfl))))⟩))) (af (aa T 3 rfl) ak)) rfl (ah (ah ar))))
   (am (aP T 7 rfl (ax T.hu (ae (ax T.hu (ae (aa T 1 rfl)) (ae aj) (λ_ _=>rfl))) (ae (bz T 7 rfl g_STEPS)) (λ_ _=>rfl)))
   (am (aP T 8 rfl (bw T 8 rfl b_tuple (cq (bd (N:=["number","place","pairs","begun"]) (own:=2) (G:=["MARK"]) (fr:=[5,7]) T rfl rfl (oN:=["ground","watcher","who","count","told","pairs","moves","begun","winners"]) (on:=(ao jA).names) (by decide +kernel) (ly T 9 rfl b_enumerate (aa T 0 rfl)) (jr (by decide) (by decide)) (λcl C s' H' fp E' T=>⟨(iC T 0 1 rfl rfl),cs,(ax T.hu (ae (ax T.hu (ae (aa T 2 rfl)) (ae (ax T.hu (ae (aa T 3 rfl)) (ae (ax T.hu (ae (aa T 1 rfl)) (ae (bz T 0 rfl g_MARK)) (λ_ _=>rfl))) (λ_ _=>rfl))) (λ_ _=>rfl))) (ae (aa T 0 rfl)) (λ_ _=>rfl))⟩)))))
   (aq (aA (du (af (aa T 8 rfl) (af (aa T 5 rfl) (af (aa T 6 rfl) ak)))))))))))))
theorem sg:aR ["_law_ground_here","_law_thing","_law_who","e"] ["_law_ground_here","_law_thing","_law_who"] (ao jk):=⟨rfl,rfl,rfl,by decide +kernel,rfl,by decide +kernel,by decide +kernel⟩
theorem rY(W:gq K "_law_refused" "_law_refused" jk f fd){f27:Addr}{d27:Qh}{cm:gh}(C27:gt P w K mg base k "watched" ["ground","watcher","who"] cm f27 d27)(b_isinstance:mg "isinstance" = none){c_GroundError:Addr}(m_GroundError:mg "GroundError" = some (.ref c_GroundError))(q_GroundError:PySem.W.excIn K c_GroundError xn xJ=true){c_NoWatcher:Addr}(m_NoWatcher:mg "NoWatcher" = some (.ref c_NoWatcher))(q_NoWatcher:PySem.W.excIn K c_NoWatcher xn xJ=true)(b_NoWatcher_NoWatcher:(Value.ref c_NoWatcher::kT K c_NoWatcher).contains (.ref c_NoWatcher)=true)(k_NoWatcher_GroundError:PySem.W.kitOne K (.ref c_NoWatcher) (.ref c_GroundError)=some true) :
  bc P w K mg base (cX P w mg) (k+1) f fd ["_law_ground_here","_law_thing","_law_who"] (dN (dS 4 (i8 cm)) 3):=by
 refine aH W sg (G:=["watched","NoWatcher","isinstance","GroundError"]) (by decide +kernel) λcdv A outer s H E hr T=>?_
 exact(am (An C27.ok hr T ⟨rfl,rfl⟩ 0 rfl C27.m C27.kp C27.b (have T:=T.nox;(af (aa T 0 rfl) (af (aa T 1 rfl) (af (aa T 2 rfl) ak)))) (ah (ah (ah ar))) (r9.cons m_NoWatcher (B1 T 1 rfl m_NoWatcher q_NoWatcher q_NoWatcher b_NoWatcher_NoWatcher 3 rfl rfl (f:=λp=>(uF 3 p)) (λp ob hc T=>((BB T List.mem_cons_self hc 3 rfl 2 rfl b_isinstance 3 rfl m_GroundError k_NoWatcher_GroundError)).un)) r9.nil))
   (aq (aA bF)))
theorem mU:aR ["_law_found","_law_size"] ["_law_found","_law_size"] (ao fH):=⟨rfl,rfl,rfl,by decide +kernel,rfl,by decide +kernel,by decide +kernel⟩
theorem mQ(W:gq K "_law_are_winners" "_law_are_winners" fH f fd)(b_all:mg "all" = none)(b_bool:mg "bool" = none)(b_int:mg "int" = none)(b_isinstance:mg "isinstance" = none)(b_len:mg "len" = none)(b_tuple:mg "tuple" = none) :
  bc P w K mg base (cX P w mg) (k+1) f fd ["_law_found","_law_size"] (dN (dS 2 (gv)) 2):=by
 refine aH W mU (G:=["isinstance","tuple","len","all"]) (by decide +kernel) λcdv A outer s H E hr T=>?_
 exact(am (bR (gi (hJ (cM (cn (eV T 0 rfl b_isinstance T 1 rfl b_tuple (ae (aa T 0 rfl))))) (gU (iI T.hu (ae (bu T 2 rfl b_len (ae (aa T 0 rfl)))) (ae (aa T 1 rfl)))))) (aq (aA bF)) bt)
   (aq (aA (kQ T 3 rfl b_all (cq (bd (N:=["_law_part"]) (own:=1) (G:=["isinstance","int","bool"]) (fr:=[]) T rfl rfl (oN:=["_law_found","_law_size"]) (on:=(ao fH).names) (by decide +kernel) (bq (aa T 0 rfl)) (bi (by decide)) (λcl C s' H' fp E' T=>⟨(aI T 0 rfl),cs,(iG (mY T 0 rfl b_isinstance T 1 rfl b_int (ae (aa T 0 rfl))) (iG (vE (ja T 0 rfl b_isinstance T 2 rfl b_bool (ae (aa T 0 rfl)))) (jo (Ea T.hu (ae (aa T 0 rfl)) (ae (du (af aj (af aj ak)))) (by with_unfolding_all rfl)))))⟩)))))))
theorem uh:aR ["_law_found","_law_ground_here","_law_watcher_here","_law_row","_law_state","_law_place_here","_law_winner","_law_move"] ["_law_found","_law_ground_here","_law_watcher_here"] (ao gF):=⟨rfl,rfl,rfl,by decide +kernel,rfl,by decide +kernel,by decide +kernel⟩
theorem tW(W:gq K "_law_shaped" "_law_shaped" gF f fd){f41:Addr}{d41:Qh}{br:gh}(C41:gt P w K mg base k "_law_are_winners" ["_law_found","_law_size"] br f41 d41)(b_all:mg "all" = none)(b_bool:mg "bool" = none)(b_isinstance:mg "isinstance" = none)(b_len:mg "len" = none)(b_range:mg "range" = none)(b_tuple:mg "tuple" = none) :
  bc P w K mg base (cX P w mg) (k+1) f fd ["_law_found","_law_ground_here","_law_watcher_here"] (dN (dS 8 (jN br)) 3):=by
 refine aH W uh (G:=["isinstance","tuple","len","_law_are_winners","all","range","bool"]) (by decide +kernel) λcdv A outer s H E hr T=>?_
 exact(am (bR (gi (hJ (cM (cn (eV T 0 rfl b_isinstance T 1 rfl b_tuple (ae (aa T 0 rfl))))) (hJ (iI T.hu (ae (bu T 2 rfl b_len (ae (aa T 0 rfl)))) (ae aj)) (gU (cM (cn (av C41 hr T 3 rfl (af (ax T.hu (ae (aa T 0 rfl)) (ae aj) (λ_ _=>rfl)) (af (bu T 2 rfl b_len (ae (aa T 1 rfl))) ak)) rfl (ah (ah ar))))))))) (aq (aA bF)) bt)
   (am (bX (have T:=T.nox;dc PassesOwn.never T.calm (bq (du (af (ax T.hu (ae (aa T 0 rfl)) (ae aj) (λ_ _=>rfl)) (af (ax T.hu (ae (aa T 0 rfl)) (ae aj) (λ_ _=>rfl)) ak)))) (aI T 3 rfl) (am (bR (gi (hJ (cM (cn (eV T 0 rfl b_isinstance T 1 rfl b_tuple (ae (aa T 3 rfl))))) (gU (iI T.hu (cq (bd (N:=["_law_part"]) (own:=1) (G:=["len"]) (fr:=[]) T rfl rfl (oN:=["_law_found","_law_ground_here","_law_watcher_here","_law_row","_law_state","_law_place_here","_law_winner","_law_move"]) (on:=(ao gF).names) (by decide +kernel) (bq (aa T 3 rfl)) (bi (by decide)) (λcl C s' H' fp E' T=>⟨(aI T 0 rfl),cs,(bu T 0 rfl b_len (ae (aa T 0 rfl)))⟩))) (cq (xi (eW (af (bu T 2 rfl b_len (ae (aa T 1 rfl))) ak)) (bu T 2 rfl b_len (ae (aa T 2 rfl))))))))) (aq (aA bF)) bt)
   (aq (bR (cM (cn (kQ T 4 rfl b_all (cq (bd (N:=["_law_part"]) (own:=1) (G:=["isinstance","tuple"]) (fr:=[]) T rfl rfl (oN:=["_law_found","_law_ground_here","_law_watcher_here","_law_row","_law_state","_law_place_here","_law_winner","_law_move"]) (on:=(ao gF).names) (by decide +kernel) (bq (aa T 3 rfl)) (bi (by decide)) (λcl C s' H' fp E' T=>⟨(aI T 0 rfl),cs,(eV T 0 rfl b_isinstance T 1 rfl b_tuple (ae (aa T 0 rfl)))⟩)))))) (aq (aA bF)) bt)))))
   (am (bX (have T:=T.nox;dc PassesOwn.never T.calm (cL T 5 rfl b_range (af (bu T 2 rfl b_len (ae (aa T 2 rfl))) ak) (ah ar)) (aI T 4 rfl) (aq (bX (have T:=T.nox;dc PassesOwn.never T.calm (cL T 5 rfl b_range (af (bu T 2 rfl b_len (ae (aa T 1 rfl))) ak) (ah ar)) (aI T 5 rfl) (am (aP T 6 rfl (ax T.hu (ae (ax T.hu (ae (ax T.hu (ae (aa T 0 rfl)) (ae aj) (λ_ _=>rfl))) (ae (aa T 4 rfl)) (λ_ _=>rfl))) (ae (aa T 5 rfl)) (λ_ _=>rfl)))
   (am (aP T 7 rfl (ax T.hu (ae (ax T.hu (ae (ax T.hu (ae (aa T 0 rfl)) (ae aj) (λ_ _=>rfl))) (ae (aa T 4 rfl)) (λ_ _=>rfl))) (ae (aa T 5 rfl)) (λ_ _=>rfl)))
   (am (bR (gi (hJ (cM (cn (av C41 hr T 3 rfl (af (du (af (aa T 6 rfl) ak)) (af aj ak)) rfl (ah (ah ar))))) (gU (iI T.hu (ae (BA (ae (aa T 7 rfl)) (ae dn))) (ae (yK T.hu (ae (ax T.hu (ae (ax T.hu (ae (aa T 1 rfl)) (ae (aa T 5 rfl)) (λ_ _=>rfl))) (ae aj) (λ_ _=>rfl))) (ae (aa T 6 rfl)))))))) (aq (aA bF)) bt)
   (aq (bR (gi (jp (jS (ae (aa T 7 rfl)) (ae dn)) (iJ (gi (hJ (cn (ja T 0 rfl b_isinstance T 6 rfl b_bool (ae (aa T 7 rfl)))) (gU (oU T.hu (ae (aa T 7 rfl)) (ae (ax T.hu (ae (ax T.hu (ae (aa T 1 rfl)) (ae (aa T 5 rfl)) (λ_ _=>rfl))) (ae aj) (λ_ _=>rfl))) (by with_unfolding_all rfl)))))))) (aq (aA bF)) bt))))))))))
   (aq (aA bF)))))
theorem si:aR ["_law_number","_law_count","_law_states","_law_k","_law_steps"] ["_law_number"] (ao gZ):=⟨rfl,rfl,rfl,by decide +kernel,rfl,by decide +kernel,by decide +kernel⟩
theorem rZ(W:gq K "_law_watcher" "_law_watcher" gZ f fd){f30:Addr}{d30:Qh}{aJ:gh}(C30:gt P w K mg base k "_law_drawn" ["_law_number","_law_k"] aJ f30 d30)(b_range:mg "range" = none)(b_tuple:mg "tuple" = none) :
  bc P w K mg base (cX P w mg) (k+1) f fd ["_law_number"] (dN (dS 5 (i9 aJ)) 1):=by
 refine aH W si (G:=["range","_law_drawn","tuple"]) (by decide +kernel) λcdv A outer s H E hr T=>?_
 exact(am (aP T 1 rfl (cu (ae aj) (ae (bP (ae (aa T 0 rfl)) (ae aj)))))
   (am (fM T 2 rfl (eW ak))
   (am (bX (have T:=T.nox;dc PassesOwn.never T.calm (cL T 0 rfl b_range (af (aa T 1 rfl) ak) (ah ar)) (aI T 3 rfl) (am (gx (eU 4 rfl (N:=["_law_mark","_law_number","_law_k","_law_count"]) (own:=1) (G:=["_law_drawn"]) (fr:=[0,3,1]) T rfl rfl (oN:=["_law_number","_law_count","_law_states","_law_k","_law_steps"]) (on:=(ao gZ).names) (by decide +kernel) (cL T 0 rfl b_range (af aj ak) (ah ar)) (bi (by decide)) (λcl C s' H' fp E' T=>⟨(aI T 0 rfl),cs,(bP (ae (av C30 hr T 0 rfl (af (aa T 1 rfl) (af (cu (ae (eF (ae aj) (ae (aa T 2 rfl)))) (ae (aa T 0 rfl))) ak)) rfl (ah (ah ar)))) (ae (aa T 3 rfl)))⟩)) (show 4<5 by decide))
   (aq (kP T 2 rfl (du (af (bP (ae (bP (ae (av C30 hr T 1 rfl (af (aa T 0 rfl) (af (cu (ae aj) (ae (aa T 3 rfl))) ak)) rfl (ah (ah ar)))) (ae aj))) (ae aj)) (af (bw T 2 rfl b_tuple (ae (aa T 4 rfl))) ak))))))))
   (aq (aA (bw T 2 rfl b_tuple (cT T 2 rfl)))))))
theorem xc:aR ["group","state"] ["group","state"] (ao kj):=⟨rfl,rfl,rfl,by decide +kernel,rfl,by decide +kernel,by decide +kernel⟩
theorem wX(W:gq K "steps_by" "steps_by" kj f fd){t_COUNT_OF_MARKS:Tok}(g_COUNT_OF_MARKS:mg "COUNT_OF_MARKS" = some (.int 13 t_COUNT_OF_MARKS))(b_range:mg "range" = none)(b_tuple:mg "tuple" = none) :
  bc P w K mg base (cX P w mg) (k+1) f fd ["group","state"] (dN (dS 2 (l6)) 2):=by
 refine aH W xc (G:=["tuple","range","COUNT_OF_MARKS"]) (by decide +kernel) λcdv A outer s H E hr T=>?_
 exact(aq (aA (bw T 0 rfl b_tuple (cq (bd (N:=["mark","group","state"]) (own:=1) (G:=[]) (fr:=[0,1]) T rfl rfl (oN:=["group","state"]) (on:=(ao kj).names) (by decide +kernel) (cL T 1 rfl b_range (af (bz T 2 rfl g_COUNT_OF_MARKS) ak) (ah ar)) (bi (by decide)) (λcl C s' H' fp E' T=>⟨(aI T 0 rfl),cs,(jR (nh T.hu (ae (aa T 0 rfl)) (ae (aa T 1 rfl)) (by with_unfolding_all rfl)) (cu (ae (aa T 2 rfl)) (ae aj)) (aa T 2 rfl))⟩))))))
theorem uk:aR ["groups","states"] ["groups"] (ao gH):=⟨rfl,rfl,rfl,by decide +kernel,rfl,by decide +kernel,by decide +kernel⟩
theorem tX(W:gq K "watcher_of" "watcher_of" gH f fd){f2:Addr}{d2:Qh}{cr:gh}(C2:gt P w K mg base k "are_some" ["thing","count"] cr f2 d2){f17:Addr}{d17:Qh}{aM:gh}(C17:gt P w K mg base k "is_tuple_of" ["thing","least","most"] aM f17 d17){f21:Addr}{d21:Qh}{eO:gh}(C21:gt P w K mg base k "steps_by" ["group","state"] eO f21 d21){t_COUNT_OF_MARKS:Tok}(g_COUNT_OF_MARKS:mg "COUNT_OF_MARKS" = some (.int 13 t_COUNT_OF_MARKS)){t_MOST_STATES:Tok}(g_MOST_STATES:mg "MOST_STATES" = some (.int 6 t_MOST_STATES)){t_STEPS:Tok}(g_STEPS:mg "STEPS" = some (.int 1 t_STEPS))(b_all:mg "all" = none)(b_enumerate:mg "enumerate" = none)(b_tuple:mg "tuple" = none){c_NoWatcher:Addr}(m_NoWatcher:mg "NoWatcher" = some (.ref c_NoWatcher))(q_NoWatcher:PySem.W.excIn K c_NoWatcher xn xJ=true) :
  bc P w K mg base (cX P w mg) (k+1) f fd ["groups"] (dN (dS 2 (jO cr aM eO)) 1):=by
 refine aH W uk (G:=["is_tuple_of","MOST_STATES","all","NoWatcher","enumerate","tuple","STEPS"]) (by decide +kernel) λcdv A outer s H E hr T=>?_
 exact(am (bR (gi (hJ (cM (cn (av C17 hr T 0 rfl (af (aa T 0 rfl) (af aj (af (iH (ae (bz T 1 rfl g_MOST_STATES)) (ae aj)) ak))) rfl (ah (ah (ah ar)))))) (gU (cM (cn (kQ T 2 rfl b_all (cq (bd (N:=["group"]) (own:=1) (G:=["are_some","COUNT_OF_MARKS"]) (fr:=[]) T rfl rfl (oN:=["groups","states"]) (on:=(ao gH).names) (by decide +kernel) (bq (aa T 0 rfl)) (bi (by decide)) (λcl C s' H' fp E' T=>⟨(aI T 0 rfl),cs,(av C2 hr T 0 rfl (af (aa T 0 rfl) (af (bz T 1 rfl g_COUNT_OF_MARKS) ak)) rfl (ah (ah ar)))⟩))))))))) (aq (l7 T 3 rfl m_NoWatcher q_NoWatcher (have T:=T.nox;qu))) bt)
   (am (gx (eU 1 rfl (N:=["state","group"]) (own:=2) (G:=["steps_by"]) (fr:=[]) T rfl rfl (oN:=["groups","states"]) (on:=(ao gH).names) (by decide +kernel) (ly T 4 rfl b_enumerate (aa T 0 rfl)) (jr (by decide) (by decide)) (λcl C s' H' fp E' T=>⟨(iC T 0 1 rfl rfl),cs,(du (af aj (af (av C21 hr T 0 rfl (af (aa T 1 rfl) (af (aa T 0 rfl) ak)) rfl (ah (ah ar))) ak)))⟩)) (show 1<2 by decide))
   (aq (aA (cu (ae (bw T 5 rfl b_tuple (ae (aa T 1 rfl)))) (ae (du (af (du (af aj (af (ax T.hu (ae (ax T.hu (ae (aa T 1 rfl)) (ae aj) (λ_ _=>rfl))) (ae (bz T 6 rfl g_STEPS)) (λ_ _=>rfl)) ak))) ak))))))))
theorem Im:aR ["_law_script","_law_ground_here","_law_watcher_here","_law_who","_law_found","_law_firsts","_law_one","_law_pairs","_law_state","_law_place_here","_law_bad","_law_allowed","_law_pair"] ["_law_script"] (ao lf):=⟨rfl,rfl,rfl,by decide +kernel,rfl,by decide +kernel,by decide +kernel⟩
theorem Ie(W:gq K "law" "law" lf f fd){f39:Addr}{d39:Qh}{dq:gh}(C39:gt P w K mg base k "_law_back" ["_law_ground_here","_law_watcher_here","_law_who","_law_moves","_law_pair","_law_allowed"] dq f39 d39){f33:Addr}{d33:Qh}{cS:gh}(C33:gt P w K mg base k "_law_ground" ["_law_script","_law_most"] cS f33 d33){f36:Addr}{d36:Qh}{dh:gh}(C36:gt P w K mg base k "_law_groups" ["_law_number"] dh f36 d36){f38:Addr}{d38:Qh}{cw:gh}(C38:gt P w K mg base k "_law_kept_in" ["_law_ground_here","_law_watcher_here","_law_who","_law_moves","_law_pairs"] cw f38 d38){f29:Addr}{d29:Qh}{aY:gh}(C29:gt P w K mg base k "_law_mixed" ["_law_script","_law_k"] aY f29 d29){f40:Addr}{d40:Qh}{cF:gh}(C40:gt P w K mg base k "_law_refused" ["_law_ground_here","_law_thing","_law_who"] cF f40 d40){f42:Addr}{d42:Qh}{cH:gh}(C42:gt P w K mg base k "_law_shaped" ["_law_found","_law_ground_here","_law_watcher_here"] cH f42 d42){f35:Addr}{d35:Qh}{cR:gh}(C35:gt P w K mg base k "_law_watcher" ["_law_number"] cR f35 d35){f27:Addr}{d27:Qh}{cm:gh}(C27:gt P w K mg base k "watched" ["ground","watcher","who"] cm f27 d27){f22:Addr}{d22:Qh}{di:gh}(C22:gt P w K mg base k "watcher_of" ["groups"] di f22 d22)(b_enumerate:mg "enumerate" = none)(b_int:mg "int" = none)(b_len:mg "len" = none)(b_list:mg "list" = none)(b_range:mg "range" = none) :
  bc P w K mg base (cX P w mg) (k+1) f fd ["_law_script"] (dN (dS 13 (yE dq cS dh cw aY cF cH cR cm di)) 1):=by
 refine aH W Im (G:=["_law_ground","_law_mixed","_law_watcher","watcher_of","_law_groups","len","_law_refused","watched","_law_shaped","enumerate","list","range","_law_kept_in","_law_back"]) (by decide +kernel) λcdv A outer s H E hr T=>?_
 exact(am (aP T 1 rfl (av C33 hr T 0 rfl (af (aa T 0 rfl) (af (ax T.hu (ae (du (af aj (af aj ak)))) (ae (bP (ae (av C29 hr T 1 rfl (af (aa T 0 rfl) (af aj ak)) rfl (ah (ah ar)))) (ae aj))) (λ_ _=>rfl)) ak)) rfl (ah (ah ar))))
   (am (aP T 2 rfl (av C35 hr T 2 rfl (af (av C29 hr T 1 rfl (af (aa T 0 rfl) (af aj ak)) rfl (ah (ah ar))) ak) rfl (ah ar)))
   (am (bR (dO T.hu (ae (bP (ae (av C29 hr T 1 rfl (af (aa T 0 rfl) (af aj ak)) rfl (ah (ah ar)))) (ae aj))) (ae aj)) (aq (aP T 2 rfl (av C22 hr T 3 rfl (af (av C36 hr T 4 rfl (af (fY (ae (av C29 hr T 1 rfl (af (aa T 0 rfl) (af aj ak)) rfl (ah (ah ar)))) (ae aj)) ak) rfl (ah ar)) ak) rfl (ah ar)))) bt)
   (am (bR (gi (jp (kR (ae (bu T 5 rfl b_len (ae (aa T 1 rfl)))) (ae aj)) (iJ (kR (ae (bu T 5 rfl b_len (ae (aa T 2 rfl)))) (ae aj))))) (aq (aP T 1 rfl (av C33 hr T 0 rfl (af (aa T 0 rfl) (af aj ak)) rfl (ah (ah ar))))) bt)
   (am (aP T 3 rfl (bP (ae (fY (ae (av C29 hr T 1 rfl (af (aa T 0 rfl) (af aj ak)) rfl (ah (ah ar)))) (ae aj))) (ae aj)))
   (am (bR (gi (jp (dO T.hu (ae (bP (ae (fY (ae (av C29 hr T 1 rfl (af (aa T 0 rfl) (af aj ak)) rfl (ah (ah ar)))) (ae aj))) (ae aj))) (ae aj)) (iJ (cM (cn (av C40 hr T 6 rfl (af (aa T 1 rfl) (af (ax T.hu (cq (eW (af (du ak) (af (eF (ae (aa T 2 rfl)) (ae aj)) (af dn ak))))) (ae (bP (ae (bu T 5 rfl b_len (ae (aa T 0 rfl)))) (ae aj))) (λ_ _=>rfl)) (af (aa T 3 rfl) ak))) rfl (ah (ah (ah ar))))))))) (aq (aA bF)) bt)
   (am (aP T 4 rfl (av C27 hr T 7 rfl (af (aa T 1 rfl) (af (aa T 2 rfl) (af (aa T 3 rfl) ak))) rfl (ah (ah (ah ar)))))
   (am (bR (cM (cn (av C42 hr T 8 rfl (af (aa T 4 rfl) (af (aa T 1 rfl) (af (aa T 2 rfl) ak))) rfl (ah (ah (ah ar)))))) (aq (aA bF)) bt)
   (am (gx (eU 5 rfl (N:=["_law_at","_law_place_here","_law_found","_law_watcher_here"]) (own:=2) (G:=[]) (fr:=[4,2]) T rfl rfl (oN:=["_law_script","_law_ground_here","_law_watcher_here","_law_who","_law_found","_law_firsts","_law_one","_law_pairs","_law_state","_law_place_here","_law_bad","_law_allowed","_law_pair"]) (on:=(ao lf).names) (by decide +kernel) (ly T 9 rfl b_enumerate (aa T 1 rfl)) (jr (by decide) (by decide)) (λcl C s' H' fp E' T=>⟨(iC T 0 1 rfl rfl),cs,(ax T.hu (ae (ax T.hu (ae (ax T.hu (ae (aa T 2 rfl)) (ae aj) (λ_ _=>rfl))) (ae (ax T.hu (ae (ax T.hu (ae (ax T.hu (ae (aa T 3 rfl)) (ae aj) (λ_ _=>rfl))) (ae aj) (λ_ _=>rfl))) (ae (ax T.hu (ae (aa T 1 rfl)) (ae aj) (λ_ _=>rfl))) (λ_ _=>rfl))) (λ_ _=>rfl))) (ae (aa T 0 rfl)) (λ_ _=>rfl))⟩)) (show 5<13 by decide))
   (am (bR (iI T.hu (cq (l9 T 10 rfl b_list (ae (ax T.hu (ae (aa T 4 rfl)) (ae aj) (λ_ _=>rfl))))) (ae (aa T 5 rfl))) (aq (aA bF)) bt)
   (am (bX (have T:=T.nox;dc PassesOwn.never T.calm (bq (du (af aj (af aj ak)))) (aI T 6 rfl) (am (fM T 7 rfl mZ)
   (am (bX (have T:=T.nox;dc PassesOwn.never T.calm (cL T 11 rfl b_range (af (bu T 5 rfl b_len (ae (aa T 2 rfl))) ak) (ah ar)) (aI T 8 rfl) (aq (bX (have T:=T.nox;dc PassesOwn.never T.calm (cL T 11 rfl b_range (af (bu T 5 rfl b_len (ae (aa T 1 rfl))) ak) (ah ar)) (aI T 9 rfl) (aq (bR (dO T.hu (ae (ax T.hu (ae (ax T.hu (ae (ax T.hu (ae (aa T 4 rfl)) (ae aj) (λ_ _=>rfl))) (ae (aa T 8 rfl)) (λ_ _=>rfl))) (ae (aa T 9 rfl)) (λ_ _=>rfl))) (ae (aa T 6 rfl))) (aq (sJ T 7 rfl (du (af (aa T 8 rfl) (af (aa T 9 rfl) ak))) bF)) bt)))))))
   (am (bR (cM (cn (qp 7 (av C38 hr T 12 rfl (af (aa T 1 rfl) (af (aa T 2 rfl) (af (aa T 6 rfl) (af (ax T.hu (ae (aa T 4 rfl)) (ae aj) (λ_ _=>rfl)) (af (aa T 7 rfl) ak))))) rfl (ah (ah (ah (ah (ah ar))))))))) (aq (aA bF)) bt)
   (am (yI 7 (gx (eU 10 rfl (N:=["_law_pair","_law_watcher_here","_law_one","_law_who"]) (own:=1) (G:=["int"]) (fr:=[2,6,3]) T rfl rfl (oN:=["_law_script","_law_ground_here","_law_watcher_here","_law_who","_law_found","_law_firsts","_law_one","_law_pairs","_law_state","_law_place_here","_law_bad","_law_allowed","_law_pair"]) (on:=(ao lf).names) (by decide +kernel) (qr (aa T 7 rfl)) (bi (by decide)) (λcl C s' H' fp E' T=>⟨(aI T 0 rfl),(ft (dO T.hu (ae (ax T.hu (ae (ax T.hu (ae (aa T 1 rfl)) (ae (ax T.hu (ae (aa T 0 rfl)) (ae aj) (λ_ _=>rfl))) (λ_ _=>rfl))) (ae aj) (λ_ _=>rfl))) (ae (sK T 0 rfl b_int (ae (yK T.hu (ae (aa T 2 rfl)) (ae (aa T 3 rfl)))))))),(aa T 0 rfl)⟩)) (show 10<13 by decide)))
   (am (aP T 11 rfl (iO (vG T 10 rfl b_list (cT T 7 rfl))))
   (am (bR (dO T.hu (ae (aa T 6 rfl)) (ae (aa T 3 rfl))) (aq (aP T 11 rfl (aa T 10 rfl))) bt)
   (aq (bX (have T:=T.nox;dc PassesOwn.never T.calm (bq (aa T 10 rfl)) (aI T 12 rfl) (aq (bR (cn (av C39 hr T 13 rfl (af (aa T 1 rfl) (af (aa T 2 rfl) (af (aa T 6 rfl) (af (ax T.hu (ae (aa T 4 rfl)) (ae aj) (λ_ _=>rfl)) (af (aa T 12 rfl) (af (aa T 11 rfl) ak)))))) rfl (ah (ah (ah (ah (ah (ah ar)))))))) (aq (aA bF)) bt)))))))))))))
   (aq (aA bF)))))))))))))
end
def F0:List Qa->R Qa:=λds=>open Classical in if ∃ns:List Int,ns.length<=63/\ds=[.list (ns.map .int)]then .ok (.bool true)else .no
theorem yD:Ck F0:=λns h=>if_pos ⟨ns,h,rfl⟩
theorem Ii{c_Share:Addr}(vs:List V)(H:Hp)(Q:VK)(E:XK)(h:dN F0 1 vs H Q E):dN (Bp c_Share) 1 vs H Q E:=by
 obtain⟨ds,r,hl,q⟩:=h;refine⟨ds,r,hl,?_⟩;by_cases hd:∃ns:List Int,ns.length<=63/\ds=[.list (ns.map .int)]
 ·obtain⟨ns,h1,rfl⟩:=hd;rw[yD ns h1]at q;rw[Cn c_Share ns h1];exact q
 ·unfold F0 at q;rw[if_neg hd]at q;exact q.elim
theorem Gy{l:PySem.W.OpenLaw}{w:World}{K:PySem.W.Frag}{h:Heap}{mg:Str->Option Value}{fa:Addr}(X:K.In h)(G:h.Ns mainGlobals mg)(hfa:mg "law" = some (.ref fa))
  {f42:Addr} {od42 an42:Option Addr} {sl42:Array (Option Value)} {oc42 kV42 dc42 pm42 cd42 ct42:Value}
  {f0:Addr} {d0:Qh} (q0:cC K "_law_pair_ways" fx f0 d0)
  {f1:Addr} {d1:Qh} (q1:cC K "_law_back" mH f1 d1)
  {f2:Addr} {d2:Qh} (q2:cC K "_law_cell_at" ji f2 d2)
  {f3:Addr} {d3:Qh} (q3:cC K "_law_mixed" ln f3 d3)
  {f4:Addr} {d4:Qh} (q4:cC K "_law_drawn" lg f4 d4)
  {f5:Addr} {d5:Qh} (q5:cC K "_law_goals" lh f5 d5)
  {f6:Addr} {d6:Qh} (q6:cC K "_law_place" lp f6 d6)
  {f7:Addr} {d7:Qh} (q7:cC K "_law_ground" iw f7 d7)
  {f8:Addr} {d8:Qh} (q8:cC K "_law_groups" iy f8 d8)
  {f9:Addr} {d9:Qh} (q9:cC K "_law_kept_in" gY f9 d9)
  {f10:Addr} {d10:Qh} (q10:cC K "all_places" kg f10 d10)
  {f11:Addr} {d11:Qh} (q11:cC K "is_whole" mG f11 d11)
  {f12:Addr} {d12:Qh} (q12:cC K "is_between" kh f12 d12)
  {f13:Addr} {d13:Qh} (q13:cC K "are_some" mE f13 d13)
  {f14:Addr} {d14:Qh} (q14:cC K "common" nS f14 d14)
  {f15:Addr} {d15:Qh} (q15:cC K "moves_of_both" gj f15 d15)
  {f16:Addr} {d16:Qh} (q16:cC K "ranked" nT f16 d16)
  {f17:Addr} {d17:Qh} (q17:cC K "pulling_moves" fy f17 d17)
  {f18:Addr} {d18:Qh} (q18:cC K "is_forced" iW f18 d18)
  {f19:Addr} {d19:Qh} (q19:cC K "ranks_to" gm f19 d19)
  {f20:Addr} {d20:Qh} (q20:cC K "no_moves" ki f20 d20)
  {f21:Addr} {d21:Qh} (q21:cC K "staying_moves" ie f21 d21)
  {f22:Addr} {d22:Qh} (q22:cC K "without" lL f22 d22)
  {f23:Addr} {d23:Qh} (q23:cC K "share_by_coming" gG f23 d23)
  {f24:Addr} {d24:Qh} (q24:cC K "winners_and_moves" eT f24 d24)
  {f25:Addr} {d25:Qh} (q25:cC K "again" u3 f25 d25)
  {f26:Addr} {d26:Qh} (q26:cC K "by_states" iV f26 d26)
  {f27:Addr} {d27:Qh} (q27:cC K "good_pairs" ir f27 d27)
  {f28:Addr} {d28:Qh} (q28:cC K "with_goals" kl f28 d28)
  {f29:Addr} {d29:Qh} (q29:cC K "pair_of" lK f29 d29)
  {f30:Addr} {d30:Qh} (q30:cC K "ground_of_pairs" fG f30 d30)
  {f31:Addr} {d31:Qh} (q31:cC K "is_tuple_of" jh f31 d31)
  {f32:Addr} {d32:Qh} (q32:cC K "are_steps" iU f32 d32)
  {f33:Addr} {d33:Qh} (q33:cC K "is_state" mF f33 d33)
  {f34:Addr} {d34:Qh} (q34:cC K "is_watcher" iu f34 d34)
  {f35:Addr} {d35:Qh} (q35:cC K "watched" jA f35 d35)
  {f36:Addr} {d36:Qh} (q36:cC K "_law_refused" jk f36 d36)
  {f37:Addr} {d37:Qh} (q37:cC K "_law_are_winners" fH f37 d37)
  {f38:Addr} {d38:Qh} (q38:cC K "_law_shaped" gF f38 d38)
  {f39:Addr} {d39:Qh} (q39:cC K "_law_watcher" gZ f39 d39)
  {f40:Addr} {d40:Qh} (q40:cC K "steps_by" kj f40 d40)
  {f41:Addr} {d41:Qh} (q41:cC K "watcher_of" gH f41 d41)
  (a42:PySem.W.nsIn K mainGlobals "law" = some (some (.ref f42))) (l42:K.lookup f42=some ⟨oc42,od42,.func (PySem.W.fnOf "law" "law" (eI lf) (cZ lf) (ao lf) .none kV42 dc42 pm42 an42 cd42 ct42),sl42⟩) (c42:PySem.W.codeIn K cd42 "law" = true) (k42:PySem.W.keepIn K (.ref f42)=true)
  {t0:Tok} (qg0:PySem.W.nsIn K mainGlobals "COUNT_OF_MARKS" = some (some (.int 13 t0)))
  {t1:Tok} (qg1:PySem.W.nsIn K mainGlobals "GAIN" = some (some (.int 2 t1)))
  {t2:Tok} (qg2:PySem.W.nsIn K mainGlobals "GOALS" = some (some (.int 3 t2)))
  {t3:Tok} (qg3:PySem.W.nsIn K mainGlobals "GOOD" = some (some (.int 0 t3)))
  {t4:Tok} (qg4:PySem.W.nsIn K mainGlobals "MARK" = some (some (.int 1 t4)))
  {t5:Tok} (qg5:PySem.W.nsIn K mainGlobals "MOST_STATES" = some (some (.int 6 t5)))
  {t6:Tok} (qg6:PySem.W.nsIn K mainGlobals "PARTS_OF_STATE" = some (some (.int 2 t6)))
  {t7:Tok} (qg7:PySem.W.nsIn K mainGlobals "STEPS" = some (some (.int 1 t7)))
  {t8:Tok} (qg8:PySem.W.nsIn K mainGlobals "WHO" = some (some (.int 0 t8)))
  (qz0:PySem.W.nsIn K mainGlobals "all" = some none)
  (qz1:PySem.W.nsIn K mainGlobals "bool" = some none)
  (qz2:PySem.W.nsIn K mainGlobals "enumerate" = some none)
  (qz3:PySem.W.nsIn K mainGlobals "int" = some none)
  (qz4:PySem.W.nsIn K mainGlobals "isinstance" = some none)
  (qz5:PySem.W.nsIn K mainGlobals "len" = some none)
  (qz6:PySem.W.nsIn K mainGlobals "list" = some none)
  (qz7:PySem.W.nsIn K mainGlobals "max" = some none)
  (qz8:PySem.W.nsIn K mainGlobals "min" = some none)
  (qz9:PySem.W.nsIn K mainGlobals "range" = some none)
  (qz10:PySem.W.nsIn K mainGlobals "sorted" = some none)
  (qz11:PySem.W.nsIn K mainGlobals "tuple" = some none)
  (qz12:PySem.W.nsIn K mainGlobals "zip" = some none)
  {cc0:Addr} (qm0:PySem.W.nsIn K mainGlobals "GroundError" = some (some (.ref cc0))) (qq0:PySem.W.excIn K cc0 xn xJ=true)
  {cc1:Addr} (qm1:PySem.W.nsIn K mainGlobals "NoPart" = some (some (.ref cc1))) (qq1:PySem.W.excIn K cc1 xn xJ=true)
  {cc2:Addr} (qm2:PySem.W.nsIn K mainGlobals "NoWatcher" = some (some (.ref cc2))) (qq2:PySem.W.excIn K cc2 xn xJ=true)
  (qs0:(Value.ref cc2::kT K cc2).contains (.ref cc2)=true)
  (qk0:PySem.W.kitOne K (.ref cc2) (.ref cc0)=some true)
  {c_Share fi_Share:Addr} {od_Share an_Share:Option Addr} {sl_Share:Array (Option Value)} {oc_Share kV_Share dc_Share pm_Share cd_Share ct_Share:Value}
  (qa_Share:PySem.W.nsIn K mainGlobals "Share" = some (some (.ref c_Share)))
  (qi_Share:PySem.W.findIn K (.ref c_Share) "__init__" = some (some (.ref fi_Share))) (qf_Share:PySem.W.isFn K (.ref fi_Share)=true)
  (ql_Share:K.lookup fi_Share=some ⟨oc_Share,od_Share,.func (PySem.W.fnOf "__init__" "Share.__init__" (eI lJ) (cZ lJ) (ao lJ) .none kV_Share dc_Share pm_Share an_Share cd_Share ct_Share),sl_Share⟩)
  (qc_Share:PySem.W.codeIn K cd_Share "Share.__init__" = true) (qk_Share:PySem.W.keepIn K (.ref fi_Share)=true)
  (qpg_Share:PySem.W.plainGet K c_Share Str.empty=true) (qhd_Share:PySem.W.hasDictIn K c_Share=true) (qpo_Share:PySem.W.plainOver K c_Share=true) (qsa_Share:PySem.W.findIn K (.ref c_Share) "__setattr__" = some (some (.builtin "object.__setattr__"))) (qmk_Share:PySem.W.makesIn K c_Share=true) (qkc_Share:PySem.W.keepIn K (.ref c_Share)=true)
  (qn_Share_who:PySem.W.findIn K (.ref c_Share) "who" = some none)
  (qn_Share_places:PySem.W.findIn K (.ref c_Share) "places" = some none)
  (qn_Share_moves:PySem.W.findIn K (.ref c_Share) "moves" = some none)
  (nl:qb K=true) :
  qb K=true/\∃fd:Qh,(∀(s:Shared) (v:Value),BindsTo s fd ⟨[v],[]⟩ [("_law_script",v)])/\∀base:Heap,K.In base->base.Ns mainGlobals mg->bc l.prog w K mg base (cX l.prog w mg) 8 fa fd ["_law_script"] (dN F0 1):=by
 have e:=hfa.symm.trans (PySem.W.mg_of X G a42);cases e;have b0:bx K d0 ["_law_ground_here","_law_watcher_here","_law_who","_law_moves","_law_pair"] []:=LA q0.fn λ_ _ _ _ _ _ _ _ _ _ _=>rfl
 have m0:=PySem.W.mg_of X G q0.ns;have b1:bx K d1 ["_law_ground_here","_law_watcher_here","_law_who","_law_moves","_law_pair","_law_allowed"] []:=LM q1.fn λ_ _ _ _ _ _ _ _ _ _ _ _=>rfl
 have m1:=PySem.W.mg_of X G q1.ns;have b2:bx K d2 ["_law_script","_law_k"] []:=va q2.fn λ_ _ _ _ _ _ _ _=>rfl
 have m2:=PySem.W.mg_of X G q2.ns;have b3:bx K d3 ["_law_script","_law_k"] []:=va q3.fn λ_ _ _ _ _ _ _ _=>rfl
 have m3:=PySem.W.mg_of X G q3.ns;have b4:bx K d4 ["_law_number","_law_k"] []:=va q4.fn λ_ _ _ _ _ _ _ _=>rfl
 have m4:=PySem.W.mg_of X G q4.ns;have b5:bx K d5 ["_law_number","_law_count"] []:=va q5.fn λ_ _ _ _ _ _ _ _=>rfl
 have m5:=PySem.W.mg_of X G q5.ns;have b6:bx K d6 ["_law_number","_law_count","_law_high"] []:=DP q6.fn λ_ _ _ _ _ _ _ _ _=>rfl
 have m6:=PySem.W.mg_of X G q6.ns;have b7:bx K d7 ["_law_script","_law_most"] []:=va q7.fn λ_ _ _ _ _ _ _ _=>rfl
 have m7:=PySem.W.mg_of X G q7.ns;have b8:bx K d8 ["_law_number"] []:=FQ q8.fn λ_ _ _ _ _ _ _=>rfl
 have m8:=PySem.W.mg_of X G q8.ns;have b9:bx K d9 ["_law_ground_here","_law_watcher_here","_law_who","_law_moves","_law_pairs"] []:=LA q9.fn λ_ _ _ _ _ _ _ _ _ _ _=>rfl
 have m9:=PySem.W.mg_of X G q9.ns;have b10:bx K d10 ["ground"] []:=FQ q10.fn λ_ _ _ _ _ _ _=>rfl
 have m10:=PySem.W.mg_of X G q10.ns;have b11:bx K d11 ["thing"] []:=FQ q11.fn λ_ _ _ _ _ _ _=>rfl
 have m11:=PySem.W.mg_of X G q11.ns;have b12:bx K d12 ["thing","low","high"] []:=DP q12.fn λ_ _ _ _ _ _ _ _ _=>rfl
 have m12:=PySem.W.mg_of X G q12.ns;have b13:bx K d13 ["thing","count"] []:=va q13.fn λ_ _ _ _ _ _ _ _=>rfl
 have m13:=PySem.W.mg_of X G q13.ns;have b14:bx K d14 ["some","others"] []:=va q14.fn λ_ _ _ _ _ _ _ _=>rfl
 have m14:=PySem.W.mg_of X G q14.ns;have b15:bx K d15 ["moves","others"] []:=va q15.fn λ_ _ _ _ _ _ _ _=>rfl
 have m15:=PySem.W.mg_of X G q15.ns;have b16:bx K d16 ["ranks"] []:=FQ q16.fn λ_ _ _ _ _ _ _=>rfl
 have m16:=PySem.W.mg_of X G q16.ns;have b17:bx K d17 ["ground","who","ranks"] []:=DP q17.fn λ_ _ _ _ _ _ _ _ _=>rfl
 have m17:=PySem.W.mg_of X G q17.ns;have b18:bx K d18 ["place","ways","who","ranks"] []:=KC q18.fn λ_ _ _ _ _ _ _ _ _ _=>rfl
 have m18:=PySem.W.mg_of X G q18.ns;have b19:bx K d19 ["ground","inside","who","goals"] []:=KC q19.fn λ_ _ _ _ _ _ _ _ _ _=>rfl
 have m19:=PySem.W.mg_of X G q19.ns;have b20:bx K d20 ["ground"] []:=FQ q20.fn λ_ _ _ _ _ _ _=>rfl
 have m20:=PySem.W.mg_of X G q20.ns;have b21:bx K d21 ["ground","who","part"] []:=DP q21.fn λ_ _ _ _ _ _ _ _ _=>rfl
 have m21:=PySem.W.mg_of X G q21.ns;have b22:bx K d22 ["some","others"] []:=va q22.fn λ_ _ _ _ _ _ _ _=>rfl
 have m22:=PySem.W.mg_of X G q22.ns;have b23:bx K d23 ["ground","inside","who","goals"] []:=KC q23.fn λ_ _ _ _ _ _ _ _ _ _=>rfl
 have m23:=PySem.W.mg_of X G q23.ns;have b24:bx K d24 ["ground","shares"] []:=va q24.fn λ_ _ _ _ _ _ _ _=>rfl
 have m24:=PySem.W.mg_of X G q24.ns;have b25:bx K d25 ["ground","who","goals"] []:=DP q25.fn λ_ _ _ _ _ _ _ _ _=>rfl
 have m25:=PySem.W.mg_of X G q25.ns;have b26:bx K d26 ["told","count"] []:=va q26.fn λ_ _ _ _ _ _ _ _=>rfl
 have m26:=PySem.W.mg_of X G q26.ns;have b27:bx K d27 ["ground","watcher"] []:=va q27.fn λ_ _ _ _ _ _ _ _=>rfl
 have m27:=PySem.W.mg_of X G q27.ns;have b28:bx K d28 ["place","goals"] []:=va q28.fn λ_ _ _ _ _ _ _ _=>rfl
 have m28:=PySem.W.mg_of X G q28.ns;have b29:bx K d29 ["ground","state","place"] []:=DP q29.fn λ_ _ _ _ _ _ _ _ _=>rfl
 have m29:=PySem.W.mg_of X G q29.ns;have b30:bx K d30 ["ground","watcher"] []:=va q30.fn λ_ _ _ _ _ _ _ _=>rfl
 have m30:=PySem.W.mg_of X G q30.ns;have b31:bx K d31 ["thing","least","most"] []:=DP q31.fn λ_ _ _ _ _ _ _ _ _=>rfl
 have m31:=PySem.W.mg_of X G q31.ns;have b32:bx K d32 ["thing","count"] []:=va q32.fn λ_ _ _ _ _ _ _ _=>rfl
 have m32:=PySem.W.mg_of X G q32.ns;have b33:bx K d33 ["thing","count"] []:=va q33.fn λ_ _ _ _ _ _ _ _=>rfl
 have m33:=PySem.W.mg_of X G q33.ns;have b34:bx K d34 ["thing"] []:=FQ q34.fn λ_ _ _ _ _ _ _=>rfl
 have m34:=PySem.W.mg_of X G q34.ns;have b35:bx K d35 ["ground","watcher","who"] []:=DP q35.fn λ_ _ _ _ _ _ _ _ _=>rfl
 have m35:=PySem.W.mg_of X G q35.ns;have b36:bx K d36 ["_law_ground_here","_law_thing","_law_who"] []:=DP q36.fn λ_ _ _ _ _ _ _ _ _=>rfl
 have m36:=PySem.W.mg_of X G q36.ns;have b37:bx K d37 ["_law_found","_law_size"] []:=va q37.fn λ_ _ _ _ _ _ _ _=>rfl
 have m37:=PySem.W.mg_of X G q37.ns;have b38:bx K d38 ["_law_found","_law_ground_here","_law_watcher_here"] []:=DP q38.fn λ_ _ _ _ _ _ _ _ _=>rfl
 have m38:=PySem.W.mg_of X G q38.ns;have b39:bx K d39 ["_law_number"] []:=FQ q39.fn λ_ _ _ _ _ _ _=>rfl
 have m39:=PySem.W.mg_of X G q39.ns;have b40:bx K d40 ["group","state"] []:=va q40.fn λ_ _ _ _ _ _ _ _=>rfl
 have m40:=PySem.W.mg_of X G q40.ns;have b41:bx K d41 ["groups"] []:=FQ q41.fn λ_ _ _ _ _ _ _=>rfl
 have m41:=PySem.W.mg_of X G q41.ns;have F42:=xH (st:=lf) l42 c42 k42;have FF_Share:=xH (st:=lJ) ql_Share qc_Share qk_Share;have bb_Share:=FF_Share.binds (ps:=["self","who","places","moves"]) λ_ _ _ _ _ _ us hl=>by
  obtain⟨z0,r0,rfl,q0⟩:=D2.gN hl;obtain⟨z1,r1,rfl,q1⟩:=D2.gN q0;obtain⟨z2,r2,rfl,q2⟩:=D2.gN q1;obtain⟨z3,r3,rfl,q3⟩:=D2.gN q2;obtain rfl:=List.eq_nil_of_length_eq_zero q3;exact rfl
 have mm_Share:=PySem.W.mg_of X G qa_Share;have ccl_Share:Bk K c_Share:=⟨qpg_Share,qhd_Share,qpo_Share,qsa_Share⟩
 have h0:=PySem.W.mg_of X G qg0;have h1:=PySem.W.mg_of X G qg1;have h2:=PySem.W.mg_of X G qg2;have h3:=PySem.W.mg_of X G qg3;have h4:=PySem.W.mg_of X G qg4;have h5:=PySem.W.mg_of X G qg5;have h6:=PySem.W.mg_of X G qg6;have h7:=PySem.W.mg_of X G qg7;have h8:=PySem.W.mg_of X G qg8;have n0:=PySem.W.mg_of X G qm0;have n1:=PySem.W.mg_of X G qm1;have n2:=PySem.W.mg_of X G qm2;have y0:=PySem.W.mg_none_of X G qz0;have y1:=PySem.W.mg_none_of X G qz1;have y2:=PySem.W.mg_none_of X G qz2;have y3:=PySem.W.mg_none_of X G qz3;have y4:=PySem.W.mg_none_of X G qz4;have y5:=PySem.W.mg_none_of X G qz5;have y6:=PySem.W.mg_none_of X G qz6;have y7:=PySem.W.mg_none_of X G qz7;have y8:=PySem.W.mg_none_of X G qz8;have y9:=PySem.W.mg_none_of X G qz9;have y10:=PySem.W.mg_none_of X G qz10;have y11:=PySem.W.mg_none_of X G qz11;have y12:=PySem.W.mg_none_of X G qz12;refine⟨nl,PySem.W.fnOf "law" "law" (eI lf) (cZ lf) (ao lf) .none kV42 dc42 pm42 an42 cd42 ct42,λs v=>.of_eq rfl,λbase _ _=>?_⟩;have QI_Share:bc l.prog w K mg base (cX l.prog w mg) 1 fi_Share _ ["self","who","places","moves"] (Ko c_Share ["who","places","moves"]):=DV FF_Share ccl_Share qn_Share_who qn_Share_places qn_Share_moves;have Q0:bc l.prog w K mg base (cX l.prog w mg) 1 f0 _ ["_law_ground_here","_law_watcher_here","_law_who","_law_moves","_law_pair"] (Kq aQ 5):=pD (k:=0) (W:=q0.fn);have Q1:bc l.prog w K mg base (cX l.prog w mg) 2 f1 _ ["_law_ground_here","_law_watcher_here","_law_who","_law_moves","_law_pair","_law_allowed"] (dN dq 6):=wU (k:=1) (W:=q1.fn) (C37:=⟨Q0.mono (by decide),m0,q0.fn.kp,b0⟩);have Q2:bc l.prog w K mg base (cX l.prog w mg) 1 f2 _ ["_law_script","_law_k"] (dN dg 2):=rW (k:=0) (W:=q2.fn) (b_len:=y5);have Q3:bc l.prog w K mg base (cX l.prog w mg) 2 f3 _ ["_law_script","_law_k"] (dN aY 2):=vi (k:=1) (W:=q3.fn) (C28:=⟨Q2.mono (by decide),m2,q2.fn.kp,b2⟩);have Q4:bc l.prog w K mg base (cX l.prog w mg) 1 f4 _ ["_law_number","_law_k"] (dN aJ 2):=vg (k:=0) (W:=q4.fn);have Q5:bc l.prog w K mg base (cX l.prog w mg) 2 f5 _ ["_law_number","_law_count"] (dN eE 2):=vh (k:=1) (W:=q5.fn) (C30:=⟨Q4.mono (by decide),m4,q4.fn.kp,b4⟩) (b_int:=y3) (b_range:=y9) (b_sorted:=y10) (b_tuple:=y11);have Q6:bc l.prog w K mg base (cX l.prog w mg) 3 f6 _ ["_law_number","_law_count","_law_high"] (dN dI 3):=vj (k:=2) (W:=q6.fn) (C30:=⟨Q4.mono (by decide),m4,q4.fn.kp,b4⟩) (C31:=⟨Q5.mono (by decide),m5,q5.fn.kp,b5⟩);have Q7:bc l.prog w K mg base (cX l.prog w mg) 4 f7 _ ["_law_script","_law_most"] (dN cS 2):=tU (k:=3) (W:=q7.fn) (C29:=⟨Q3.mono (by decide),m3,q3.fn.kp,b3⟩) (C32:=⟨Q6.mono (by decide),m6,q6.fn.kp,b6⟩) (b_len:=y5) (b_max:=y7) (b_min:=y8) (b_range:=y9) (b_tuple:=y11);have Q8:bc l.prog w K mg base (cX l.prog w mg) 2 f8 _ ["_law_number"] (dN dh 1):=tV (k:=1) (W:=q8.fn) (C30:=⟨Q4.mono (by decide),m4,q4.fn.kp,b4⟩) (b_range:=y9) (b_tuple:=y11);have Q9:bc l.prog w K mg base (cX l.prog w mg) 2 f9 _ ["_law_ground_here","_law_watcher_here","_law_who","_law_moves","_law_pairs"] (dN cw 5):=rX (k:=1) (W:=q9.fn) (C37:=⟨Q0.mono (by decide),m0,q0.fn.kp,b0⟩);have Q10:bc l.prog w K mg base (cX l.prog w mg) 1 f10 _ ["ground"] (dN dB 1):=tP (k:=0) (W:=q10.fn) (b_len:=y5) (b_range:=y9) (b_tuple:=y11);have Q11:bc l.prog w K mg base (cX l.prog w mg) 1 f11 _ ["thing"] (dN fJ 1):=wT (k:=0) (W:=q11.fn) (b_bool:=y1) (b_int:=y3) (b_isinstance:=y4);have Q12:bc l.prog w K mg base (cX l.prog w mg) 2 f12 _ ["thing","low","high"] (dN aW 3):=tS (k:=1) (W:=q12.fn) (C0:=⟨Q11.mono (by decide),m11,q11.fn.kp,b11⟩);have Q13:bc l.prog w K mg base (cX l.prog w mg) 3 f13 _ ["thing","count"] (dN cr 2):=wR (k:=2) (W:=q13.fn) (C1:=⟨Q12.mono (by decide),m12,q12.fn.kp,b12⟩) (b_isinstance:=y4) (b_tuple:=y11);have Q14:bc l.prog w K mg base (cX l.prog w mg) 1 f14 _ ["some","others"] (dN ce 2):=Bn (k:=0) (W:=q14.fn) (b_tuple:=y11);have Q15:bc l.prog w K mg base (cX l.prog w mg) 1 f15 _ ["moves","others"] (dN aZ 2):=pE (k:=0) (W:=q15.fn) (b_tuple:=y11) (b_zip:=y12);have Q16:bc l.prog w K mg base (cX l.prog w mg) 1 f16 _ ["ranks"] (dN dt 1):=Bo (k:=0) (W:=q16.fn) (b_enumerate:=y2) (b_tuple:=y11);have Q17:bc l.prog w K mg base (cX l.prog w mg) 2 f17 _ ["ground","who","ranks"] (dN cy 3):=pF (k:=1) (W:=q17.fn) (C12:=⟨Q16.mono (by decide),m16,q16.fn.kp,b16⟩) (g_GOALS:=h2) (g_WHO:=h8) (b_tuple:=y11);have Q18:bc l.prog w K mg base (cX l.prog w mg) 1 f18 _ ["place","ways","who","ranks"] (dN cK 4):=vf (k:=0) (W:=q18.fn) (g_WHO:=h8) (b_len:=y5);have Q19:bc l.prog w K mg base (cX l.prog w mg) 2 f19 _ ["ground","inside","who","goals"] (dN eN 4):=wW (k:=1) (W:=q19.fn) (C4:=⟨Q14.mono (by decide),m14,q14.fn.kp,b14⟩) (C10:=⟨Q18.mono (by decide),m18,q18.fn.kp,b18⟩) (g_GOALS:=h2) (b_len:=y5) (b_list:=y6) (b_range:=y9) (b_tuple:=y11);have Q20:bc l.prog w K mg base (cX l.prog w mg) 1 f20 _ ["ground"] (dN cJ 1):=wV (k:=0) (W:=q20.fn) (b_tuple:=y11);have Q21:bc l.prog w K mg base (cX l.prog w mg) 2 f21 _ ["ground","who","part"] (dN cz 3):=pG (k:=1) (W:=q21.fn) (C4:=⟨Q14.mono (by decide),m14,q14.fn.kp,b14⟩) (C6:=⟨Q20.mono (by decide),m20,q20.fn.kp,b20⟩) (g_GOALS:=h2) (g_WHO:=h8) (b_list:=y6) (b_tuple:=y11);have Q22:bc l.prog w K mg base (cX l.prog w mg) 1 f22 _ ["some","others"] (dN cV 2):=Af (k:=0) (W:=q22.fn) (b_tuple:=y11);have Q23:bc l.prog w K mg base (cX l.prog w mg) 3 f23 _ ["ground","inside","who","goals"] (dN (bN c_Share) 4):=mR (k:=2) (W:=q23.fn) (C4:=⟨Q14.mono (by decide),m14,q14.fn.kp,b14⟩) (C7:=⟨Q15.mono (by decide),m15,q15.fn.kp,b15⟩) (C13:=⟨Q17.mono (by decide),m17,q17.fn.kp,b17⟩) (C12:=⟨Q16.mono (by decide),m16,q16.fn.kp,b16⟩) (C11:=⟨Q19.mono (by decide),m19,q19.fn.kp,b19⟩) (C8:=⟨Q21.mono (by decide),m21,q21.fn.kp,b21⟩) (C5:=⟨Q22.mono (by decide),m22,q22.fn.kp,b22⟩) (b_len:=y5) (cl_Share:=ccl_Share) (n_Share_moves:=qn_Share_moves) (n_Share_places:=qn_Share_places) (n_Share_who:=qn_Share_who) (m_Share:=mm_Share) (MK_Share:=⟨qmk_Share,qi_Share,qf_Share,qkc_Share⟩) (I_Share:=QI_Share) (B_Share:=bb_Share) (hk:=by decide);have Q24:bc l.prog w K mg base (cX l.prog w mg) 2 f24 _ ["ground","shares"] (dN (bK c_Share) 2):=lP (k:=1) (W:=q24.fn) (C7:=⟨Q15.mono (by decide),m15,q15.fn.kp,b15⟩) (C6:=⟨Q20.mono (by decide),m20,q20.fn.kp,b20⟩) (b_tuple:=y11) (cl_Share:=ccl_Share) (n_Share_moves:=qn_Share_moves) (n_Share_places:=qn_Share_places) (n_Share_who:=qn_Share_who);have Q25:bc l.prog w K mg base (cX l.prog w mg) 4 f25 _ ["ground","who","goals"] (dN (im c_Share) 3):=DW (k:=3) (W:=q25.fn) (C3:=⟨Q10.mono (by decide),m10,q10.fn.kp,b10⟩) (C2:=⟨Q13.mono (by decide),m13,q13.fn.kp,b13⟩) (C14:=⟨Q23.mono (by decide),m23,q23.fn.kp,b23⟩) (C9:=⟨Q24.mono (by decide),m24,q24.fn.kp,b24⟩) (C5:=⟨Q22.mono (by decide),m22,q22.fn.kp,b22⟩) (b_len:=y5) (m_NoPart:=n1) (q_NoPart:=qq1) (cl_Share:=ccl_Share) (n_Share_places:=qn_Share_places);have Q26:bc l.prog w K mg base (cX l.prog w mg) 1 f26 _ ["told","count"] (dN dH 2):=ve (k:=0) (W:=q26.fn) (b_len:=y5) (b_range:=y9) (b_tuple:=y11);have Q27:bc l.prog w K mg base (cX l.prog w mg) 1 f27 _ ["ground","watcher"] (dN dC 2):=tQ (k:=0) (W:=q27.fn) (g_GOOD:=h3) (b_len:=y5) (b_range:=y9) (b_tuple:=y11);have Q28:bc l.prog w K mg base (cX l.prog w mg) 1 f28 _ ["place","goals"] (dN dE 2):=tY (k:=0) (W:=q28.fn) (g_GAIN:=h1) (g_MARK:=h4) (g_WHO:=h8) (b_tuple:=y11);have Q29:bc l.prog w K mg base (cX l.prog w mg) 2 f29 _ ["ground","state","place"] (dN ez 3):=Ad (k:=1) (W:=q29.fn) (C16:=⟨Q28.mono (by decide),m28,q28.fn.kp,b28⟩) (g_GOALS:=h2) (g_MARK:=h4) (g_STEPS:=h7) (b_len:=y5) (b_sorted:=y10);have Q30:bc l.prog w K mg base (cX l.prog w mg) 3 f30 _ ["ground","watcher"] (dN cf 2):=mP (k:=2) (W:=q30.fn) (C23:=⟨Q29.mono (by decide),m29,q29.fn.kp,b29⟩) (b_tuple:=y11);have Q31:bc l.prog w K mg base (cX l.prog w mg) 1 f31 _ ["thing","least","most"] (dN aM 3):=rV (k:=0) (W:=q31.fn) (b_isinstance:=y4) (b_len:=y5) (b_tuple:=y11);have Q32:bc l.prog w K mg base (cX l.prog w mg) 3 f32 _ ["thing","count"] (dN eB 2):=vd (k:=2) (W:=q32.fn) (C1:=⟨Q12.mono (by decide),m12,q12.fn.kp,b12⟩) (C17:=⟨Q31.mono (by decide),m31,q31.fn.kp,b31⟩) (g_COUNT_OF_MARKS:=h0) (b_all:=y0);have Q33:bc l.prog w K mg base (cX l.prog w mg) 4 f33 _ ["thing","count"] (dN eM 2):=wS (k:=3) (W:=q33.fn) (C18:=⟨Q32.mono (by decide),m32,q32.fn.kp,b32⟩) (C1:=⟨Q12.mono (by decide),m12,q12.fn.kp,b12⟩) (C17:=⟨Q31.mono (by decide),m31,q31.fn.kp,b31⟩) (g_GOOD:=h3) (g_PARTS_OF_STATE:=h6) (g_STEPS:=h7);have Q34:bc l.prog w K mg base (cX l.prog w mg) 5 f34 _ ["thing"] (dN dD 1):=tT (k:=4) (W:=q34.fn) (C19:=⟨Q33.mono (by decide),m33,q33.fn.kp,b33⟩) (C17:=⟨Q31.mono (by decide),m31,q31.fn.kp,b31⟩) (g_MOST_STATES:=h5) (b_all:=y0) (b_len:=y5);have Q35:bc l.prog w K mg base (cX l.prog w mg) 6 f35 _ ["ground","watcher","who"] (dN (cm c_Share) 3):=Ae (k:=5) (W:=q35.fn) (C15:=⟨Q25.mono (by decide),m25,q25.fn.kp,b25⟩) (C26:=⟨Q26.mono (by decide),m26,q26.fn.kp,b26⟩) (C25:=⟨Q27.mono (by decide),m27,q27.fn.kp,b27⟩) (C24:=⟨Q30.mono (by decide),m30,q30.fn.kp,b30⟩) (C20:=⟨Q34.mono (by decide),m34,q34.fn.kp,b34⟩) (g_MARK:=h4) (g_STEPS:=h7) (b_enumerate:=y2) (b_len:=y5) (b_tuple:=y11) (m_NoWatcher:=n2) (q_NoWatcher:=qq2);have Q36:bc l.prog w K mg base (cX l.prog w mg) 7 f36 _ ["_law_ground_here","_law_thing","_law_who"] (dN (cF c_Share) 3):=rY (k:=6) (W:=q36.fn) (C27:=⟨Q35.mono (by decide),m35,q35.fn.kp,b35⟩) (b_isinstance:=y4) (m_GroundError:=n0) (q_GroundError:=qq0) (m_NoWatcher:=n2) (q_NoWatcher:=qq2) (b_NoWatcher_NoWatcher:=qs0) (k_NoWatcher_GroundError:=qk0);have Q37:bc l.prog w K mg base (cX l.prog w mg) 1 f37 _ ["_law_found","_law_size"] (dN br 2):=mQ (k:=0) (W:=q37.fn) (b_all:=y0) (b_bool:=y1) (b_int:=y3) (b_isinstance:=y4) (b_len:=y5) (b_tuple:=y11);have Q38:bc l.prog w K mg base (cX l.prog w mg) 2 f38 _ ["_law_found","_law_ground_here","_law_watcher_here"] (dN cH 3):=tW (k:=1) (W:=q38.fn) (C41:=⟨Q37.mono (by decide),m37,q37.fn.kp,b37⟩) (b_all:=y0) (b_bool:=y1) (b_isinstance:=y4) (b_len:=y5) (b_range:=y9) (b_tuple:=y11);have Q39:bc l.prog w K mg base (cX l.prog w mg) 2 f39 _ ["_law_number"] (dN cR 1):=rZ (k:=1) (W:=q39.fn) (C30:=⟨Q4.mono (by decide),m4,q4.fn.kp,b4⟩) (b_range:=y9) (b_tuple:=y11);have Q40:bc l.prog w K mg base (cX l.prog w mg) 1 f40 _ ["group","state"] (dN eO 2):=wX (k:=0) (W:=q40.fn) (g_COUNT_OF_MARKS:=h0) (b_range:=y9) (b_tuple:=y11);have Q41:bc l.prog w K mg base (cX l.prog w mg) 4 f41 _ ["groups"] (dN di 1):=tX (k:=3) (W:=q41.fn) (C2:=⟨Q13.mono (by decide),m13,q13.fn.kp,b13⟩) (C17:=⟨Q31.mono (by decide),m31,q31.fn.kp,b31⟩) (C21:=⟨Q40.mono (by decide),m40,q40.fn.kp,b40⟩) (g_COUNT_OF_MARKS:=h0) (g_MOST_STATES:=h5) (g_STEPS:=h7) (b_all:=y0) (b_enumerate:=y2) (b_tuple:=y11) (m_NoWatcher:=n2) (q_NoWatcher:=qq2);have Q42:bc l.prog w K mg base (cX l.prog w mg) 8 fa _ ["_law_script"] (dN (Bp c_Share) 1):=Ie (k:=7) (W:=F42) (C39:=⟨Q1.mono (by decide),m1,q1.fn.kp,b1⟩) (C33:=⟨Q7.mono (by decide),m7,q7.fn.kp,b7⟩) (C36:=⟨Q8.mono (by decide),m8,q8.fn.kp,b8⟩) (C38:=⟨Q9.mono (by decide),m9,q9.fn.kp,b9⟩) (C29:=⟨Q3.mono (by decide),m3,q3.fn.kp,b3⟩) (C40:=⟨Q36.mono (by decide),m36,q36.fn.kp,b36⟩) (C42:=⟨Q38.mono (by decide),m38,q38.fn.kp,b38⟩) (C35:=⟨Q39.mono (by decide),m39,q39.fn.kp,b39⟩) (C27:=⟨Q35.mono (by decide),m35,q35.fn.kp,b35⟩) (C22:=⟨Q41.mono (by decide),m41,q41.fn.kp,b41⟩) (b_enumerate:=y2) (b_int:=y3) (b_len:=y5) (b_list:=y6) (b_range:=y9);exact Q42.imp Ii
end G
namespace G
open PySem PySem.W PyProof.Rows L2 D2
theorem J6{q:Program}{loose:List Str}{XP:(Str->Option Value)->Heap->Prop}{K:Params->PySem.W.Frag}{as:List Addr}{r:PySem.W.RowW}{d:DefRec}{kwd:List (Str×Expr)}{run:Value->List Value->Sem Value}(has:∀P:Params,as=List.map (λx=>x.fst) (K P))
  (h:PySem.W.WalkO q loose XP (PySem.W.kHook K as has).says r d kwd run):PySem.W.WalkX q loose XP (λs=>as.map s.heap.get?) (λw=>(K w.params).map λp=>some p.2) r d kwd run:=λw s₀ s₁ mg mb G e a o pm cd doc dV kV h1 h2 h3 h4 h5 h6 args vals as' L=>
 h w s₀ s₁ mg mb G ((PySem.W.kHook K as has).keeps w _ _ ((PySem.W.kHook K as has).of w s₀ e) L.keeps) a o pm cd doc dV kV h1 h2 h3 h4 h5 h6 args vals as'
theorem dm{K:PySem.W.Frag}{x:Str}{f:Nat}{st:Stmt}(m:Str×Nat)(c:Nat)(a:PySem.W.nsIn K mainGlobals x=some (some (.ref f)):=by kernel_rfl)(l:K.lookup f=some (fo x x m.1 m.2 c st):=by kernel_rfl)(cc:PySem.W.codeIn K (.ref c) x=true:=by kernel_rfl)(kk:PySem.W.keepIn K (.ref f)=true:=by kernel_rfl):D2.cC K x st f (PySem.W.fnOf x x (L2.eI st) (L2.cZ st) (L2.ao st) .none .none .none (.str m.1 m.2) none (.ref c) .none):=D2.BU a l cc kk
end G
open PySem PySem.W PyProof.Rows
set_option maxRecDepth 100000 in
set_option maxHeartbeats 0 in
theorem PySem.Challenge.cw_duelground_k83_whole_watched_holds : PySem.Challenge.rw_duelground_k83_whole_watched.Holds := by
 w_on;o_law
 refine holds_openX (q:=G.qv) (loose:=[]) (XP:=XL G.qv []) (N:=4592) G.LU (λs e=>xl_of s (Bool.and_eq_true_iff.mp e).1) XL.keeps (by rfl) (by rfl) (by rfl) (λs e=>recFacts_of (Bool.and_eq_true_iff.mp e).2) (by rfl) (by first|assumption|decide +kernel) (by decide +kernel) ⟨rfl,rfl,rfl,rfl,rfl,by decide +kernel⟩ ?hw ?hc
 case hw=>w_witness2
 case hc=>
 refine G.J6 (K:=G.KK) (as:=G.kA) (λP=>by kernel_rfl) ?_;refine D2.Lu (l:=PySem.Challenge.rw_duelground_k83_whole_watched) (k:=8) (x := "_law_script") (F:=G.F0) rfl rfl ⟨rfl,by decide,by decide⟩ (λw h Y=>PySem.W.kIn_of Y) G.yD ?F
 case F=>
  intro w mg fa h KX GG hmg;refine' G.Gy (f0:=292) (f1:=304) (f2:=239) (f3:=246) (f4:=253) (f5:=260) (f6:=267) (f7:=272) (f8:=287) (f9:=297) (f10:=100) (f11:=58) (f12:=65) (f13:=72) (f14:=105) (f15:=120) (f16:=147) (f17:=152) (f18:=137) (f19:=142) (f20:=115) (f21:=127) (f22:=110) (f23:=159) (f24:=132) (f25:=166) (f26:=227) (f27:=222) (f28:=173) (f29:=212) (f30:=217) (f31:=180) (f32:=185) (f33:=192) (f34:=197) (f35:=232) (f36:=311) (f37:=316) (f38:=321) (f39:=282) (f40:=202) (f41:=207) (t0:=426) (t1:=245) (t2:=247) (t3:=428) (t4:=243) (t5:=424) (t6:=432) (t7:=430) (t8:=241) (cc0:=24) (cc1:=37) (cc2:=49) (f42:=326) (od42:=none) (an42:=none) (sl42:=#[]) (oc42:=.type "function") (kV42:=.none) (dc42:=.none) (pm42:=.str "law_duelground_k83_whole_watched" 505) (cd42:=.ref 325) (ct42:=.none) (c_Share:=89) (fi_Share:=86) (od_Share:=none) (an_Share:=none) (sl_Share:=#[]) (oc_Share:=.type "function") (kV_Share:=.none) (dc_Share:=.none) (pm_Share:=.str "duelground.parts" 275) (cd_Share:=.ref 85) (ct_Share:=.none) KX GG hmg (G.dm G.m6 291) (G.dm G.m6 303) (G.dm G.m6 238) (G.dm G.m6 245) (G.dm G.m6 252) (G.dm G.m6 259) (G.dm G.m6 266) (G.dm G.m6 271) (G.dm G.m6 286) (G.dm G.m6 296) (G.dm G.m1 99) (G.dm G.m0 57) (G.dm G.m0 64) (G.dm G.m0 71) (G.dm G.m1 104) (G.dm G.m1 119) (G.dm G.m2 146) (G.dm G.m2 151) (G.dm G.m2 136) (G.dm G.m2 141) (G.dm G.m1 114) (G.dm G.m1 126) (G.dm G.m1 109) (G.dm G.m3 158) (G.dm G.m1 131) (G.dm G.m3 165) (G.dm G.m5 226) (G.dm G.m5 221) (G.dm G.m4 172) (G.dm G.m5 211) (G.dm G.m5 216) (G.dm G.m5 179) (G.dm G.m5 184) (G.dm G.m5 191) (G.dm G.m5 196) (G.dm G.m5 231) (G.dm G.m6 310) (G.dm G.m6 315) (G.dm G.m6 320) (G.dm G.m6 281) (G.dm G.m5 201) (G.dm G.m5 206) _ _ _ _ _ _ _ _ _ _ _ _ _ _ _ _ _ _ _ _ _ _ _ _ _ _ _ _ _ _ _ _ _ _ _ _ _ _ _ _ _ _ _ _ _ _ _ _ _ _
  all_goals kernel_rfl

import PyProof.Rows.All
import Wide.All
import OpenK.AllK
import Wide.FinOn
import Lean
import PyProof.EqAt
import PyProof.EqKinds
import PyProof.TupleCall
import PySem.Challenge.RW_armswing_k22_stretches
set_option compiler.extract_closed false
set_option Elab.async false
set_option linter.all false
set_option maxRecDepth 100000
namespace _L
open PySem PySem.Spec PyProof.Rows
noncomputable abbrev Key:=Sum Int Str
noncomputable def oF:Key->Value->Bool
 | .inl k,v=>Value.isInt k v
 | .inr x,v=>Value.isStrOf x v
noncomputable def Q9(w:World):Key->Int
 | .inl k=>hashInt k
 | .inr x=>hashStr w x
theorem jP:∀ {k:Key} {v:Value},oF k v=true->(∃i t,k=Sum.inl i/\v=Value.int i t)\/(∃x t,k=Sum.inr x/\v=Value.str x t)
 | .inl i,v,h=>by
  obtain⟨t,e⟩:=Value.isInt_shape (k:=i) (v:=v) h;exact .inl ⟨i,t,rfl,e⟩
 | .inr x,v,h=>by
  obtain⟨t,e⟩:=Value.isStrOf_shape (x:=x) (v:=v) h;exact .inr ⟨x,t,rfl,e⟩
theorem Q_(i:Int)(t:Tok):oF (.inl i) (.int i t)=true:=by simp[oF,Value.isInt]
theorem Ra(x:Str)(t:Tok):oF (.inr x) (.str x t)=true:=by simp[oF,Value.isStrOf]
theorem Rb(a b:Int):decide ((Sum.inl a:Key)=Sum.inl b)=(a == b):=by
 by_cases e:a=b
 ·subst e;simp
 ·have h:¬ (Sum.inl a:Key)=Sum.inl b:=λq=>e (Sum.inl.inj q);rw[decide_eq_false h];exact(beq_eq_false_iff_ne.mpr e).symm
theorem Rc(a b:Str):decide ((Sum.inr a:Key)=Sum.inr b)=decide (a=b):=by
 by_cases e:a=b
 ·subst e;simp
 ·have h:¬ (Sum.inr a:Key)=Sum.inr b:=λq=>e (Sum.inr.inj q);rw[decide_eq_false h,decide_eq_false e]
theorem Rf(a:Int)(b:Str):decide ((Sum.inl a:Key)=Sum.inr b)=false:=decide_eq_false (λq=>nomatch q)
theorem Rg(a:Str)(b:Int):decide ((Sum.inr a:Key)=Sum.inl b)=false:=decide_eq_false (λq=>nomatch q)
noncomputable def c9(prog:Program)(w:World):PySem.KeyKind prog w Key where
 is:=oF
 hash:=Q9 w
 inj:=λv a b ha hb=>by
  rcases jP ha with⟨i,t,rfl,rfl⟩ | ⟨x,t,rfl,rfl⟩
  ·rcases jP hb with⟨j,u,rfl,e⟩ | ⟨y,u,rfl,e⟩
   ·injection e with e1 _;rw[e1]
   ·exact nomatch e
  ·rcases jP hb with⟨j,u,rfl,e⟩ | ⟨y,u,rfl,e⟩
   ·exact nomatch e
   ·injection e with e1 _;rw[e1]
 byValue:=λk v h=>by
  rcases jP h with⟨i,t,rfl,rfl⟩ | ⟨x,t,rfl,rfl⟩ <;> rfl
 pyHash:=λhv h=>by
  rcases jP hv with⟨i,t,rfl,rfl⟩ | ⟨x,t,rfl,rfl⟩
  ·exact wpAny_pyHash_int h
  ·exact wpAny_pyHash_str h
 eqBool:=λhu hv h=>by
  rcases jP hu with⟨i,t,rfl,rfl⟩ | ⟨x,t,rfl,rfl⟩
  ·rcases jP hv with⟨j,u,rfl,rfl⟩ | ⟨y,u,rfl,rfl⟩
   ·rw[Rb] at h;exact wpAny_eqBool_int h
   ·rw[Rf] at h;exact SeqAt.EqAt.int_str i t y u _ _ _ _ h
  ·rcases jP hv with⟨j,u,rfl,rfl⟩ | ⟨y,u,rfl,rfl⟩
   ·rw[Rg] at h;exact SeqAt.EqAt.str_int x t j u _ _ _ _ h
   ·rw[Rc] at h;exact wpAny_eqBool_str h
 «strs» := λk x t v h=>by
  rcases jP h with⟨i,u,rfl,e⟩ | ⟨y,u,rfl,e⟩
  ·exact nomatch e
  ·injection e with e1 _;subst e1;cases v <;> rfl
theorem Rh(prog:Program)(w:World)(i:Int)(t:Tok):(c9 prog w).is (.inl i) (.int i t)=true:=Q_ i t
theorem Ri(prog:Program)(w:World)(x:Str)(t:Tok):(c9 prog w).is (.inr x) (.str x t)=true:=Ra x t
inductive V where
 | aG | bl (b:Bool) | int (i:Int) | str (x:Str) | ie (b:Array UInt8) | kJ (b:UInt64) | ref (a:Addr) | ty (n:String)
 deriving DecidableEq
noncomputable def RelV:V->Value->Prop
 | .aG,u=>u=Value.none
 | .bl b,u=>u=Value.bool b
 | .int i,u=>∃t,u=Value.int i t
 | .str x,u=>∃t,u=Value.str x t
 | .ie b,u=>∃t,u=Value.bytes b t
 | .kJ b,u=>∃t,u=Value.float b t
 | .ref a,u=>u=Value.ref a
 | .ty n,u=>u=Value.type n
noncomputable abbrev Vals:List V->List Value->Prop:=Paired RelV
theorem Vals.length{xs:List V}{us:List Value}(r:Vals xs us):xs.length=us.length:=Paired.length r
theorem Vals.get:∀ {xs:List V} {us:List Value} {i:Nat} {x:V},Vals xs us->xs[i]? = some x->∃u,us[i]? = some u/\RelV x u
 | _,_,_,_,.nil,e=>by simp at e
 | _,_,0,_,.cons r _,e=>by simp at e;subst e;exact⟨_,rfl,r⟩
 | _,_,i+1,x,.cons _ t,e=>by
  obtain⟨u,h1,h2⟩:=Vals.get (i:=i) (x:=x) t (by simpa using e)
  exact⟨u,by simpa using h1,h2⟩
theorem Vals.set{x:V}{u:Value}(r:RelV x u):∀ {xs:List V} {us:List Value} (i:Nat),Vals xs us->Vals (xs.set i x) (us.set i u)
 | _,_,_,.nil=>.nil
 | _,_,0,.cons _ t=>.cons r t
 | _,_,i+1,.cons q t=>.cons q (Vals.set r i t)
theorem Vals.append:∀ {xs ys:List V} {us ws:List Value},Vals xs us->Vals ys ws->Vals (xs++ys) (us++ws)
 | _,_,_,_,.nil,s=>s
 | _,_,_,_,.cons r t,s=>.cons r (Vals.append t s)
theorem Vals.take:∀ {xs:List V} {us:List Value} (n:Nat),Vals xs us->Vals (xs.take n) (us.take n)
 | _,_,0,_=>.nil
 | _,_,_+1,.nil=>.nil
 | _,_,n+1,.cons r t=>.cons r (Vals.take n t)
theorem Vals.drop:∀ {xs:List V} {us:List Value} (n:Nat),Vals xs us->Vals (xs.drop n) (us.drop n)
 | _,_,0,r=>r
 | _,_,_+1,.nil=>.nil
 | _,_,n+1,.cons _ t=>Vals.drop n t
noncomputable def dO:Option V->Option Value->Prop
 | some v,some u=>RelV v u
 | none,none=>True
 | _,_=>False
noncomputable def KV{κ:Type}:List (κ×V)->List (κ×Value)->Prop:=Paired λ(p:κ×V) (q:κ×Value)=>p.1=q.1/\RelV p.2 q.2
noncomputable def kV:Key->V
 | .inl i=>.int i
 | .inr x=>.str x
inductive HO where
 /-- a list -/
 | lst (xs:List V)
 /-- a tuple (never changes) -/
 | tup (xs:List V)
 /-- a dict whose keys are ints and texts;one whose keys are tuples of ints and texts (the empty one is both) -/
 | dK (aq:List (Key×V)) | dT (aq:List (List Key×V))
 /-- a set of ints: its members,its size -/
 | set (S:Int->Bool) (n:Nat)
 /-- an instance of the class at C,its dict at dx,its attributes -/
 | ins (C dx:Addr) (fs:List (Str×V))
 /-- the dict of the instance at x -/
 | own (x:Addr)
 /-- the dict of an exception -/
 | xd (fs:List (Str×V))
 /-- a bound method,f of x -/
 | met (f x:Addr)
 /-- a range object lo,lo+1,.. below hi -/
 | uK (lo hi:Int)
 /-- a thing that is known to the object (the script;a dict while a loop walks it): read,never written while it is so -/
 | eG (o:Obj) (u:HO)
 /-- a code object's table -/
 | dm (ps:Array Value)
 /-- any other thing,by what is true of its one object (a def of one's own: SetO a S n:=HO.ext λh=>..) -/
 | ext (φ:Heap->Prop)
noncomputable abbrev Hp:=Addr->Option HO
noncomputable def upd(H:Hp)(a:Addr)(o:HO):Hp:=λb=>if b=a then some o else H b
theorem aB{H:Hp}{a:Addr}{o:HO}:upd H a o a=some o:=by unfold upd;rw[if_pos rfl]
theorem au{H:Hp}{a b:Addr}{o:HO}(h:b≠a):upd H a o b=H b:=by unfold upd;rw[if_neg h]
theorem uL{H:Hp}{a:Addr}{o u:HO}:upd (upd H a o) a u=upd H a u:=by
 funext b;unfold upd;split <;> rfl
theorem fZ{H:Hp}{a b:Addr}{o u:HO}(h:H a=some o)(h':H b=some u)(d:o≠u):a≠b:=by
 intro e;subst e;rw[h] at h';exact d (Option.some.inj h')
theorem bK{H:Hp}{a b:Addr}{o:HO}(h:H a=some o)(h':H b=none):a≠b:=by
 intro e;subst e;rw[h] at h';cases h'
section
variable(P:Program)(w:World)
noncomputable def bW(H:Hp)(h:Heap)(a:Addr):HO->Prop
 | .lst xs=>xs.length<=sizeLine/\∃(aA:List Value) (n:Nat),Vals xs aA/\h.get? a=some { cls:=.type "list",data:=.seq aA.toArray n }
 | .tup xs=>xs.length<=sizeLine/\∃aA:List Value,Vals xs aA/\IsTup h a aA.toArray
 | .dK aq=>aq.length<=sizeLine/\(a == sysModules)=false/\∃vs,KV aq vs/\h.DictOf (c9 P w) a vs
 | .dT aq=>aq.length<=sizeLine/\(a == sysModules)=false/\∃xs:List (List Key×Addr×Value),
   Paired (λ(p:List Key×V) (q:List Key×Addr×Value)=>p.1=q.1/\H q.2.1=some (.tup (p.1.map kV))/\RelV p.2 q.2.2) aq xs/\
   ∃o es ep,h.get? a=some o/\o.ExactDict/\o.data = .dict es ep/\es.toList=xs.map (entryOfKey (tupleKind (c9 P w)))/\(xs.map (·.1)).Nodup
 | .set S n=>h.SetOf (intKind P w) a S n
 | .ins C dx fs=>H dx=some (.own a)/\fs.length<=1000/\dx≠a/\h.get? a=some (PySem.W.instObj C dx)/\
   ∃mA,h.Ns1 dx mA/\(∀f,dO (fs.lookup f) (mA f))/\PySem.Within mA (fs.map (·.1))
 | .own _=>∃o,h.get? a=some o
 | .xd fs=>∃mA,h.Ns1 a mA/\∀f,dO (fs.lookup f) (mA f)
 | .uK lo hi=>∃t u v,h.get? a=some { cls:=.type "range",data:=.fields #[.int lo t,.int hi u,.int 1 v] }
 | .eG o u=>h.get? a=some o/\bW H h a u
 | .dm ps=>h.get? a=some { cls:=.none,data:=.fields ps }
 | .met f x=>h.get? a=some (PySem.W.methodObj (.ref f) (.ref x))
 | .ext φ=>φ h/\(∃o,h.get? a=some o)/\∀h1 h2:Heap,φ h1->(∀o,h1.get? a=some o->h2.get? a=some o)->φ h2
noncomputable def bQ(H:Hp)(h:Heap):Prop:=∀a o,H a=some o->bW P w H h a o
end
section
variable{P:Program}{w:World}{H H':Hp}{h h':Heap}{a:Addr}{o:HO}
theorem bW.lt(x:bW P w H h a o):a<h.objs.size:=by
 cases o with
 | lst xs=>obtain⟨_,_,_,_,e⟩:=x;exact Heap.lt_size e
 | tup xs=>obtain⟨_,_,_,p⟩:=x;exact p.lt
 | dK aq=>obtain⟨_,_,_,_,o,_,_,e,_⟩:=x;exact Heap.lt_size e
 | dT aq=>obtain⟨_,_,_,_,o,_,_,e,_⟩:=x;exact Heap.lt_size e
 | set S n=>obtain⟨o,_,_,_,e,_⟩:=x;exact Heap.lt_size e
 | ins C dx fs=>obtain⟨_,_,_,e,_⟩:=x;exact Heap.lt_size e
 | own y=>obtain⟨_,e⟩:=x;exact Heap.lt_size e
 | xd fs=>obtain⟨_,⟨_,_,_,e,_⟩,_⟩:=x;exact Heap.lt_size e
 | uK lo hi=>obtain⟨_,_,_,e⟩:=x;exact Heap.lt_size e
 | eG ob u=>obtain⟨e,_⟩:=x;exact Heap.lt_size e
 | dm ps=>exact Heap.lt_size (show h.get? a=some _ from x)
 | met f y=>exact Heap.lt_size (show h.get? a=some _ from x)
 | ext φ=>obtain⟨_,⟨_,e⟩,_⟩:=x;exact Heap.lt_size e
theorem Paired.AA{α β:Type}{F G:α->β->Prop}:∀ {HR:List α} {HS:List β},Paired F HR HS->(∀a b,F a b->G a b)->Paired G HR HS
 | _,_,.nil,_=>.nil
 | _,_,.cons r t,f=>.cons (f _ _ r) (Paired.AA t f)
theorem bW.d8(x:bW P w H h a o)(k:∀b u,(b=a\/H b=some (.own a))->h.get? b=some u->h'.get? b=some u)
  (ho:∀b,H b=some (.own a)->H' b=some (.own a)) (ht:∀b xs,H b=some (.tup xs)->H' b=some (.tup xs)):bW P w H' h' a o:=by
 induction o with
 | lst xs=>obtain⟨z,aA,n,r,e⟩:=x;exact⟨z,aA,n,r,k _ _ (.inl rfl) e⟩
 | tup xs=>obtain⟨z,aA,r,ob,e,c⟩:=x;exact⟨z,aA,r,ob,k _ _ (.inl rfl) e,c⟩
 | dK aq=>obtain⟨z,y,vs,r,ob,es,ep,e,c⟩:=x;exact⟨z,y,vs,r,ob,es,ep,k _ _ (.inl rfl) e,c⟩
 | dT aq =>
  obtain⟨z,y,xs,r,ob,es,ep,e,c⟩:=x;exact⟨z,y,xs,Paired.AA r λp q z=>⟨z.1,ht _ _ z.2.1,z.2.2⟩,ob,es,ep,k _ _ (.inl rfl) e,c⟩
 | set S n=>obtain⟨ob,es,ep,t,e,c⟩:=x;exact⟨ob,es,ep,t,k _ _ (.inl rfl) e,c⟩
 | ins C dx fs =>
  obtain⟨d,z,ne,e,mA,⟨od,es,ep,e2,c⟩,r⟩:=x;exact⟨ho _ d,z,ne,k _ _ (.inl rfl) e,mA,⟨od,es,ep,k _ _ (.inr d) e2,c⟩,r⟩
 | own y=>obtain⟨ob,e⟩:=x;exact⟨ob,k _ _ (.inl rfl) e⟩
 | xd fs=>obtain⟨mA,⟨od,es,ep,e,c⟩,r⟩:=x;exact⟨mA,⟨od,es,ep,k _ _ (.inl rfl) e,c⟩,r⟩
 | uK lo hi=>obtain⟨t,u,v,e⟩:=x;exact⟨t,u,v,k _ _ (.inl rfl) e⟩
 | eG ob u ih=>obtain⟨e,q⟩:=x;exact⟨k _ _ (.inl rfl) e,ih q⟩
 | dm ps =>
  have e:h.get? a=some { cls:=.none,data:=.fields ps }:=x
  show h'.get? a=some { cls:=.none,data:=.fields ps };exact k a _ (.inl rfl) e
 | met f y =>
  have e:h.get? a=some (PySem.W.methodObj (.ref f) (.ref y)):=x
  show h'.get? a=some (PySem.W.methodObj (.ref f) (.ref y));exact k a _ (.inl rfl) e
 | ext φ=>obtain⟨p,⟨o,e⟩,st⟩:=x;exact⟨st _ _ p λo q=>k _ _ (.inl rfl) q,⟨o,k _ _ (.inl rfl) e⟩,st⟩
theorem bQ.lt(x:bQ P w H h)(e:H a=some o):a<h.objs.size:=(x a o e).lt
theorem bQ.fresh(x:bQ P w H h)(e:h.objs.size<=a):H a=none:=by
 cases q:H a with
 | none=>rfl
 | some u=>exact absurd (Nat.lt_of_lt_of_le (x.lt q) e) (Nat.lt_irrefl _)
theorem bQ.kept(x:bQ P w H h)(k:∀b u,h.get? b=some u->h'.get? b=some u):bQ P w H h':=λa o e =>
 (x a o e).d8 (λb u _ q=>k b u q) (λ_ q=>q) λ_ _ q=>q
theorem bQ.laid(x:bQ P w H h)(k:∀b u,h.get? b=some u->h'.get? b=some u)(hp:h.objs.size<=a)(new:bW P w (upd H a o) h' a o):bQ P w (upd H a o) h':=λb u e=>by
 have hn:=x.fresh hp;by_cases hb:b=a
 ·subst hb;rw[aB] at e;cases e;exact new
 ·rw[au hb] at e;exact(x b u e).d8 (λc v _ q=>k c v q) (λc q=>by rw[au (bK q hn)];exact q) λc xs q=>by rw[au (bK q hn)];exact q
end
noncomputable def Rd(H:Hp)(a:Addr)(u:HO):Prop:=H a=some u\/∃o,H a=some (.eG o u)
theorem Rd.ok{P:Program}{w:World}{H:Hp}{h:Heap}{a:Addr}{u:HO}(r:Rd H a u)(x:bQ P w H h):bW P w H h a u:=by
 rcases r with r | ⟨o,r⟩
 ·exact x a u r
 ·obtain⟨_,q⟩:=x a _ r;exact q
noncomputable def qk:Option HO->Prop
 | some (.lst _)=>True
 | some (.dK _)=>True
 | some (.dT _)=>True
 | some (.set _ _)=>True
 | some (.ins _ _ _)=>True
 | some (.ext _)=>True
 | _=>False
section
variable{P:Program}{w:World}{H:Hp}{h h':Heap}{x e:Addr}{o':HO}
theorem bQ.write(ok:bQ P w H h)(mu:qk (H x))(he:e=x\/H e=some (.own x))(k:∀b u,b≠e->h.get? b=some u->h'.get? b=some u)(oG:∃u,h'.get? e=some u)
  (new:bW P w (upd H x o') h' x o'):bQ P w (upd H x o') h':=λb u q=>by
 have HU:∀c y,H c=some (.own y)->c≠x:=λc y r z=>by subst z;rw[r] at mu;exact mu
 have Rj:∀c xs,H c=some (.tup xs)->c≠x:=λc xs r z=>by subst z;rw[r] at mu;exact mu
 by_cases hb:b=x
 ·subst hb;rw[aB] at q;cases q;exact new
 ·rw[au hb] at q;by_cases gT:b=e
  ·have q':H b=some (.own x):=by
    rcases he with z | z
    ·exact absurd (gT.trans z) hb
    ·rw[gT];exact z
   rw[q] at q';cases q';obtain⟨v,hv⟩:=oG;exact⟨v,by rw[gT];exact hv⟩
  ·refine(ok b u q).d8 (λc v hc r=>k c v ?_ r) (λc r=>by rw[au (HU c b r)];exact r) λc xs r=>by rw[au (Rj c xs r)];exact r
   rcases hc with rfl | hc
   ·exact gT
   ·rintro rfl;rcases he with z | z
    ·exact HU c b hc z
    ·rw[hc] at z;cases z;exact hb rfl
end
structure Un(fs ex:List Addr)(H H':Hp)(h h':Heap):Prop where
 keep:∀b o,h.get? b=some o->H b=none->b∉fs->b∉ex->h'.get? b=some o
 slot:∀b o,h.get? b=some o->H b=none->b∈fs->b∉ex->∃sl,h'.get? b=some { o with slots:=sl }
 free:∀b o,h.get? b=some o->H b=none->b∉ex->H' b=none
 there:∀b o,h.get? b=some o->b∉ex->∃o',h'.get? b=some o'
 eZ:∀b xs,H b=some (.tup xs)->H' b=some (.tup xs)
 d9:∀b o u,H b=some (.eG o u)->H' b=some (.eG o u)
 eK:∀b ps,H b=some (.dm ps)->∃more,H' b=some (.dm (ps++more))
section
variable{fs uM ex ex':List Addr}{H H1 H2:Hp}{h h1 h2 h':Heap}{a x e:Addr}{o:HO}
theorem Un.any(u:Un fs ex H H1 h h1){b:Addr}{ob:Obj}(q:h.get? b=some ob)(n:H b=none)(hx:b∉ex):∃sl,h1.get? b=some { ob with slots:=sl }:=by
 by_cases hb:b∈fs
 ·exact u.slot b ob q n hb hx
 ·exact⟨ob.slots,u.keep b ob q n hb hx⟩
theorem Un.kept(k:∀b u,h.get? b=some u->h'.get? b=some u):Un fs ex H H h h' :=
 ⟨λb ob q _ _ _=>k b ob q,λb ob q _ _ _=>⟨ob.slots,k b ob q⟩,λ_ _ _ n _=>n,λb ob q _=>⟨ob,k b ob q⟩,λ_ _ q=>q,λ_ _ _ q=>q,λ_ ps q=>⟨#[],by rw[q];simp⟩⟩
theorem Un.refl:Un fs ex H H h h:=Un.kept λ_ _ q=>q
theorem Un.laid(k:∀b u,h.get? b=some u->h'.get? b=some u)(hp:h.objs.size<=a)(hn:H a=none):Un fs ex H (upd H a o) h h' where
 keep:=λb u q _ _ _=>k b u q
 slot:=λb u q _ _ _=>⟨u.slots,k b u q⟩
 free:=λb u q n _=>by rw[au (Nat.ne_of_lt (Nat.lt_of_lt_of_le (Heap.lt_size q) hp))];exact n
 there:=λb u q _=>⟨u,k b u q⟩
 eZ:=λb xs q=>by rw[au (bK q hn)];exact q
 d9:=λb u xs q=>by rw[au (bK q hn)];exact q
 eK:=λb ps q=>⟨#[],by rw[au (bK q hn),q];simp⟩
theorem Un.write(mu:qk (H x))(he:e=x\/H e=some (.own x))(k:∀b u,b≠e->h.get? b=some u->h'.get? b=some u)(oG:∃u,h'.get? e=some u):Un fs ex H (upd H x o) h h':=by
 have hx:∀b,H b=none->b≠x:=λb n z=>by subst z;rw[n] at mu;exact mu
 have hb:∀b,H b=none->b≠e:=λb n z=>by
  subst z;rcases he with r | r
  ·exact hx b n r
  ·rw[n] at r;cases r
 have hm:∀b u,H b=some u->¬ qk (some u)->b≠x:=λb u q nm z=>by subst z;rw[q] at mu;exact nm mu
 refine⟨λb u q n _ _=>k b u (hb b n) q,λb u q n _ _=>⟨u.slots,k b u (hb b n) q⟩,λb u q n _=>by rw[au (hx b n)];exact n,λb u q _=>?_,
  λb xs q=>by rw[au (hm b _ q λz=>z)];exact q,λb u xs q=>by rw[au (hm b _ q λz=>z)];exact q,λb ps q=>⟨#[],by rw[au (hm b _ q λz=>z),q];simp⟩⟩
 by_cases gT:b=e
 ·subst gT;exact oG
 ·exact⟨u,k b u gT q⟩
end
noncomputable def uN(h:Heap)(H:Hp):List Addr:=(List.range h.objs.size).filter λa=>(H a).isSome
noncomputable def f9(h:Heap)(H:Hp):Heap:=PySem.W.hideAll h (uN h H)
theorem HV(h:Heap)(H:Hp):(f9 h H).objs.size=h.objs.size:=PySem.W.hideAll_size _ _
theorem HW{h:Heap}{H:Hp}{b:Addr}{o:Obj}(e:h.get? b=some o)(n:H b=none):(f9 h H).get? b=some o :=
 PySem.W.hideAll_get _ e λhm=>by
  have q:(H b).isSome=true:=(List.mem_filter.mp hm).2;rw[n] at q;simp at q
theorem HX{h:Heap}{H:Hp}{b:Addr}{o:Obj}(e:(f9 h H).get? b=some o):h.get? b=some o/\H b=none:=by
 have e':h.get? b=some o:=PySem.W.of_hideAll (uN h H) e;refine⟨e',?_⟩;cases q:H b with
 | none=>rfl
 | some x =>
  have hm:b∈uN h H:=List.mem_filter.mpr ⟨List.mem_range.mpr (Heap.lt_size e'),by simp[q]⟩
  have z:(f9 h H).get? b=none:=PySem.W.hideAll_none (uN h H) hm;rw[z] at e;cases e
noncomputable def uO(g h:Heap)(L:Addr):List (Addr×Obj):=(List.range h.objs.size).filterMap λa=>if a=L\/(g.get? a).isSome=true then none else(h.get? a).map λo=>(a,o)
theorem HY{g h:Heap}{L a:Addr}{o:Obj}(h1:a≠L)(h2:g.get? a=none)(h3:h.get? a=some o):(a,o)∈uO g h L :=
 List.mem_filterMap.mpr ⟨a,List.mem_range.mpr (Heap.lt_size h3),by simp[h1,h2,h3]⟩
theorem Rk{g h:Heap}{L:Addr}{p:Addr×Obj}(hp:p∈uO g h L):p.1≠L/\g.get? p.1=none/\h.get? p.1=some p.2:=by
 obtain⟨b,_,e⟩:=List.mem_filterMap.mp hp;split at e
 ·cases e
 ·rename_i hn;cases q:h.get? b with
  | none=>rw[q] at e;simp at e
  | some u =>
   rw[q] at e;simp only[Option.map_some,Option.some.injEq] at e;subst e;refine⟨λz=>hn (.inl z),?_,q⟩
   show g.get? b=none;cases r:g.get? b with
   | none=>rfl
   | some v=>exact(hn (.inr (by simp[r]))).elim
noncomputable def rest(g h:Heap)(L d:Addr):List (Addr×Obj):=(uO g h L).filter λp=>decide (p.1≠d)
theorem uP{g h:Heap}{L d:Addr}:∀p∈rest g h L d,p.1≠d:=λp hp=>of_decide_eq_true (List.mem_filter.mp hp).2
theorem Rl{g h:Heap}{L d a:Addr}{o:Obj}(h1:a≠L)(h2:g.get? a=none)(h3:h.get? a=some o)(h4:a≠d):(a,o)∈rest g h L d :=
 List.mem_filter.mpr ⟨HY h1 h2 h3,decide_eq_true h4⟩
theorem AB{g h:Heap}{L:Addr}:News g L h (uO g h L):=λp hp=>let ⟨a,b,c⟩:=Rk hp;⟨c,a,b⟩
theorem news_at{g h:Heap}{L d:Addr}{o:Obj}(h1:d≠L)(h2:g.get? d=none)(h3:h.get? d=some o):News g L h ((d,o)::rest g h L d):=λp hp=>by
 rcases List.mem_cons.mp hp with rfl | hp
 ·exact⟨h3,h1,h2⟩
 ·exact AB p (List.mem_filter.mp hp).1
theorem uQ{g h h':Heap}{L d:Addr}{m:Str->Option Value}(k:∀b o,g.get? b=some o->h.get? b=some o)(F:Fr g L h' m)(N:News g L h' (rest g h L d)) :
  ∀b o,b≠L->b≠d->h.get? b=some o->h'.get? b=some o:=λb o h1 h2 e=>by
 cases q:g.get? b with
 | some u =>
  have:=k b u q;rw[e] at this;cases this;exact F.keep b _ q
 | none=>exact(N (b,o) (Rl h1 q e h2)).1
structure Mod(K:PySem.W.Frag)(mg:Str->Option Value)(base:Heap):Prop where
 ig:K.In base
 glob:base.Ns mainGlobals mg
 blt:∃mb,base.Ns builtinsNs mb/\∀x:Str,x≠"__name__"->mb x=bootBuiltins x
 nolimit:base.NoLimit
structure Cx where
 prog:Program
 w:World
 K:PySem.W.Frag
 mg:Str->Option Value
 base:Heap
 A:Around
 N:List Str
 aK:Shared
 cF:Hp
 env:Env
 outer:List Env
 stack:List Env
 ex:List Addr
 fn:Str->Bool
 calm:Bool
 pn:List (Addr×Obj)
 xe:Value->Shared->Prop
noncomputable def aX(l:List Env):List Addr:=l.filterMap (·.frame)
noncomputable abbrev Cx.fs(X:Cx):List Addr:=aX X.outer
noncomputable def AD(sc:Scope)(x:Str):Prop:=sc.names.lookup x=some .local\/sc.names.lookup x=some .cell\/sc.names.lookup x=some .free
noncomputable def Loc(sc:Scope)(x:Str):Prop:=sc.names.lookup x=some .local\/sc.names.lookup x=some .cell
noncomputable def Look(env:Env)(h:Heap)(m:Str->Option Value)(x:Str)(u:Value):Prop :=
 (env.kindOf x=some .local/\m x=some u)\/((env.kindOf x=some .cell\/env.kindOf x=some .free)/\∃c,env.cells.lookup x=some c/\h.IsCell c (some u))
structure Cx.Ok(X:Cx):Prop where
 mod:Mod X.K X.mg X.base
 kind:X.env.scope.kind = .function
 glob:X.env.globals=mainGlobals
 blt:X.env.builtins=builtinsNs
 above:X.aK.heap.objs.size<=X.env.locals
 inj:∀x y c,X.env.cells.lookup x=some c->X.env.cells.lookup y=some c->x=y
 has:∀x,(X.env.kindOf x=some .cell\/X.env.kindOf x=some .free)->∃c,X.env.cells.lookup x=some c
 l_:∀x c,X.fn x=true->X.env.cells.lookup x=some c->X.aK.heap.objs.size<=c
 hd:X.calm=true->X.A.handled=none
 frames:X.A.frames=some X.stack
 oH:X.stack=X.outer\/(X.stack=X.env::X.outer/\X.env.frame=some X.env.locals)
 kK:∀b∈X.ex,b≠X.env.locals/\∀x c,X.env.cells.lookup x=some c->c≠b
 bs:∀b o,X.base.get? b=some o->X.aK.heap.get? b=some o/\X.cF b=none
 eN:X.base.objs.size<=X.aK.heap.objs.size
 mh:∀b o,X.base.get? b=some o->b∉X.ex
 kL:∀b∈X.ex,b∉X.fs
 dP:X.aK.heap.FunFrames X.base X.outer
 fL:∀b∈X.fs,X.cF b=none
structure Inv(X:Cx)(pins:List (Addr×Obj))(σ:List (Option V))(H:Hp)(s:Shared):Prop where
 ok:X.Ok
 os:s.os=X.aK.os
 bare:AllBare s.gens
 base:Un X.fs X.ex X.cF H X.aK.heap s.heap
 loc:∃m,s.heap.Ns X.env.locals m/\∀(i:Nat) (x:Str) (v:V),X.N[i]? = some x->σ[i]? = some (some v)->AD X.env.scope x->∃u,RelV v u/\Look X.env s.heap m x u
 cell:∀x c,X.env.cells.lookup x=some c->∃v,s.heap.IsCell c v
 free:H X.env.locals=none
 fu:∀x c,X.env.cells.lookup x=some c->H c=none
 pin:∀p∈X.pn++pins,s.heap.get? p.1=some p.2/\H p.1=none/\p.1≠X.env.locals/\p.1∉X.fs/\∀v,p.2.data≠.cell v
 az:bQ X.prog X.w H s.heap
 len:σ.length=X.N.length
section
variable{X:Cx}{pins:List (Addr×Obj)}{σ:List (Option V)}{H H':Hp}{s:Shared}{h':Heap}
theorem Cx.Ok.Rm(ok:X.Ok){b:Addr}{o:Obj}(e:X.base.get? b=some o):b∉X.fs:=λhb=>by
 have:=(ok.dP.mem hb).1;rw[e] at this;cases this
theorem Inv.bs(I:Inv X pins σ H s):∀b o,X.base.get? b=some o->s.heap.get? b=some o/\H b=none:=λb o e =>
 ⟨I.base.keep b o (I.ok.bs b o e).1 (I.ok.bs b o e).2 (I.ok.Rm e) (I.ok.mh b o e),I.base.free b o (I.ok.bs b o e).1 (I.ok.bs b o e).2 (I.ok.mh b o e)⟩
theorem Inv.bk(I:Inv X pins σ H s):∀b o,X.base.get? b=some o->s.heap.get? b=some o:=λb o e=>(I.bs b o e).1
theorem Inv.mod(I:Inv X pins σ H s):Mod X.K X.mg X.base:=I.ok.mod
theorem Inv.bC(I:Inv X pins σ H s):X.K.In s.heap:=I.ok.mod.ig.keeps I.bk
theorem Inv.nolimit(I:Inv X pins σ H s):s.heap.NoLimit:=I.ok.mod.nolimit.keeps I.bk
theorem Inv.fr(I:Inv X pins σ H s):∃m,Fr X.base X.env.locals s.heap m :=
 let ⟨m,hn,_⟩:=I.loc
 ⟨m,hn,I.bk,Nat.le_trans I.ok.eN I.ok.above⟩
theorem Inv.lt(I:Inv X pins σ H s):X.env.locals<s.heap.objs.size:=let ⟨_,hn,_⟩:=I.loc;hn.lt
theorem Inv.sz(I:Inv X pins σ H s):X.aK.heap.objs.size<=s.heap.objs.size:=Nat.le_trans I.ok.above (Nat.le_of_lt I.lt)
theorem Inv.ql(I:Inv X pins σ H s){a:Addr}(h:s.heap.objs.size<=a):a∉X.fs:=λhb=>by
 obtain⟨_,o,ho,_⟩:=I.ok.dP.mem hb;exact absurd (Nat.lt_of_lt_of_le (Heap.lt_size ho) (Nat.le_trans I.sz h)) (Nat.lt_irrefl _)
theorem Inv.iQ(I:Inv X pins σ H s):∀x c,X.env.cells.lookup x=some c->c≠X.env.locals:=λx c e z=>by
 obtain⟨v,o,ho,hd⟩:=I.cell x c e;obtain⟨m,⟨o',es,ep,f_,cJ,_⟩,_⟩:=I.loc;rw[z,f_] at ho;cases ho;rw[cJ] at hd;cases hd
theorem Inv.dP(I:Inv X pins σ H s):s.heap.FunFrames X.base X.outer:=by
 have all:∀(l:List Env),(∀b∈aX l,b∈X.fs)->X.aK.heap.FunFrames X.base l->s.heap.FunFrames X.base l:=by
  intro l
  induction l with
  | nil=>intro _ _;trivial
  | cons env r ih =>
   intro hs hl;obtain⟨hk,⟨L,o,hf,hn,ho,hd⟩,hr⟩:=hl;have hL:L∈X.fs:=hs L (by unfold aX;rw[List.filterMap_cons,hf];exact List.mem_cons_self)
   obtain⟨sl,e⟩:=I.base.slot L o ho (I.ok.fL L hL) hL λz=>I.ok.kL L z hL;exact⟨hk,⟨L,_,hf,hn,e,hd⟩,ih (λb hb=>hs b (by unfold aX;rw[List.filterMap_cons,hf];exact List.mem_cons_of_mem _ hb)) hr⟩
 exact all X.outer (λ_ hb=>hb) I.ok.dP
theorem Inv.stack(I:Inv X pins σ H s):s.heap.FunFrames X.base X.stack:=by
 rcases I.ok.oH with e | ⟨e,hf⟩
 ·rw[e];exact I.dP
 ·rw[e];obtain⟨m,hn,_⟩:=I.loc;refine .cons (by rw[I.ok.kind];decide) hf hn ?_ I.dP
  exact Heap.get?_none_of_le (Nat.le_trans I.ok.eN I.ok.above)
theorem Inv.AE(I:Inv X pins σ H s):∀b∈aX X.stack,b∈X.env.locals::X.fs:=λb hb=>by
 rcases I.ok.oH with e | ⟨e,hf⟩
 ·rw[e] at hb;exact List.mem_cons_of_mem _ hb
 ·rw[e] at hb;unfold aX at hb;rw[List.filterMap_cons,hf] at hb;exact hb
theorem Inv.qm(I:Inv X pins σ H s):∀b∈aX X.stack,H b=none:=λb hb=>by
 rcases List.mem_cons.mp (I.AE b hb) with e | hb
 ·rw[e];exact I.free
 ·obtain⟨_,o,ho,_⟩:=I.ok.dP.mem hb;exact I.base.free b o ho (I.ok.fL b hb) λz=>I.ok.kL b z hb
theorem Inv.step{g':Array GenState}{t':Nat}{d':Drawn}{ch:List Addr}(I:Inv X pins σ H s)
  (jo:∀b∈ch,(b∈X.ex\/X.aK.heap.objs.size<=b)/\b≠X.env.locals/\(∀x c,X.env.cells.lookup x=some c->c≠b)/\∀p∈X.pn++pins,p.1≠b)
  (keep:∀b o,b≠X.env.locals->b∉X.fs->b∉ch->s.heap.get? b=some o->H b=none->h'.get? b=some o)
  (slot:∀b o,b≠X.env.locals->b∈X.fs->b∉ch->s.heap.get? b=some o->H b=none->∃sl,h'.get? b=some { o with slots:=sl }) (free:∀b o,b∉ch->s.heap.get? b=some o->H b=none->H' b=none)
  (there:∀b o,b∉ch->s.heap.get? b=some o->∃o',h'.get? b=some o')
  (eZ:∀b xs,H b=some (.tup xs)->H' b=some (.tup xs)) (d9:∀b o u,H b=some (.eG o u)->H' b=some (.eG o u)) (eK:∀b ps,H b=some (.dm ps)->∃more,H' b=some (.dm (ps++more)))
  (ns:∀m,s.heap.Ns X.env.locals m->h'.Ns X.env.locals m) (az:bQ X.prog X.w H' h') (hg:AllBare g') :
  Inv X pins σ H' { s with heap:=h',gens:=g',drawn:=d',toks:=t' }:=by
 have HZ:∀b o,X.aK.heap.get? b=some o->b≠X.env.locals:=λb o e=>Nat.ne_of_lt (Nat.lt_of_lt_of_le (Heap.lt_size e) I.ok.above);have uR:∀b o,X.aK.heap.get? b=some o->b∉X.ex->b∉ch:=λb o e hx hb=>by
  rcases(jo b hb).1 with z | z
  ·exact hx z
  ·exact absurd (Nat.lt_of_lt_of_le (Heap.lt_size e) z) (Nat.lt_irrefl _)
 have cellK:∀x c,X.env.cells.lookup x=some c->∀v,s.heap.IsCell c v->h'.IsCell c v:=λx c e v ⟨o,ho,hd⟩=>by
  have qo:c∉ch:=λz=>(jo c z).2.2.1 x c e rfl;by_cases hc:c∈X.fs
  ·obtain⟨sl,q⟩:=slot c o (I.iQ x c e) hc qo ho (I.fu x c e);exact⟨_,q,hd⟩
  ·exact⟨o,keep c o (I.iQ x c e) hc qo ho (I.fu x c e),hd⟩
 refine⟨I.ok,I.os,hg,⟨λb o e n hb hx=>?_,λb o e n hb hx=>?_,λb o e n hx=>?_,λb o e hx=>?_,λb xs e=>eZ b xs (I.base.eZ b xs e),λb o xs e=>d9 b o xs (I.base.d9 b o xs e),λb ps e=>?_⟩,?_,λx c e=>?_,?_,λx c e=>?_,λp hp=>?_,az,I.len⟩
 ·exact keep b o (HZ b o e) hb (uR b o e hx) (I.base.keep b o e n hb hx) (I.base.free b o e n hx)
 ·obtain⟨sl,e1⟩:=I.base.slot b o e n hb hx;obtain⟨Rn,e2⟩:=slot b _ (HZ b o e) hb (uR b o e hx) e1 (I.base.free b o e n hx);exact⟨Rn,e2⟩
 ·obtain⟨o',e1⟩:=I.base.there b o e hx;exact free b o' (uR b o e hx) e1 (I.base.free b o e n hx)
 ·obtain⟨o',e1⟩:=I.base.there b o e hx;exact there b o' (uR b o e hx) e1
 ·obtain⟨m1,e1⟩:=I.base.eK b ps e;obtain⟨m2,e2⟩:=eK b _ e1;exact⟨m1++m2,by rw[e2,Array.append_assoc]⟩
 ·obtain⟨m,hn,hl⟩:=I.loc;refine⟨m,ns m hn,λi x v e1 e2 e3=>?_⟩;obtain⟨u,r,l⟩:=hl i x v e1 e2 e3;refine⟨u,r,?_⟩;rcases l with l | ⟨k,c,e,z⟩
  ·exact .inl l
  ·exact .inr ⟨k,c,e,cellK x c e _ z⟩
 ·obtain⟨v,z⟩:=I.cell x c e;exact⟨v,cellK x c e v z⟩
 ·obtain⟨m,⟨o,_,_,ho,_⟩,_⟩:=I.loc;exact free _ o (λz=>(jo _ z).2.1 rfl) ho I.free
 ·obtain⟨v,o,ho,hd⟩:=I.cell x c e;exact free c o (λz=>(jo c z).2.2.1 x c e rfl) ho (I.fu x c e)
 ·obtain⟨e,n,ne,nf,d⟩:=I.pin p hp;have qo:p.1∉ch:=λz=>(jo p.1 z).2.2.2 p hp rfl;exact⟨keep p.1 p.2 ne nf qo e n,free p.1 p.2 qo e n,ne,nf,d⟩
theorem Inv.un{t':Nat}(I:Inv X pins σ H s)(u:Un X.fs [] H H' s.heap h')(az:bQ X.prog X.w H' h'):Inv X pins σ H' { s with heap:=h',toks:=t' }:=by
 obtain⟨m,⟨o,es,ep,ho,r⟩,_⟩:=id I.loc;obtain⟨sl,hL⟩:=u.any ho I.free (by simp)
 exact I.step (g':=s.gens) (d':=s.drawn) (ch:=[]) (λ_ z=>nomatch z) (λb o _ hb _ e n=>u.keep b o e n hb (by simp)) (λb o _ hb _ e n=>u.slot b o e n hb (by simp)) (λb o _ e n=>u.free b o e n (by simp)) (λb o _ e=>u.there b o e (by simp)) u.eZ u.d9 u.eK (λm' hm=>by
  obtain⟨o',gU,jq,f_,r'⟩:=hm;rw[ho] at f_;cases f_;exact⟨_,gU,jq,hL,r'⟩) az I.bare
theorem Inv.call{g':Array GenState}{t':Nat}{d':Drawn}{ch:List Addr}(I:Inv X pins σ H s)(u:Un (aX X.stack) ch H H' s.heap h')(az:bQ X.prog X.w H' h')(hg:AllBare g')
  (jo:∀b∈ch,(b∈X.ex\/X.aK.heap.objs.size<=b)/\b≠X.env.locals/\(∀x c,X.env.cells.lookup x=some c->c≠b)/\∀p∈X.pn++pins,p.1≠b) :
  Inv X pins σ H' { s with heap:=h',gens:=g',drawn:=d',toks:=t' }:=by
 obtain⟨m,⟨o,es,ep,ho,r⟩,_⟩:=id I.loc;obtain⟨sl,hL⟩:=u.any ho I.free λz=>(jo _ z).2.1 rfl;exact I.step (ch:=ch) jo (λb o hL hb hc e n=>u.keep b o e n (λz=>(List.mem_cons.mp (I.AE b z)).elim hL hb) hc) (λb o _ _ hc e n=>u.any e n hc) (λb o hc e n=>u.free b o e n hc) (λb o hc e=>u.there b o e hc) u.eZ u.d9 u.eK (λm' hm=>by
  obtain⟨o',gU,jq,f_,r'⟩:=hm;rw[ho] at f_;cases f_;exact⟨_,gU,jq,hL,r'⟩) az hg
theorem Inv.turned{t':Nat}{it:Addr}(I:Inv X pins σ H s)(k:∀b o,b≠it->s.heap.get? b=some o->h'.get? b=some o)(hn:H it=none)(hL:it≠X.env.locals)
  (h1:it∈X.ex\/X.aK.heap.objs.size<=it) (h2:∀x c,X.env.cells.lookup x=some c->c≠it) (h3:∀p∈X.pn++pins,p.1≠it):Inv X pins σ H { s with heap:=h',toks:=t' }:=by
 have qp:∀b u,H b=some u->b≠it:=λb u e z=>by rw[z,hn] at e;cases e
 refine I.step (g':=s.gens) (d':=s.drawn) (ch:=[it]) (λb hb=>?_) (λb o _ _ hc e _=>k b o (λz=>hc (by simp[z])) e) (λb o _ _ hc e _=>⟨o.slots,k b o (λz=>hc (by simp[z])) e⟩) (λ_ _ _ _ n=>n)
  (λb o hc e=>⟨o,k b o (λz=>hc (by simp[z])) e⟩) (λ_ _ e=>e) (λ_ _ _ e=>e) (λb ps e=>⟨#[],by rw[e];simp⟩) (λm hm=>?_) (λb u e=>?_) I.bare
 ·have e:b=it:=by simpa using hb
  subst e;exact⟨h1,hL,h2,h3⟩
 ·obtain⟨o,es,ep,ho,r⟩:=hm;exact⟨o,es,ep,k _ o (Ne.symm hL) ho,r⟩
 ·refine(I.az b u e).d8 (λc v hc q=>k c v ?_ q) (λ_ q=>q) λ_ _ q=>q;rcases hc with z | z
  ·rw[z];exact qp b u e
  ·exact qp c _ z
theorem Inv.tok(I:Inv X pins σ H s)(t:Nat):Inv X pins σ H { s with toks:=t }:=I.un (h':=s.heap) (t':=t) Un.refl I.az
theorem Inv.kept{t':Nat}(I:Inv X pins σ H s)(k:∀b u,s.heap.get? b=some u->h'.get? b=some u):Inv X pins σ H { s with heap:=h',toks:=t' }:=I.un (Un.kept k) (I.az.kept k)
theorem Inv.laid{a:Addr}{o:HO}{t':Nat}(I:Inv X pins σ H s)(k:∀b u,s.heap.get? b=some u->h'.get? b=some u)(hp:s.heap.objs.size<=a)(new:bW X.prog X.w (upd H a o) h' a o) :
  Inv X pins σ (upd H a o) { s with heap:=h',toks:=t' }:=I.un (Un.laid k hp (I.az.fresh hp)) (I.az.laid k hp new)
theorem Inv.write{x e:Addr}{o:HO}{t':Nat}(I:Inv X pins σ H s)(mu:qk (H x))(he:e=x\/H e=some (.own x))(k:∀b u,b≠e->s.heap.get? b=some u->h'.get? b=some u)(oG:∃u,h'.get? e=some u)
  (new:bW X.prog X.w (upd H x o) h' x o):Inv X pins σ (upd H x o) { s with heap:=h',toks:=t' }:=I.un (Un.write mu he k oG) (I.az.write mu he k oG new)
theorem Inv.jr{AF:List (Addr×Obj)}(I:Inv X pins σ H s)(h:∀p∈AF,s.heap.get? p.1=some p.2/\H p.1=none/\p.1≠X.env.locals/\p.1∉X.fs/\∀v,p.2.data≠.cell v):Inv X AF σ H s :=
 ⟨I.ok,I.os,I.bare,I.base,I.loc,I.cell,I.free,I.fu,λp hp=>(List.mem_append.mp hp).elim (λz=>I.pin p (List.mem_append_left _ z)) (h p),I.az,I.len⟩
theorem AG{N:List Str}(hN:N.Nodup){i j:Nat}{x:Str}(a:N[i]? = some x)(b:N[j]? = some x):i=j:=by
 obtain⟨h1,e1⟩:=List.getElem?_eq_some_iff.mp a;obtain⟨h2,e2⟩:=List.getElem?_eq_some_iff.mp b;exact(List.getElem_inj hN).mp (e1.trans e2.symm)
theorem H_{M:Model}{A:Around}{E:Value->Shared->Prop}{i:Nat}{x:Str}{v:V}{u:Value}{Q:Unit->Shared->Prop}(I:Inv X pins σ H s)(hN:X.N.Nodup)(hi:X.N[i]? = some x)(hx:Loc X.env.scope x)(r:RelV v u)
  (h:∀s',Inv X pins (σ.set i (some v)) H s'->(∃a,Heap.SameBut a s.heap s'.heap/\(a=X.env.locals\/X.env.cells.lookup x=some a))->Q () s') (hf:X.fn x=true\/X.env.scope.names.lookup x=some .local:=by first | exact .inl rfl | exact .inr rfl | assumption):wpAny M A (storeName X.env x u) Q E s:=by
 obtain⟨m,hn,hl⟩:=id I.loc;have mj:(X.env.scope.kind == .class || (X.env.scope.kind == .module && X.env.locals != X.env.globals))=false:=by rw[I.ok.kind];rfl
 have Ia:i<σ.length:=by rw[I.len];exact(List.getElem?_eq_some_iff.mp hi).1
 have iQ:=I.iQ;have tracked:∀ {a:Addr} {h':Heap},(∃o,s.heap.get? a=some o/\H a=none)->Heap.SameBut a s.heap h'->bQ X.prog X.w H h':=λ{a h'} ha hs b ob e=>by
  obtain⟨_,_,Ib⟩:=ha;refine(I.az b ob e).d8 (λc w' hc q=>(hs.2 c ?_).trans q) (λ_ q=>q) λ_ _ q=>q;rintro rfl;rcases hc with rfl | hc
  ·rw[Ib] at e;cases e
  ·rw[Ib] at hc;cases hc
 rcases hx with hk | hk
 ·refine wpAny_storeName_local hk hn (λh' fM hs=>?_) mj;obtain⟨oL,_,_,jt,_⟩:=id hn;refine h _ ⟨I.ok,I.os,I.bare,⟨λb o e n hb hx=>?_,λb o e n hb hx=>?_,I.base.free,λb o e hx=>?_,I.base.eZ,I.base.d9,I.base.eK⟩,⟨_,fM,λj y v' e1 e2 e3=>?_⟩,λy c e=>?_,I.free,I.fu,λp hp=>?_,tracked ⟨oL,jt,I.free⟩ hs,by simpa using I.len⟩ ⟨_,hs,.inl rfl⟩
  ·exact(hs.2 b (Nat.ne_of_lt (Nat.lt_of_lt_of_le (Heap.lt_size e) I.ok.above))).trans (I.base.keep b o e n hb hx)
  ·obtain⟨sl,e1⟩:=I.base.slot b o e n hb hx;exact⟨sl,(hs.2 b (Nat.ne_of_lt (Nat.lt_of_lt_of_le (Heap.lt_size e) I.ok.above))).trans e1⟩
  ·obtain⟨o',e1⟩:=I.base.there b o e hx;exact⟨o',(hs.2 b (Nat.ne_of_lt (Nat.lt_of_lt_of_le (Heap.lt_size e) I.ok.above))).trans e1⟩
  ·by_cases hj:j=i
   ·subst hj;rw[hi] at e1;cases e1;rw[List.getElem?_set_self Ia] at e2;cases e2;exact⟨u,r,.inl ⟨hk,by simp⟩⟩
   ·rw[List.getElem?_set_ne (Ne.symm hj)] at e2;obtain⟨u',r',q⟩:=hl j y v' e1 e2 e3;refine⟨u',r',?_⟩;rcases q with⟨k,e⟩ | ⟨k,c,e,z⟩
    ·refine .inl ⟨k,?_⟩;have:y≠x:=λe=>hj (AG hN e1 (e▸hi));simp[this,e]
    ·exact .inr ⟨k,c,e,z.sameBut hs (iQ y c e)⟩
  ·obtain⟨w',z⟩:=I.cell y c e;exact⟨w',z.sameBut hs (iQ y c e)⟩
  ·obtain⟨e,n,ne,nf,d⟩:=I.pin p hp;exact⟨(hs.2 p.1 ne).trans e,n,ne,nf,d⟩
 ·have AH:X.fn x=true:=by
   rcases hf with z | z
   ·exact z
   ·rw[z] at hk;cases hk
  obtain⟨c,hc⟩:=I.ok.has x (.inl hk);obtain⟨w',z⟩:=I.cell x c hc;refine wpAny_storeName_cell I.ok.kind hk hc z (λh' mq hs=>?_);obtain⟨oc,Ic,Ro⟩:=id z;refine h { s with heap:=h' } ⟨I.ok,I.os,I.bare,⟨λb o e n hb hx=>?_,λb o e n hb hx=>?_,I.base.free,λb o e hx=>?_,I.base.eZ,I.base.d9,I.base.eK⟩,⟨m,hn.sameBut hs (Ne.symm (iQ x c hc)),λj y v' e1 e2 e3=>?_⟩,λy c' e=>?_,I.free,I.fu,λp hp=>?_,tracked ⟨oc,Ic,I.fu x c hc⟩ hs,by simpa using I.len⟩ ⟨c,hs,.inr hc⟩
  ·exact(hs.2 b (Nat.ne_of_lt (Nat.lt_of_lt_of_le (Heap.lt_size e) (I.ok.l_ x c AH hc)))).trans (I.base.keep b o e n hb hx)
  ·obtain⟨sl,e1⟩:=I.base.slot b o e n hb hx;exact⟨sl,(hs.2 b (Nat.ne_of_lt (Nat.lt_of_lt_of_le (Heap.lt_size e) (I.ok.l_ x c AH hc)))).trans e1⟩
  ·obtain⟨o',e1⟩:=I.base.there b o e hx;exact⟨o',(hs.2 b (Nat.ne_of_lt (Nat.lt_of_lt_of_le (Heap.lt_size e) (I.ok.l_ x c AH hc)))).trans e1⟩
  ·by_cases hj:j=i
   ·subst hj;rw[hi] at e1;cases e1;rw[List.getElem?_set_self Ia] at e2;cases e2;exact⟨u,r,.inr ⟨.inl hk,c,hc,mq⟩⟩
   ·rw[List.getElem?_set_ne (Ne.symm hj)] at e2;obtain⟨u',r',q⟩:=hl j y v' e1 e2 e3;refine⟨u',r',?_⟩;rcases q with q | ⟨k,c',e,z'⟩
    ·exact .inl q
    ·refine .inr ⟨k,c',e,z'.sameBut hs ?_⟩;rintro rfl;exact hj (AG hN e1 (I.ok.inj _ _ _ e hc▸hi))
  ·by_cases uS:c' = c
   ·subst uS;exact⟨_,mq⟩
   ·obtain⟨w2,z2⟩:=I.cell y c' e;exact⟨w2,z2.sameBut hs uS⟩
  ·obtain⟨e,n,ne,nf,d⟩:=I.pin p hp;refine⟨(hs.2 p.1 ?_).trans e,n,ne,nf,d⟩;intro q;rw[q,Ic] at e;have q':oc=p.2:=Option.some.inj e;exact d w' (by rw[← q'];exact Ro)
theorem uT{M:Model}{A:Around}{E:Value->Shared->Prop}{i:Nat}{x:Str}{v:V}{u:Value}{Q:Unit->Shared->Prop}(I:Inv X pins σ H s)(hN:X.N.Nodup)(hi:X.N[i]? = some x)(hx:Loc X.env.scope x)(r:RelV v u)
  (h:∀s',Inv X pins (σ.set i (some v)) H s'->Q () s') (hf:X.fn x=true\/X.env.scope.names.lookup x=some .local:=by first | exact .inl rfl | exact .inr rfl | assumption):wpAny M A (storeName X.env x u) Q E s :=
 H_ I hN hi hx r (λs' I' _=>h s' I') hf
theorem Inv.kM{s':Shared}{ch:List Addr}(I:Inv X pins σ H s)(ho:s'.os=s.os)(u:Un (aX X.stack) ch H H' s.heap s'.heap)(az:bQ X.prog X.w H' s'.heap)(hg:AllBare s'.gens)
  (jo:∀b∈ch,(b∈X.ex\/X.aK.heap.objs.size<=b)/\b≠X.env.locals/\(∀x c,X.env.cells.lookup x=some c->c≠b)/\∀p∈X.pn++pins,p.1≠b):Inv X pins σ H' s':=by
 obtain⟨h',g',d',t',o'⟩:=s';have e:o' = s.os:=ho;subst e;exact I.call (g':=g') (t':=t') (d':=d') u az hg jo
end
noncomputable abbrev XK:=Value->Option Addr->Hp->Prop
noncomputable abbrev St:=List (Option V)
noncomputable abbrev VK:=V->Hp->Prop
noncomputable abbrev TE:=St->Hp->VK->Prop
noncomputable abbrev TT:=St->Hp->(Bool->Hp->Prop)->Prop
noncomputable abbrev TA:=St->Hp->(List V->Hp->Prop)->Prop
structure Ends where
 nx:St->Hp->Prop
 rt:VK
 bk:St->Hp->Prop:=λ_ _=>False
 ct:St->Hp->Prop:=λ_ _=>False
noncomputable abbrev TS:=Ends->St->Hp->Prop
noncomputable def EP(X:Cx)(pins:List (Addr×Obj))(σ:St)(Q:VK)(u:Value)(s':Shared):Prop:=∃v H',Inv X pins σ H' s'/\RelV v u/\Q v H'
noncomputable def TP(X:Cx)(pins:List (Addr×Obj))(σ:St)(Q:Bool->Hp->Prop)(b:Bool)(s':Shared):Prop:=∃H',Inv X pins σ H' s'/\Q b H'
noncomputable def AP(X:Cx)(pins:List (Addr×Obj))(σ:St)(Q:List V->Hp->Prop)(us:List Value)(s':Shared):Prop:=∃vs H',Inv X pins σ H' s'/\Vals vs us/\Q vs H'
noncomputable def SP(X:Cx)(pins:List (Addr×Obj))(D:Ends)(f:Flow)(s':Shared):Prop :=
 match f with
 | .next=>∃aR H',Inv X pins aR H' s'/\D.nx aR H'
 | .brk=>∃aR H',Inv X pins aR H' s'/\D.bk aR H'
 | .cont=>∃aR H',Inv X pins aR H' s'/\D.ct aR H'
 | .ret u=>∃v aR H',Inv X pins aR H' s'/\RelV v u/\D.rt v H'
noncomputable def PE(X:Cx)(e:Expr)(t:TE):Prop :=
 ∀(pins:List (Addr×Obj)) (s:Shared) (σ:St) (H:Hp) (Q:VK),Inv X pins σ H s->t σ H Q->wpAny (model X.prog X.w) X.A (eval e X.env) (EP X pins σ Q) X.xe s
noncomputable def PT(X:Cx)(e:Expr)(t:TT):Prop :=
 ∀(pins:List (Addr×Obj)) (s:Shared) (σ:St) (H:Hp) (Q:Bool->Hp->Prop),Inv X pins σ H s->t σ H Q->wpAny (model X.prog X.w) X.A (isTrue e X.env (eval e X.env)) (TP X pins σ Q) X.xe s
noncomputable def PW(X:Cx)(e:Expr)(t:TT):Prop :=
 ∀(whole:Sem Value) (pins:List (Addr×Obj)) (s:Shared) (σ:St) (H:Hp) (Q:Bool->Hp->Prop),Inv X pins σ H s->t σ H Q->wpAny (model X.prog X.w) X.A (isTrue e X.env whole) (TP X pins σ Q) X.xe s
theorem PW.pt{X:Cx}{e:Expr}{t:TT}(h:PW X e t):PT X e t:=h _
noncomputable def PA(X:Cx)(es:List Expr)(t:TA):Prop :=
 ∀(pos:Pos) (pins:List (Addr×Obj)) (s:Shared) (σ:St) (H:Hp) (Q:List V->Hp->Prop),Inv X pins σ H s->t σ H Q->wpAny (model X.prog X.w) X.A (spliced (backTo pos (starEach es X.env))) (AP X pins σ Q) X.xe s
noncomputable def PS(X:Cx)(st:Stmt)(t:TS):Prop :=
 ∀(pins:List (Addr×Obj)) (s:Shared) (σ:St) (H:Hp) (D:Ends),Inv X pins σ H s->t D σ H->wpAny (model X.prog X.w) X.A (exec st X.env) (SP X pins D) X.xe s
noncomputable def eO(X:Cx)(st:List Stmt)(t:TS):Prop :=
 ∀(pins:List (Addr×Obj)) (s:Shared) (σ:St) (H:Hp) (D:Ends),Inv X pins σ H s->t D σ H->wpAny (model X.prog X.w) X.A (execs st X.env) (SP X pins D) X.xe s
theorem aN{α:Type}{t:Sem α}{Q Q':α->Shared->Prop}{M:Model}{A:Around}{E:Value->Shared->Prop}{s:Shared}(h:wpAny M A t Q E s)(hQ:∀a s,Q a s->Q' a s):wpAny M A t Q' E s:=wpAny_mono h hQ λ_ _ x=>x
section
variable{X:Cx}
theorem bin{a b:Expr}{ta tb:TE}(ha:PE X a ta)(hb:PE X b tb){pins:List (Addr×Obj)}{s:Shared}{σ:St}{H:Hp}{R:V->V->Hp->Prop}(I:Inv X pins σ H s)(h:ta σ H λx H1=>tb σ H1 λy H2=>R x y H2)
  {α:Type} {Q:α->Shared->Prop} {f:Value->Value->Sem α}
  (hf:∀v u s2 x y H2,Inv X pins σ H2 s2->RelV x v->RelV y u->R x y H2->wpAny (model X.prog X.w) X.A (f v u) Q X.xe s2) :
  wpAny (model X.prog X.w) X.A (eval a X.env) (λv aE=>wpAny (model X.prog X.w) X.A (eval b X.env) (λu cB=>wpAny (model X.prog X.w) X.A (f v u) Q X.xe cB) X.xe aE) X.xe s:=by
 refine aN (ha pins s σ H _ I h) λv s1 ⟨x,H1,I1,r1,q1⟩=>?_;refine aN (hb pins s1 σ H1 _ I1 q1) λu s2 ⟨y,H2,I2,r2,q2⟩=>?_;exact hf v u s2 x y H2 I2 r1 r2 q2
noncomputable def uU(i:Nat):TE:=λσ H Q=>∃v,σ[i]? = some (some v)/\Q v H
noncomputable def tC(v:V):TE:=λ_ H Q=>Q v H
theorem Rp{i:Nat}{x:Str}{pos:Pos}(hN:X.N[i]? = some x)(hv:AD X.env.scope x)(hd:(x == ("__debug__" : Str))=false:=by decide)(cu:(x == ("__classdict__" : Str))=false:=by decide):PE X (.Name x pos) (uU i):=by
 intro pins s σ H Q I h;obtain⟨v,e,h⟩:=h;obtain⟨m,hn,hl⟩:=I.loc;obtain⟨u,r,l⟩:=hl i x v hN e hv;have fin:EP X pins σ Q u s:=⟨v,H,I,r,h⟩;rcases l with⟨hk,hm⟩ | ⟨hk,c,hc,Ie⟩
 ·exact wpAny_Name (wpAny_loadName_local I.ok.kind hk hn hm fin) hd
 ·rcases hk with hk | hk
  ·exact wpAny_Name (wpAny_loadName_cell I.ok.kind hk hc Ie fin) hd
  ·exact wpAny_Name (wpAny_loadName_free I.ok.kind hk hc Ie fin cu) hd
theorem ao{i j pos}:PE X (.Constant (.int i) j pos) (tC (.int i)):=λ_ _ _ H _ I h=>wpAny_Constant_int ⟨.int i,H,I.tok _,⟨_,rfl⟩,h⟩
theorem fy{b j pos}:PE X (.Constant (.bool b) j pos) (tC (.bl b)):=λ_ _ _ H _ I h=>Constant_bool ⟨.bl b,H,I,rfl,h⟩
theorem ju{j pos}:PE X (.Constant .none j pos) (tC .aG):=λ_ _ _ H _ I h=>Constant_none ⟨.aG,H,I,rfl,h⟩
theorem cM{x j pos}:PE X (.Constant (.str x) j pos) (tC (.str x)):=λ_ _ _ H _ I h=>Calls.Constant_str ⟨.str x,H,I.tok _,⟨_,rfl⟩,h⟩
noncomputable def Gl(X:Cx)(x:Str):Prop:=X.env.kindOf x=some .globalImplicit
theorem iR{E:Value->Shared->Prop}{pins:List (Addr×Obj)}{s:Shared}{σ:St}{H:Hp}{x:Str}{u:Value}{pos:Pos}{Q:Value->Shared->Prop}(I:Inv X pins σ H s)(hg:Gl X x)(hm:X.mg x=some u)(h:Q u s)
  (hd:(x == ("__debug__" : Str))=false:=by decide):wpAny (model X.prog X.w) X.A (eval (.Name x pos) X.env) Q E s :=
 Calls.Name_function_global I.ok.kind hg (Calls.loadGlobal_global (by rw[I.ok.glob];exact I.mod.glob.keeps I.bk) hm h) hd
theorem kN{E:Value->Shared->Prop}{pins:List (Addr×Obj)}{s:Shared}{σ:St}{H:Hp}{x:Str}{u:Value}{pos:Pos}{Q:Value->Shared->Prop}(I:Inv X pins σ H s)(hg:Gl X x)(hm:X.mg x=none)(hv:bootBuiltins x=some u)(h:Q u s)
  (hn:x≠"__name__" := by decide) (hd:(x == ("__debug__" : Str))=false:=by decide):wpAny (model X.prog X.w) X.A (eval (.Name x pos) X.env) Q E s:=by
 obtain⟨mb,h1,h2⟩:=I.mod.blt;exact Calls.Name_function_global I.ok.kind hg (Calls.loadGlobal_builtin (by rw[I.ok.glob];exact I.mod.glob.keeps I.bk) hm (by rw[I.ok.blt];exact h1.keeps I.bk) ((h2 x hn).trans hv) h) hd
theorem fz{x:Str}{v:V}{u:Value}{pos:Pos}(hg:Gl X x)(hm:X.mg x=some u)(r:RelV v u)(hd:(x == ("__debug__" : Str))=false:=by decide):PE X (.Name x pos) (tC v) :=
 λ_ _ _ H _ I h=>iR I hg hm ⟨v,H,I,r,h⟩ hd
theorem ir{x:Str}{v:V}{u:Value}{pos:Pos}(hg:Gl X x)(hm:X.mg x=none)(hv:bootBuiltins x=some u)(r:RelV v u)(hn:x≠"__name__" := by decide)(hd:(x == ("__debug__" : Str))=false:=by decide):PE X (.Name x pos) (tC v) :=
 λ_ _ _ H _ I h=>kN I hg hm hv ⟨v,H,I,r,h⟩ hn hd
variable{a b:Expr}{ta tb:TE}{pos:Pos}
noncomputable def PC(X:Cx)(op:CmpOp)(a b:Expr)(t:TE):Prop :=
 ∀(pins:List (Addr×Obj)) (s:Shared) (σ:St) (H:Hp) (Q:VK),Inv X pins σ H s->t σ H Q->
  wpAny (model X.prog X.w) X.A (eval a X.env) (λv aE=>wpAny (model X.prog X.w) X.A (eval b X.env) (λu cB=>wpAny (model X.prog X.w) X.A (compareOp op v u) (EP X pins σ Q) X.xe cB) X.xe aE) X.xe s
theorem Rq(b:Expr){op:CmpOp}(h:op≠.In)(h2:op≠.NotIn):behindInMarks op b=false:=by
 have e1:(op == CmpOp.In)=false:=by cases op <;> first | rfl | exact absurd rfl h
 have e2:(op == CmpOp.NotIn)=false:=by cases op <;> first | rfl | exact absurd rfl h2
 cases b <;> simp[behindInMarks,e1,e2]
noncomputable def tB(t:TE):TT:=λσ H Q=>t σ H λx H1=>∃c,x = .bl c/\Q c H1
theorem AI{op:CmpOp}{t:TE}(h:PC X op a b t)(h1:behindInMarks op b=false:=by first | exact Rq _ (by decide) (by decide) | rfl):PT X (.Compare a [op] [b] pos) (tB t):=by
 intro pins s σ H Q I hw;refine wpAny_isTrue_Compare1 (aN (h pins s σ H _ I hw) λv s1 h1=>aN h1 λu s2 h2=>aN h2 λc s3 ⟨x,H1,I1,r1,q1⟩=>?_) h1;obtain⟨d,rfl,q⟩:=q1;cases r1;exact wpAny_truthy_bool ⟨H1,I1,q⟩
theorem kO{e:Expr}{t:TE}(h:PE X e t)(he:∀whole,isTrue e X.env whole=(do let v ← whole;standAt e.pos;holding [v] (truthy v)):=by intro _;rfl):PT X e (tB t):=by
 intro pins s σ H Q I hw;refine isTrue_plain (aN (h pins s σ H _ I hw) λv s1 ⟨x,H1,I1,r1,q1⟩=>?_) (he _);obtain⟨d,rfl,q⟩:=q1;cases r1;exact wpAny_truthy_bool ⟨H1,I1,q⟩
variable{tA Ig:TT}{rest:List Expr}
noncomputable def Ih(t u:TT):TT:=λσ H Q=>t σ H λc H1=>if c=true then u σ H1 Q else Q false H1
noncomputable def AJ(t u:TT):TT:=λσ H Q=>t σ H λc H1=>if c=true then Q true H1 else u σ H1 Q
noncomputable def AK(t:TT):TT:=λσ H Q=>t σ H λc H1=>Q (!c) H1
theorem gb(ha:PT X a tA):PW X (.BoolOp .Or [a] pos) tA:=by
 intro wh pins s σ H Q I h;refine isTrue_or (aN (ha pins s σ H Q I h) λc s1 e=>?_);cases c with
 | false=>exact isTrue_or_nil e
 | true=>exact e
theorem gf(ha:PT X a tA)(hb:PW X (.BoolOp .Or (b::rest) pos) Ig):PW X (.BoolOp .Or (a::b::rest) pos) (AJ tA Ig):=by
 intro wh pins s σ H Q I h;refine isTrue_or (aN (ha pins s σ H _ I h) λc s1 ⟨H1,I1,q1⟩=>?_);cases c with
 | true=>exact⟨H1,I1,q1⟩
 | false=>exact hb wh pins s1 σ H1 Q I1 q1
theorem mw(ha:PT X a tA):PT X (.UnaryOp .Not a pos) (AK tA):=by
 intro pins s σ H Q I h;exact isTrue_not (ha pins s σ H (λc H1=>Q (!c) H1) I h)
noncomputable def AL(ta tb:TE):TE:=λσ H Q=>ta σ H λx H1=>∃c,x = .bl c/\if c=true then tb σ H1 Q else Q (.bl false) H1
noncomputable def Ii(ta tb:TE):TE:=λσ H Q=>ta σ H λx H1=>∃c,x = .bl c/\if c=true then Q (.bl true) H1 else tb σ H1 Q
noncomputable def Ij(ta:TE):TE:=λσ H Q=>ta σ H λx H1=>∃c,x = .bl c/\Q (.bl (!c)) H1
theorem Ik{op}{t:TE}(h:PE X a t):PE X (.BoolOp op [a] pos) t:=λpins s σ H Q I hw=>BoolOp_one (h pins s σ H Q I hw)
theorem Il(ha:PE X a ta)(hb:PE X (.BoolOp .And (b::rest) pos) tb):PE X (.BoolOp .And (a::b::rest) pos) (AL ta tb):=by
 intro pins s σ H Q I h;refine BoolOp_and (aN (ha pins s σ H _ I h) λv s1 ⟨x,H1,I1,r1,q1⟩=>?_);obtain⟨c,rfl,q1⟩:=q1;cases r1;refine wpAny_truthy_bool ?_;cases c with
 | true=>exact hb pins s1 σ H1 Q I1 q1
 | false=>exact⟨.bl false,H1,I1,rfl,q1⟩
noncomputable def AM(t:TT)(ta tb:TE):TE:=λσ H Q=>t σ H λc H1=>if c=true then ta σ H1 Q else tb σ H1 Q
theorem Rr{c:Expr}(hc:PT X c tA)(ha:PE X a ta)(hb:PE X b tb):PE X (.IfExp c a b pos) (AM tA ta tb):=by
 intro pins s σ H Q I h;refine wpAny_IfExp (aN (hc pins s σ H _ I h) λd s1 ⟨H1,I1,q1⟩=>?_);cases d with
 | true=>exact ha pins s1 σ H1 Q I1 q1
 | false=>exact hb pins s1 σ H1 Q I1 q1
end
noncomputable def aH(K:PySem.W.Frag)(H:Hp)(a:Addr)(xs:List V):Prop :=
 Rd H a (.lst xs)\/
  ∃(o:Obj) (aA:Array Value) (n:Nat),K.lookup a=some o/\o.cls = .type "list"/\o.dict=none/\o.data = .seq aA n/\aA.size<=sizeLine/\Vals xs aA.toList
noncomputable def bA(K:PySem.W.Frag)(H:Hp)(a:Addr)(xs:List V):Prop :=
 Rd H a (.tup xs)\/
  ∃(o:Obj) (aA:Array Value) (n:Nat),K.lookup a=some o/\o.cls = .type "tuple"/\o.data = .seq aA n/\aA.size<=sizeLine/\Vals xs aA.toList
noncomputable def Rt:Value->Option V
 | .none=>some .aG
 | .bool b=>some (.bl b)
 | .int i _=>some (.int i)
 | .str x _=>some (.str x)
 | .bytes b _=>some (.ie b)
 | .float b _=>some (.kJ b)
 | .ref a=>some (.ref a)
 | .type n=>some (.ty n)
 | _=>none
theorem RelV.abs{x:V}{u:Value}(r:RelV x u):Rt u=some x:=by
 cases x with
 | aG=>cases r;rfl
 | bl _=>cases r;rfl
 | int _=>obtain⟨t,rfl⟩:=r;rfl
 | str _=>obtain⟨t,rfl⟩:=r;rfl
 | ie _=>obtain⟨t,rfl⟩:=r;rfl
 | kJ _=>obtain⟨t,rfl⟩:=r;rfl
 | ref _=>cases r;rfl
 | ty _=>cases r;rfl
theorem RelV.inj{x y:V}{u:Value}(r:RelV x u)(q:RelV y u):x=y:=Option.some.inj (r.abs.symm.trans q.abs)
theorem Vals.inj:∀ {xs ys:List V} {us:List Value},Vals xs us->Vals ys us->xs=ys
 | _,_,_,.nil,.nil=>rfl
 | _,_,_,.cons r t,.cons r' t'=>by rw[r.inj r',Vals.inj t t']
section
variable{X:Cx}{pins:List (Addr×Obj)}{σ:St}{H:Hp}{s:Shared}{a:Addr}{xs ys:List V}
theorem aH.of{K:PySem.W.Frag}(h:H a=some (.lst xs)):aH K H a xs:=.inl (.inl h)
theorem bA.of{K:PySem.W.Frag}(h:H a=some (.tup xs)):bA K H a xs:=.inl (.inl h)
theorem Inv.list(I:Inv X pins σ H s)(h:aH X.K H a xs):∃aA:List Value,Vals xs aA/\PlainL s.heap a aA.toArray/\xs.length<=sizeLine:=by
 rcases h with h | ⟨o,aA,n,hk,hc,hd,hs,hz,r⟩
 ·obtain⟨z,aA,n,r,e⟩:=h.ok I.az;exact⟨aA,r,⟨_,n,e,rfl,rfl,rfl⟩,z⟩
 ·refine⟨aA.toList,r,⟨o,n,I.bC a o hk,hc,hd,by simpa using hs⟩,?_⟩
  have e:=r.length;simp only[Array.length_toList] at e;lia
theorem Inv.tuple(I:Inv X pins σ H s)(h:bA X.K H a xs):∃aA:List Value,Vals xs aA/\IsTup s.heap a aA.toArray/\xs.length<=sizeLine:=by
 rcases h with h | ⟨o,aA,n,hk,hc,hs,hz,r⟩
 ·obtain⟨z,aA,r,p⟩:=h.ok I.az;exact⟨aA,r,p,z⟩
 ·refine⟨aA.toList,r,⟨o,I.bC a o hk,hc,n,by simpa using hs⟩,?_⟩
  have e:=r.length;simp only[Array.length_toList] at e;lia
theorem Inv.Im(I:Inv X pins σ H s)(h:aH X.K H a xs)(h':aH X.K H a ys):xs=ys:=by
 obtain⟨aA,r,⟨o,n,e,_,_,d⟩,_⟩:=I.list h;obtain⟨its',r',⟨o',n',e',_,_,d'⟩,_⟩:=I.list h';rw[e] at e';cases e';rw[d] at d';injection d' with d1 _;have:aA=its':=by simpa using congrArg Array.toList d1
 subst this;exact r.inj r'
theorem Inv.Ru(I:Inv X pins σ H s)(h:bA X.K H a xs)(h':bA X.K H a ys):xs=ys:=by
 obtain⟨aA,r,⟨o,e,_,n,d⟩,_⟩:=I.tuple h;obtain⟨its',r',⟨o',e',_,n',d'⟩,_⟩:=I.tuple h';rw[e] at e';cases e';rw[d] at d';injection d' with d1 _;have:aA=its':=by simpa using congrArg Array.toList d1
 subst this;exact r.inj r'
end
noncomputable abbrev Cx.gF(X:Cx)(E:Value->Shared->Prop):Cx:={ X with xe:=E }
noncomputable abbrev Cx.iu(X:Cx):Cx:=X.gF λ_ _=>False
theorem Cx.Ok.gF{X:Cx}(ok:X.Ok)(E:Value->Shared->Prop):(X.gF E).Ok :=
 ⟨ok.mod,ok.kind,ok.glob,ok.blt,ok.above,ok.inj,ok.has,ok.l_,ok.hd,ok.frames,ok.oH,ok.kK,ok.bs,ok.eN,ok.mh,ok.kL,ok.dP,ok.fL⟩
theorem Cx.Ok.iw{X:Cx}{E:Value->Shared->Prop}(ok:(X.gF E).Ok):X.Ok :=
 ⟨ok.mod,ok.kind,ok.glob,ok.blt,ok.above,ok.inj,ok.has,ok.l_,ok.hd,ok.frames,ok.oH,ok.kK,ok.bs,ok.eN,ok.mh,ok.kL,ok.dP,ok.fL⟩
section
variable{X:Cx}{pins:List (Addr×Obj)}{σ:St}{H:Hp}{s:Shared}{E:Value->Shared->Prop}
theorem Inv.gF(I:Inv X pins σ H s)(E:Value->Shared->Prop):Inv (X.gF E) pins σ H s:=⟨I.ok.gF E,I.os,I.bare,I.base,I.loc,I.cell,I.free,I.fu,I.pin,I.az,I.len⟩
theorem Inv.iw(I:Inv (X.gF E) pins σ H s):Inv X pins σ H s:=⟨I.ok.iw,I.os,I.bare,I.base,I.loc,I.cell,I.free,I.fu,I.pin,I.az,I.len⟩
theorem SP.iw{D:Ends}{f:Flow}{s':Shared}(h:SP (X.gF E) pins D f s'):SP X pins D f s':=by
 cases f with
 | next=>obtain⟨aR,H',I,q⟩:=h;exact⟨aR,H',I.iw,q⟩
 | brk=>obtain⟨aR,H',I,q⟩:=h;exact⟨aR,H',I.iw,q⟩
 | cont=>obtain⟨aR,H',I,q⟩:=h;exact⟨aR,H',I.iw,q⟩
 | ret u=>obtain⟨v,aR,H',I,r,q⟩:=h;exact⟨v,aR,H',I.iw,r,q⟩
theorem eO.iu{st:List Stmt}{t:TS}(h:eO X.iu st t):eO X st t:=λpins s σ H D I hw =>
 wpAny_mono (h pins s σ H D (I.gF _) hw) (λ_ _ q=>q.iw) λ_ _ z=>False.elim z
end
section
variable{X:Cx}{st:Stmt}{rest:List Stmt}{t u:TS}{e:Expr}{te:TE}{pos:Pos}
noncomputable def AN:TS:=λD σ H=>D.nx σ H
noncomputable def AO(t u:TS):TS:=λD σ H=>t { D with nx:=u D } σ H
theorem bH:eO X [] AN:=λ_ _ σ H _ I h=>wpAny_execs_nil ⟨σ,H,I,h⟩
theorem aC(h1:PS X st t)(h2:eO X rest u):eO X (st::rest) (AO t u):=by
 intro pins s σ H D I h;refine wpAny_execs_cons (aN (h1 pins s σ H { D with nx:=u D } I h) λf s1 q=>?_);cases f with
 | next =>
  obtain⟨aR,H',I',q⟩:=q;exact h2 pins s1 aR H' D I' q
 | ret v=>exact q
 | brk=>exact q
 | cont=>exact q
theorem aL(h1:PS X st t):eO X [st] t:=by
 intro pins s σ H D I h;refine wpAny_execs_cons (aN (h1 pins s σ H D I h) λf s1 q=>?_);cases f with
 | next=>exact wpAny_execs_nil q
 | ret v=>exact q
 | brk=>exact q
 | cont=>exact q
theorem Inv.quiet{pins:List (Addr×Obj)}{σ:St}{H:Hp}{s:Shared}(I:Inv X pins σ H s):interactive X.env=false:=by simp[interactive,I.ok.kind]
noncomputable def uW(te:TE):TS:=λD σ H=>te σ H λ_ H1=>D.nx σ H1
theorem cO(he:PE X e te)(hs:swapsWith e none pos.line X.env=pure false:=by rfl):PS X (.Expr e pos) (uW te):=by
 intro pins s σ H D I h;exact wpAny_Expr_any (aN (he pins s σ H _ I h) λv s1 ⟨x,H1,I1,r1,q1⟩=>⟨σ,H1,I1,q1⟩) I.quiet hs
noncomputable def uX(te:TE):TS:=λD σ H=>te σ H D.rt
theorem bE(he:PE X e te):PS X (.Return (some e) pos) (uX te):=by
 intro pins s σ H D I h;exact wpAny_Return_some (aN (he pins s σ H _ I h) λv s1 ⟨x,H1,I1,r1,q1⟩=>⟨x,σ,H1,I1,r1,q1⟩)
noncomputable def Io:TS:=λD _ H=>D.rt .aG H
noncomputable def AQ(c:TT)(t u:TS):TS:=λD σ H=>c σ H λb H1=>if b=true then t D σ H1 else u D σ H1
theorem bI{c:Expr}{a b:List Stmt}{tc:TT}(hc:PT X c tc)(ha:eO X a t)(hb:eO X b u):PS X (.If c a b pos) (AQ tc t u):=by
 intro pins s σ H D I h;refine wpAny_If (aN (hc pins s σ H _ I h) λd s1 ⟨H1,I1,q1⟩=>?_);cases d with
 | true=>exact ha pins s1 σ H1 D I1 q1
 | false=>exact hb pins s1 σ H1 D I1 q1
noncomputable def AR:TS:=λ_ _ _=>False
theorem fO{Rv:List Stmt}:eO X Rv AR:=λ_ _ _ _ _ _ h=>h.elim
end
noncomputable abbrev TG:=V->St->Hp->(St->Hp->Prop)->Prop
noncomputable abbrev kP:=List V->St->Hp->(St->Hp->Prop)->Prop
noncomputable def PG(X:Cx)(target:Expr)(t:TG):Prop :=
 ∀(pins:List (Addr×Obj)) (s:Shared) (σ:St) (H:Hp) (v:V) (u:Value) (Q:St->Hp->Prop),Inv X pins σ H s->RelV v u->t v σ H Q->
  wpAny (model X.prog X.w) X.A (assign target X.env u) (λ_ s'=>∃aR H',Inv X pins aR H' s'/\Q aR H') X.xe s
noncomputable def oJ(X:Cx)(ts:List Expr)(t:kP):Prop :=
 ∀(pins:List (Addr×Obj)) (s:Shared) (σ:St) (H:Hp) (vs:List V) (us:List Value) (Q:St->Hp->Prop),Inv X pins σ H s->Vals vs us->t vs σ H Q->
  wpAny (model X.prog X.w) X.A (assignInOrder ((assignEach ts X.env).map (·.2)) us) (λ_ s'=>∃aR H',Inv X pins aR H' s'/\Q aR H') X.xe s
noncomputable abbrev AS:=V->V->V->Hp->(Hp->Prop)->Prop
noncomputable def Ip(X:Cx)(t:AS):Prop :=
 ∀(pins:List (Addr×Obj)) (s:Shared) (σ:St) (H:Hp) (o i v:V) (ov iv u:Value) (Q:Hp->Prop),Inv X pins σ H s->RelV o ov->RelV i iv->RelV v u->t o i v H Q->
  wpAny (model X.prog X.w) X.A (setItem ov iv u) (λ_ s'=>∃H',Inv X pins σ H' s'/\Q H') X.xe s
section
variable{X:Cx}{pos:Pos}
noncomputable def kQ(i:Nat):TG:=λv σ H Q=>Q (σ.set i (some v)) H
theorem b7{i:Nat}{x:Str}(hN:X.N.Nodup)(hi:X.N[i]? = some x)(hx:Loc X.env.scope x)(hf:X.fn x=true\/X.env.scope.names.lookup x=some .local:=by first | exact .inl rfl | exact .inr rfl | assumption):PG X (.Name x pos) (kQ i):=by
 intro pins s σ H v u Q I r h;exact wpAny_assign_Name (uT I hN hi hx r (λs' I'=>⟨_,H,I',h⟩) hf)
noncomputable def uY:kP:=λvs σ H Q=>vs = []/\Q σ H
noncomputable def qq(t:TG)(u:kP):kP:=λvs σ H Q=>∃v r,vs=v::r/\t v σ H λaR H'=>u r aR H' Q
theorem jv:oJ X [] uY:=by
 intro pins s σ H vs us Q I r h;obtain⟨e,h⟩:=h;subst e;cases r;exact assignInOrder_nil ⟨σ,H,I,h⟩
theorem dQ{e:Expr}{es:List Expr}{t:TG}{u:kP}(h1:PG X e t)(h2:oJ X es u)
  (hs:(assignEach (e::es) X.env).map (·.2)=assign e X.env::(assignEach es X.env).map (·.2):=by rfl):oJ X (e::es) (qq t u):=by
 intro pins s σ H vs us Q I r h;obtain⟨v,vr,e1,h⟩:=h;subst e1;cases r with
 | cons r rr =>
  rw[hs];refine assignInOrder_cons (aN (h1 pins s σ H _ _ _ I r h) λ_ s1 ⟨iy,H1,I1,q1⟩=>?_);exact h2 pins s1 iy H1 _ _ Q I1 rr q1
noncomputable def qt(K:PySem.W.Frag)(n:Nat)(t:kP):TG:=λv σ H Q=>∃a xs,v = .ref a/\bA K H a xs/\xs.length=n/\t xs σ H Q
theorem jw{es:List Expr}{k:Nat}{t:kP}{n:Nat}(hc:X.calm=true)(h:oJ X es t)
  (hn:(assignEach es X.env).length=n:=by rfl) (bX:(assignEach es X.env).findIdx? (·.1)=none:=by rfl):PG X (.Tuple es k pos) (qt X.K n t):=by
 intro pins s σ H v u Q I r hw;obtain⟨a,xs,e1,hq,hl,hw⟩:=hw;subst e1;cases r;obtain⟨aA,rv,ht,hz⟩:=I.tuple hq;refine assign_Tuple_tuple (I.ok.hd hc) ht (by simp[hn,← hl,rv.length]) bX λh' hx=>?_
 have I1:Inv X pins σ H { s with heap:=h' }:=I.kept (t':=s.toks) λb o e=>hx b o (Nat.ne_of_lt (Heap.lt_size e)) e;exact h pins _ σ H xs _ Q I1 (by simpa using rv) hw
noncomputable def AU(to ti:TE)(t:AS):TG:=λv σ H Q=>to σ H λo H1=>ti σ H1 λi H2=>t o i v H2 λH3=>Q σ H3
theorem Rw{o i:Expr}{to ti:TE}{t:AS}(ho:PE X o to)(hi:PE X i ti)(hs:Ip X t)
  (ha:∀v,assign (.Subscript o i pos) X.env v=(do
   let ov ← holding [v] (eval o X.env)
   let iv ← holding [v,ov] (eval i X.env)
   standAt pos
   holding [v,ov,iv] (setItem ov iv v)
   release [v,ov,iv] []):=by intro _;rfl):PG X (.Subscript o i pos) (AU to ti t):=by
 intro pins s σ H v u Q I r h;rw[ha];refine wpAny_bind (wpAny_holding (aN (ho pins s σ H _ I h) λov s1 ⟨x,H1,I1,r1,q1⟩=>?_));refine wpAny_bind (wpAny_holding (aN (hi pins s1 σ H1 _ I1 q1) λiv s2 ⟨y,H2,I2,r2,q2⟩=>?_));refine wpAny_bind (wpAny_standAt (wpAny_bind (wpAny_holding (aN (hs pins s2 σ H2 x y v ov iv u _ I2 r1 r2 r q2) λ_ s3 ⟨H3,I3,q3⟩=>?_))));exact wpAny_release ⟨σ,H3,I3,q3⟩
noncomputable def qu(te:TE)(g:TG):TS:=λD σ H=>te σ H λx H1=>g x σ H1 D.nx
theorem Rx{tg e:Expr}{te:TE}{g:TG}(he:PE X e te)(hg:PG X tg g)(hs:swapsWithSole [tg] e pos.line X.env=pure false:=by rfl)(hw:swappedStores [tg] e X.env=pure none:=by rfl)
  (h1:(assignEach [tg] X.env).map (·.2) = [assign tg X.env]:=by rfl):PS X (.Assign [tg] e pos) (qu te g):=by
 intro pins s σ H D I h;refine wpAny_Assign_stores (aN (he pins s σ H _ I h) λv s1 ⟨x,H1,I1,r1,q1⟩=>?_) hs hw;rw[h1];exact aN (hg pins s1 σ H1 x v _ I1 r1 q1) λ_ s2 q=>q
theorem aY{i:Nat}{x:Str}{e:Expr}{te:TE}{pos':Pos}(hN:X.N.Nodup)(hi:X.N[i]? = some x)(hx:Loc X.env.scope x)(he:PE X e te)(hs:swapsWith e (some (.Name x pos')) pos.line X.env=pure false:=by rfl)(hf:X.fn x=true\/X.env.scope.names.lookup x=some .local:=by first | exact .inl rfl | exact .inr rfl | assumption) :
  PS X (.Assign [.Name x pos'] e pos) (qu te (kQ i)):=by
 intro pins s σ H D I h;refine wpAny_Assign_Name (aN (he pins s σ H _ I h) λv s1 ⟨y,H1,I1,r1,q1⟩=>?_) hs;exact uT I1 hN hi hx r1 (λs2 I2=>⟨_,H1,I2,q1⟩) hf
end
section
variable{X:Cx}{pos:Pos}
end
structure It where
 go:Nat->Hp->Prop
 jx:Nat->Hp->V->Hp->Prop
 stop:Nat->Hp->Prop
noncomputable def iz(X:Cx)(pins:List (Addr×Obj))(H:Hp)(b:Addr):Prop :=
 H b=none/\b≠X.env.locals/\b∉X.fs/\(b∈X.ex\/X.aK.heap.objs.size<=b)/\(∀x c,X.env.cells.lookup x=some c->c≠b)/\∀p∈X.pn++pins,p.1≠b
theorem Inv.jQ{X:Cx}{pins:List (Addr×Obj)}{σ:St}{H H':Hp}{s:Shared}{b:Addr}(I:Inv X pins σ H s)(hb:s.heap.objs.size<=b)(hn:H' b=none):iz X pins H' b:=by
 refine⟨hn,Nat.ne_of_gt (Nat.lt_of_lt_of_le I.lt hb),I.ql hb,.inr (Nat.le_trans I.sz hb),λx c e z=>?_,λp hp z=>?_⟩
 ·obtain⟨v,q⟩:=I.cell x c e;exact absurd (Nat.lt_of_lt_of_le q.lt (by rw[z];exact hb)) (Nat.lt_irrefl _)
 ·exact absurd (Nat.lt_of_lt_of_le (Heap.lt_size (I.pin p hp).1) (by rw[z];exact hb)) (Nat.lt_irrefl _)
structure Turn(P:Program)(w:World)(K:PySem.W.Frag)(tg:Expr)(J:It)(fp:List Addr)(it:Addr)(tn:Nat->Heap->Prop):Prop where
 mem:it∈fp
 obj:∀i h,tn i h->∀b∈fp,∃o,h.get? b=some o/\∀v,o.data≠.cell v
 keep:∀i h h',tn i h->(∀b∈fp,∀o,h.get? b=some o->h'.get? b=some o)->tn i h'
 item:∀(X:Cx),X.prog=P->X.w=w->X.K=K->X.calm=true->∀(i:Nat) (pins:List (Addr×Obj)) (s:Shared) (σ:St) (H:Hp) (E:Value->Shared->Prop),Inv X pins σ H s->(∀b∈fp,iz X pins H b)->tn i s.heap->J.go i H->
  wpAny (model P w) X.A (pyNext (.ref it)) (λr s1=>∃u,r=some u/\
   wpAny (model P w) X.A (letOwnedTupleGo tg (.ref it) u) (λ_ s2=>∃x H',Inv X pins σ H' s2/\RelV x u/\J.jx i H x H'/\tn (i+1) s2.heap/\∀b∈fp,H' b=none) E s1) E s
 done:∀(X:Cx),X.prog=P->X.w=w->X.K=K->X.calm=true->∀(i:Nat) (pins:List (Addr×Obj)) (s:Shared) (σ:St) (H:Hp) (E:Value->Shared->Prop),Inv X pins σ H s->(∀b∈fp,iz X pins H b)->tn i s.heap->J.stop i H->
  wpAny (model P w) X.A (pyNext (.ref it)) (λr s1=>r=none/\Inv X pins σ H s1) E s
 self:∀(A:Around) (i:Nat) (s:Shared) (Q:Value->Shared->Prop) (E:Value->Shared->Prop),tn i s.heap->Q (.ref it) s->wpAny (model P w) A (pyIter (.ref it)) Q E s
noncomputable abbrev TI:=St->Hp->(It->Hp->Prop)->Prop
noncomputable def Iq(X:Cx)(pins:List (Addr×Obj))(σ:St)(tg:Expr)(R:It->Hp->Prop)(qw:Value)(s2:Shared):Prop :=
 ∃(it:Addr) (fp:List Addr) (tn:Nat->Heap->Prop) (J:It) (H':Hp),qw = .ref it/\Inv X pins σ H' s2/\Turn X.prog X.w X.K tg J fp it tn/\tn 0 s2.heap/\(∀b∈fp,iz X pins H' b)/\R J H'
noncomputable def PI(X:Cx)(tg iter:Expr)(wi:TI):Prop :=
 ∀(pins:List (Addr×Obj)) (s:Shared) (σ:St) (H:Hp) (R:It->Hp->Prop),Inv X pins σ H s->wi σ H R->
  wpAny (model X.prog X.w) X.A (eval iter X.env) (λv s1=>wpAny (model X.prog X.w) X.A (pyIter v) (Iq X pins σ tg R) X.xe s1) X.xe s
theorem AV{M:Model}{A:Around}{E:Value->Shared->Prop}{s:Shared}{tg:Expr}{it:Addr}{u:Value}{o:Obj}{n:String}{vs:Array Value}{Q:Unit->Shared->Prop}(ho:s.heap.get? it=some o)(hc:o.cls = .type n)(hd:o.data = .fields vs)
  (hn:["enumerate", "zip", "dict_itemiterator", "dict_reverseitemiterator", "odict_iterator", "itertools.zip_longest", "itertools.pairwise"].contains n=false) (hQ:Q () s):wpAny M A (letOwnedTupleGo tg (.ref it) u) Q E s:=by
 unfold letOwnedTupleGo;cases tg <;> first
  | exact wpAny_pure hQ
  | (cases u <;> first
    | exact wpAny_pure hQ
    | (refine wpAny_bind (wpAny_load ho ?_)
       rw[hc,hd]
       show wpAny M A (if (["enumerate", "zip", "dict_itemiterator", "dict_reverseitemiterator", "odict_iterator", "itertools.zip_longest", "itertools.pairwise"].contains n && vs[0]? == some (rawInt _))=true then _ else _) Q E s
       rw[if_neg (by intro h;rw[hn,Bool.false_and] at h;cases h)]
       exact wpAny_pure hQ))
noncomputable def kR(K:PySem.W.Frag)(a:Addr):It :=
 ⟨λi H=>∃xs x,aH K H a xs/\xs[i]? = some x,λi H x H'=>H' = H/\∀xs,aH K H a xs->xs[i]? = some x,λi H=>∃xs,aH K H a xs/\xs.length<=i⟩
noncomputable def qx(K:PySem.W.Frag)(a:Addr):It :=
 ⟨λi H=>∃xs x,bA K H a xs/\xs[i]? = some x,λi H x H'=>H' = H/\∀xs,bA K H a xs->xs[i]? = some x,λi H=>∃xs,bA K H a xs/\xs.length<=i⟩
noncomputable def mz(lo:Int)(n:Nat):It:=⟨λi _=>i<n,λi H x H'=>H' = H/\x = .int (lo+i),λi _=>n<=i⟩
theorem Ry{P:Program}{w:World}{K:PySem.W.Frag}{tg:Expr}(a it:Addr):Turn P w K tg (kR K a) [it] it (λi h=>h.IsListIter it a i) where
 mem:=by simp
 obj:=λi h st b hb=>by
  have e:b=it:=by simpa using hb
  subst e;obtain⟨o,e,c,d⟩:=st;exact⟨o,e,λv z=>by rw[d] at z;cases z⟩
 keep:=λi h h' st k=>st.at λo e=>k it (by simp) o e
 item:=by
  intro X hP hw hK hc i pins s σ H E I hf st hg;subst hP hw hK;obtain⟨xs,x,hq,hx⟩:=hg;obtain⟨aA,rv,p,hz⟩:=I.list hq;obtain⟨u,hu,ru⟩:=rv.get hx;obtain⟨f0,f1,f2,f3,f4,f5⟩:=hf it (by simp)
  refine wpAny_pyNext_list_item st p.isList (x:=u) (by simpa using hu) λh' kU sb=>?_
  have I1:Inv X pins σ H { s with heap:=h' }:=I.turned (t':=s.toks) (λb o hb e=>(sb.2 b hb).trans e) f0 f1 f3 f4 f5;obtain⟨o,e,c,d⟩:=id kU;exact⟨u,rfl,AV (s:={ s with heap:=h' }) e c d (by decide) ⟨x,H,I1,ru,⟨rfl,λys hy=>by rw[I.Im hy hq];exact hx⟩,kU,λb hb=>(hf b hb).1⟩⟩
 done:=by
  intro X hP hw hK hc i pins s σ H E I hf st hg;subst hP hw hK;obtain⟨xs,hq,hx⟩:=hg;obtain⟨aA,rv,p,hz⟩:=I.list hq;obtain⟨f0,f1,f2,f3,f4,f5⟩:=hf it (by simp)
  have hl:=rv.length;exact wpAny_pyNext_list_end (I.ok.hd hc) st p.isList (by simp;lia) λh' eb=>⟨rfl,I.turned (t':=s.toks) (λb o hb e=>eb b o hb e) f0 f1 f3 f4 f5⟩
 self:=λ_ _ _ _ _ st h=>wpAny_pyIter_listiter st h
theorem Rz{P:Program}{w:World}{K:PySem.W.Frag}{tg:Expr}(a it:Addr):Turn P w K tg (qx K a) [it] it (λi h=>h.IsTupleIter it a i) where
 mem:=by simp
 obj:=λi h st b hb=>by
  have e:b=it:=by simpa using hb
  subst e;obtain⟨o,e,c,d⟩:=st;exact⟨o,e,λv z=>by rw[d] at z;cases z⟩
 keep:=λi h h' st k=>st.at λo e=>k it (by simp) o e
 item:=by
  intro X hP hw hK hc i pins s σ H E I hf st hg;subst hP hw hK;obtain⟨xs,x,hq,hx⟩:=hg;obtain⟨aA,rv,p,hz⟩:=I.tuple hq;obtain⟨u,hu,ru⟩:=rv.get hx;obtain⟨f0,f1,f2,f3,f4,f5⟩:=hf it (by simp)
  refine wpAny_pyNext_tuple_item st (show s.heap.IsTuple a aA.toArray from p) (x:=u) (by simpa using hu) λh' kU sb=>?_
  have I1:Inv X pins σ H { s with heap:=h' }:=I.turned (t':=s.toks) (λb o hb e=>(sb.2 b hb).trans e) f0 f1 f3 f4 f5;obtain⟨o,e,c,d⟩:=id kU;exact⟨u,rfl,AV (s:={ s with heap:=h' }) e c d (by decide) ⟨x,H,I1,ru,⟨rfl,λys hy=>by rw[I.Ru hy hq];exact hx⟩,kU,λb hb=>(hf b hb).1⟩⟩
 done:=by
  intro X hP hw hK hc i pins s σ H E I hf st hg;subst hP hw hK;obtain⟨xs,hq,hx⟩:=hg;obtain⟨aA,rv,p,hz⟩:=I.tuple hq;obtain⟨f0,f1,f2,f3,f4,f5⟩:=hf it (by simp)
  have hl:=rv.length;exact wpAny_pyNext_tuple_end (I.ok.hd hc) st (show s.heap.IsTuple a aA.toArray from p) (by simp;lia) λh' eb=>⟨rfl,I.turned (t':=s.toks) (λb o hb e=>eb b o hb e) f0 f1 f3 f4 f5⟩
 self:=λ_ _ _ _ _ st h=>wpAny_pyIter_tupleiter st h
theorem RA{P:Program}{w:World}{K:PySem.W.Frag}{tg:Expr}(it:Addr)(lo:Int)(n:Nat):Turn P w K tg (mz lo n) [it] it (λi h=>IsRangeIter h it (lo+(i:Nat)*1) ((n:Int) - (i:Nat)) 1) where
 mem:=by simp
 obj:=λi h st b hb=>by
  have e:b=it:=by simpa using hb
  subst e;exact⟨_,st,λv z=>by
   have z':Data.fields _=Data.cell v:=z;cases z'⟩
 keep:=λi h h' st k=>k it (by simp) _ st
 item:=by
  intro X hP hw hK hc i pins s σ H E I hf st hg;subst hP hw hK;obtain⟨f0,f1,f2,f3,f4,f5⟩:=hf it (by simp)
  have W:=Walks.range (prog:=X.prog) (w:=X.w) (I.ok.hd hc) it lo 1 n;refine W.item i s _ _ hg st λv h' tk hv kU kk=>?_;obtain⟨t,rfl⟩:=hv;have I1:Inv X pins σ H { s with heap:=h',toks:=tk }:=I.turned (λb o hb e=>kk b o (by simpa using hb) e) f0 f1 f3 f4 f5
  refine⟨_,rfl,AV (s:={ s with heap:=h',toks:=tk }) (n := "range_iterator") kU rfl rfl (by decide) ⟨.int (lo+i),H,I1,⟨t,?_⟩,⟨rfl,rfl⟩,kU,λb hb=>(hf b hb).1⟩⟩
  rw[Int.mul_one]
 done:=by
  intro X hP hw hK hc i pins s σ H E I hf st hg;subst hP hw hK;obtain⟨f0,f1,f2,f3,f4,f5⟩:=hf it (by simp)
  exact wpAny_pyNext_range_end (I.ok.hd hc) st (by have:n<=i:=hg;lia) λh' eb=>⟨rfl,I.turned (t':=s.toks) (λb o hb e=>eb b o hb e) f0 f1 f3 f4 f5⟩
 self:=λ_ _ _ _ _ st h=>wpAny_pyIter_rangeiter st h
section
variable{X:Cx}{tg:Expr}
noncomputable def oK(K:PySem.W.Frag)(tl:TE):TI:=λσ H R=>tl σ H λx H1=>∃a,x = .ref a/\(∃xs,aH K H1 a xs)/\R (kR K a) H1
noncomputable def Ir(K:PySem.W.Frag)(tl:TE):TI:=λσ H R=>tl σ H λx H1=>∃a,x = .ref a/\(∃xs,bA K H1 a xs)/\R (qx K a) H1
theorem gW{l:Expr}{tl:TE}(hl:PE X l tl):PI X tg l (oK X.K tl):=by
 intro pins s σ H R I h;refine aN (hl pins s σ H _ I h) λv s1 ⟨x,H1,I1,r1,q1⟩=>?_;obtain⟨a,e,⟨xs,hq⟩,q⟩:=q1;subst e;cases r1;obtain⟨aA,rv,p,hz⟩:=I1.list hq;refine wpAny_pyIter_list p.isList ?_;refine⟨s1.heap.objs.size,[s1.heap.objs.size],_,_,H1,rfl,I1.kept (t':=s1.toks) λb o e=>Heap.get?_push_of_some _ e,Ry a _,⟨_,Heap.get?_push_size _ rfl,rfl,rfl⟩,λb hb=>?_,q⟩;have e:b=s1.heap.objs.size:=by simpa using hb
 subst e;exact I1.jQ (Nat.le_refl _) (I1.az.fresh (Nat.le_refl _))
theorem RB{l:Expr}{tl:TE}(hl:PE X l tl):PI X tg l (Ir X.K tl):=by
 intro pins s σ H R I h;refine aN (hl pins s σ H _ I h) λv s1 ⟨x,H1,I1,r1,q1⟩=>?_;obtain⟨a,e,⟨xs,hq⟩,q⟩:=q1;subst e;cases r1;obtain⟨aA,rv,p,hz⟩:=I1.tuple hq;refine wpAny_pyIter_tuple (show s1.heap.IsTuple a aA.toArray from p) ?_;refine⟨s1.heap.objs.size,[s1.heap.objs.size],_,_,H1,rfl,I1.kept (t':=s1.toks) λb o e=>Heap.get?_push_of_some _ e,Rz a _,⟨_,Heap.get?_push_size _ rfl,rfl,rfl⟩,λb hb=>?_,q⟩;have e:b=s1.heap.objs.size:=by simpa using hb
 subst e;exact I1.jQ (Nat.le_refl _) (I1.az.fresh (Nat.le_refl _))
theorem Iu{pins:List (Addr×Obj)}{σ:St}{H:Hp}{s:Shared}{R:It->Hp->Prop}{E:Value->Shared->Prop}{lo hi:Int}{t u v:Tok}{tk:Nat}(I:Inv X pins σ H s)(h1 : -(2 ^ 62)<=lo)(h2:lo<2 ^ 62)(h3 : -(2 ^ 62)<=hi)(h4:hi<2 ^ 62)
  (q:R (mz lo (hi - lo).toNat) H):wpAny (model X.prog X.w) X.A (pyIter (.ref s.heap.objs.size)) (Iq X pins σ tg R) E { s with heap:=s.heap.push { cls:=.type "range",data:=.fields #[.int lo t,.int hi u,.int 1 v] },toks:=tk }:=by
 refine wpAny_pyIter_range (IsRange.new ..) (small_one h1 h2 h3 h4) ?_;have I1:Inv X pins σ H { s with heap:=s.heap.push { cls:=.type "range",data:=.fields #[.int lo t,.int hi u,.int 1 v] },toks:=tk }:=I.kept λb o e=>Heap.get?_push_of_some _ e;refine⟨(s.heap.push { cls:=.type "range",data:=.fields #[.int lo t,.int hi u,.int 1 v] }).objs.size,[(s.heap.push { cls:=.type "range",data:=.fields #[.int lo t,.int hi u,.int 1 v] }).objs.size],_,_,H,rfl,
  I1.kept (t':=tk) λb o e=>Heap.get?_push_of_some _ e,RA _ lo (hi - lo).toNat,?_,λb hb=>?_,q⟩
 ·have e1:lo+((0:Nat):Int)*1=lo:=by simp
  have e2:(((hi - lo).toNat:Nat):Int) - ((0:Nat):Int)=Builtin.Range.rangeSize lo hi 1:=by rw[rangeSize_one];split <;> lia
  show IsRangeIter _ _ (lo+((0:Nat):Int)*1) ((((hi - lo).toNat:Nat):Int) - ((0:Nat):Int)) 1;rw[e1,e2];exact Heap.get?_push_size _ rfl
 ·have e:b=(s.heap.push { cls:=.type "range",data:=.fields #[.int lo t,.int hi u,.int 1 v] }).objs.size:=by simpa using hb
  subst e;exact I1.jQ (Nat.le_refl _) (I1.az.fresh (Nat.le_refl _))
noncomputable def qy(ta:TA):TI:=λσ H R=>ta σ H λvs H1=>∃j:Int,vs = [.int j]/\-(2 ^ 62)<=j/\j<2 ^ 62/\R (mz 0 j.toNat) H1
noncomputable def qz(ta:TA):TI:=λσ H R=>ta σ H λvs H1=>∃i j:Int,vs = [.int i,.int j]/\(-(2 ^ 62)<=i/\i<2 ^ 62/\-(2 ^ 62)<=j/\j<2 ^ 62)/\R (mz i (j - i).toNat) H1
theorem qA{a:Expr}{ta:TA}{p pos:Pos}(hg:Gl X "range")(hm:X.mg "range" = none)(ha:PA X [a] ta)(hs:starEach [a] X.env = [(false,eval a X.env)]:=by rfl):PI X tg (.Call (.Name "range" p) [a] [] pos) (qy ta):=by
 intro pins s σ H R I h;refine Call_ (kN I hg hm boot_range (PyProof.Rows.callWith_type1 (aN (ha pos pins s σ H _ I h) λus s1 ⟨vs,H1,I1,r1,q1⟩=>?_) hs rfl));obtain⟨j,e,q1,q2,q⟩:=q1;subst e;cases r1 with
 | cons r rr =>
  cases rr;obtain⟨t,rfl⟩:=r;exact call_range_1 (Iu I1 (by lia) (by lia) q1 q2 (by simpa using q))
theorem kW{a b:Expr}{ta:TA}{p pos:Pos}(hg:Gl X "range")(hm:X.mg "range" = none)(ha:PA X [a,b] ta)(hs:starEach [a,b] X.env = [(false,eval a X.env),(false,eval b X.env)]:=by rfl)(jy:starEach [b] X.env = [(false,eval b X.env)]:=by rfl) :
  PI X tg (.Call (.Name "range" p) [a,b] [] pos) (qz ta):=by
 intro pins s σ H R I h;refine Call_ (kN I hg hm boot_range (PyProof.Rows.callWith_type1 (aN (ha pos pins s σ H _ I h) λus s1 ⟨vs,H1,I1,r1,q1⟩=>?_) (by rw[hs,jy]) (by rw[jy];rfl)))
 obtain⟨i,j,e,⟨q1,q2,q3,q4⟩,q⟩:=q1;subst e;cases r1 with
 | cons r rr =>
  cases rr with
  | cons r' rr =>
   cases rr;obtain⟨t,rfl⟩:=r;obtain⟨t',rfl⟩:=r';exact call_range_2 (Iu I1 q1 q2 q3 q4 q)
noncomputable def iA(wi:TI)(g:TG)(tb:TS):TS:=λD σ H=>wi σ H λJ H1=>∃W:Nat->Nat->St->Hp->Prop,(∃m,W 0 m σ H1)/\∀i m σ H,W i m σ H->
 (J.stop i H/\D.nx σ H)\/(J.go i H/\∃N:St->Hp->Prop,(∀aR H',N aR H'->∃m',m' < m/\W (i+1) m' aR H')/\∀x H',J.jx i H x H'->g x σ H' λaD H2=>tb { D with nx:=N,ct:=N,bk:=D.nx } aD H2)
noncomputable def oM(fp:List Addr)(h:Heap):List (Addr×Obj):=fp.filterMap λb=>(h.get? b).map λo=>(b,o)
theorem oN{fp:List Addr}{h:Heap}{b:Addr}{o:Obj}(hb:b∈fp)(e:h.get? b=some o):(b,o)∈oM fp h:=List.mem_filterMap.mpr ⟨b,hb,by rw[e];rfl⟩
theorem RC{fp:List Addr}{h:Heap}{p:Addr×Obj}(hp:p∈oM fp h):p.1∈fp/\h.get? p.1=some p.2:=by
 obtain⟨b,hb,e⟩:=List.mem_filterMap.mp hp;cases q:h.get? b with
 | none=>rw[q] at e;cases e
 | some o =>
  rw[q] at e;have e':(b,o)=p:=Option.some.inj e;subst e';exact⟨hb,q⟩
theorem Inv.pinned{pins:List (Addr×Obj)}{σ:St}{H:Hp}{s:Shared}{fp:List Addr}(I:Inv X pins σ H s)(hf:∀b∈fp,iz X pins H b)(ho:∀b∈fp,∃o,s.heap.get? b=some o/\∀v,o.data≠.cell v):Inv X (pins++oM fp s.heap) σ H s :=
 I.jr λp hp=>(List.mem_append.mp hp).elim (λz=>I.pin p (List.mem_append_right _ z)) λz=>by
  obtain⟨hb,e⟩:=RC z;obtain⟨f0,f1,f2,_⟩:=hf p.1 hb;obtain⟨o,e',d⟩:=ho p.1 hb;rw[e] at e';cases e';exact⟨e,f0,f1,f2,d⟩
theorem Inv.mC{pins pl:List (Addr×Obj)}{σ:St}{H:Hp}{s:Shared}(I:Inv X (pins++pl) σ H s):Inv X pins σ H s:=I.jr λp hp=>I.pin p (List.mem_append_right _ (List.mem_append_left _ hp))
theorem dw{iter:Expr}{body:List Stmt}{wi:TI}{g:TG}{tb:TS}{pos:Pos}(hp:PassesOwn (model X.prog X.w) X.A X.env X.xe)(hc:X.calm=true)(hi:PI X tg iter wi)(hg:PG X tg g)(hb:eO X body tb)
  (hs:∀x,foldedSetIterable iter X.env x=pure x:=by intro _;rfl):PS X (.For tg iter body [] pos) (iA wi g tb):=by
 intro pins s σ H D I h;refine wpAny_For (aN (hi pins s σ H _ I h) λv s1 h1=>aN h1 λqw s2 h2=>?_) hs;obtain⟨it,fp,tn,J,H2,e,I2,T,gX,f2,W,⟨m0,w0⟩,turn⟩:=h2;subst e
 -- what stays true of the iterator's objects through the loop
 have iS:∀ {H':Hp},(∀b∈fp,H' b=none)->∀b∈fp,iz X pins H' b:=λhn b hb=>⟨hn b hb,(f2 b hb).2⟩;refine codeAny_forLoop_any (λn s'=>∃i aR H',Inv X pins aR H' s'/\tn i s'.heap/\(∀b∈fp,H' b=none)/\W i n aR H') ?_ m0 ⟨0,σ,H2,I2,gX,λb hb=>(f2 b hb).1,w0⟩;rintro n s3 ⟨i,gh,H3,I3,kX,gY,w3⟩;rcases turn i n gh H3 w3 with⟨stop,qn⟩ | ⟨go,N,hN,step⟩
 ·refine wpAny_passesOwn hp (aN (T.done X rfl rfl rfl hc i pins s3 gh H3 X.xe I3 (iS gY) kX stop) λr s4 ⟨hr,I4⟩=>?_);subst hr;exact wpAny_execs_nil ⟨gh,H3,I4,qn⟩
 ·refine wpAny_passesOwn hp (aN (T.item X rfl rfl rfl hc i pins s3 gh H3 X.xe I3 (iS gY) kX go) λr s4 ⟨u,hr,h4⟩=>?_);subst hr;refine wpAny_passesOwn hp (aN h4 λ_ s5 ⟨x,H5,I5,r5,y5,iT,qB⟩=>?_);have qC:=I5.pinned (iS qB) (T.obj _ _ iT);refine wpAny_passesOwn hp (aN (hg _ s5 gh H5 x u _ qC r5 (step x H5 y5)) λ_ s6 ⟨gi,H6,I6,q6⟩=>?_);refine wpAny_passesOwn hp (aN (hb _ s6 gi H6 _ I6 q6) λf s7 q7=>?_);have again:∀ {fB:St} {H7:Hp},Inv X (pins++oM fp s5.heap) fB H7 s7->N fB H7->∃m,m<n/\∃i aR H',Inv X pins aR H' s7/\tn i s7.heap/\(∀b∈fp,H' b=none)/\W i m aR H':=λ{fB H7} I7 n7=>by
   obtain⟨m',hm,w7⟩:=hN fB H7 n7;refine⟨m',hm,i+1,fB,H7,I7.mC,T.keep _ _ _ iT λb hb o e=>(I7.pin (b,o) (List.mem_append_right _ (List.mem_append_right _ (oN hb e)))).1,λb hb=>?_,w7⟩;obtain⟨o,e,d⟩:=T.obj _ _ iT b hb;exact(I7.pin (b,o) (List.mem_append_right _ (List.mem_append_right _ (oN hb e)))).2.1
  cases f with
  | next=>obtain⟨fB,H7,I7,n7⟩:=q7;exact again I7 n7
  | cont=>obtain⟨fB,H7,I7,n7⟩:=q7;exact again I7 n7
  | brk=>obtain⟨fB,H7,I7,q7⟩:=q7;exact⟨fB,H7,I7.mC,q7⟩
  | ret v=>obtain⟨x7,fB,H7,I7,r7,q7⟩:=q7;exact⟨x7,fB,H7,I7.mC,r7,q7⟩
end
theorem Iv{K:PySem.W.Frag}{a:Addr}{xs:List V}{g:TG}{tb:TS}{D:Ends}{σ:St}{H:Hp}(Pv:Nat->St->Hp->Prop)(h0:Pv 0 σ H)(hl:∀i σ H,i<=xs.length->Pv i σ H->aH K H a xs)
  (hs:∀i x σ H,xs[i]? = some x->Pv i σ H->g x σ H λaD H2=>tb { D with nx:=Pv (i+1),ct:=Pv (i+1),bk:=D.nx } aD H2) (hd:∀σ H,Pv xs.length σ H->D.nx σ H) :
  ∃W:Nat->Nat->St->Hp->Prop,(∃m,W 0 m σ H)/\∀i m σ H,W i m σ H->
   ((kR K a).stop i H/\D.nx σ H)\/((kR K a).go i H/\∃N:St->Hp->Prop,(∀aR H',N aR H'->∃m',m' < m/\W (i+1) m' aR H')/\∀x H',(kR K a).jx i H x H'->g x σ H' λaD H2=>tb { D with nx:=N,ct:=N,bk:=D.nx } aD H2):=by
 refine⟨λi m σ H=>m=xs.length - i/\i<=xs.length/\Pv i σ H,⟨xs.length,by simp,Nat.zero_le _,h0⟩,?_⟩
 rintro i m σ H ⟨rfl,hi,p⟩;have q:=hl i σ H hi p;by_cases bO:i<xs.length
 ·refine .inr ⟨⟨xs,xs[i],q,by simp[bO]⟩,Pv (i+1),λaR H' p'=>⟨xs.length - (i+1),by lia,rfl,bO,p'⟩,λx H' y=>?_⟩
  obtain⟨e,y⟩:=y;subst e;exact hs i x σ _ (y xs q) p
 ·have e:i=xs.length:=by lia
  subst e;exact .inl ⟨⟨xs,q,Nat.le_refl _⟩,hd σ H p⟩
theorem RD{K:PySem.W.Frag}{a:Addr}{xs:List V}{g:TG}{tb:TS}{D:Ends}{σ:St}{H:Hp}(Pv:Nat->St->Hp->Prop)(h0:Pv 0 σ H)(hl:∀i σ H,i<=xs.length->Pv i σ H->bA K H a xs)
  (hs:∀i x σ H,xs[i]? = some x->Pv i σ H->g x σ H λaD H2=>tb { D with nx:=Pv (i+1),ct:=Pv (i+1),bk:=D.nx } aD H2) (hd:∀σ H,Pv xs.length σ H->D.nx σ H) :
  ∃W:Nat->Nat->St->Hp->Prop,(∃m,W 0 m σ H)/\∀i m σ H,W i m σ H->
   ((qx K a).stop i H/\D.nx σ H)\/((qx K a).go i H/\∃N:St->Hp->Prop,(∀aR H',N aR H'->∃m',m' < m/\W (i+1) m' aR H')/\∀x H',(qx K a).jx i H x H'->g x σ H' λaD H2=>tb { D with nx:=N,ct:=N,bk:=D.nx } aD H2):=by
 refine⟨λi m σ H=>m=xs.length - i/\i<=xs.length/\Pv i σ H,⟨xs.length,by simp,Nat.zero_le _,h0⟩,?_⟩
 rintro i m σ H ⟨rfl,hi,p⟩;have q:=hl i σ H hi p;by_cases bO:i<xs.length
 ·refine .inr ⟨⟨xs,xs[i],q,by simp[bO]⟩,Pv (i+1),λaR H' p'=>⟨xs.length - (i+1),by lia,rfl,bO,p'⟩,λx H' y=>?_⟩
  obtain⟨e,y⟩:=y;subst e;exact hs i x σ _ (y xs q) p
 ·have e:i=xs.length:=by lia
  subst e;exact .inl ⟨⟨xs,q,Nat.le_refl _⟩,hd σ H p⟩
theorem AW{lo:Int}{n:Nat}{g:TG}{tb:TS}{D:Ends}{σ:St}{H:Hp}(Pv:Nat->St->Hp->Prop)(h0:Pv 0 σ H)
  (hs:∀i σ H,i<n->Pv i σ H->g (.int (lo+i)) σ H λaD H2=>tb { D with nx:=Pv (i+1),ct:=Pv (i+1),bk:=D.nx } aD H2) (hd:∀σ H,Pv n σ H->D.nx σ H) :
  ∃W:Nat->Nat->St->Hp->Prop,(∃m,W 0 m σ H)/\∀i m σ H,W i m σ H->
   ((mz lo n).stop i H/\D.nx σ H)\/((mz lo n).go i H/\∃N:St->Hp->Prop,(∀aR H',N aR H'->∃m',m' < m/\W (i+1) m' aR H')/\∀x H',(mz lo n).jx i H x H'->g x σ H' λaD H2=>tb { D with nx:=N,ct:=N,bk:=D.nx } aD H2):=by
 refine⟨λi m σ H=>m=n - i/\i<=n/\Pv i σ H,⟨n,by simp,Nat.zero_le _,h0⟩,?_⟩
 rintro i m σ H ⟨rfl,hi,p⟩;by_cases bO:i<n
 ·refine .inr ⟨bO,Pv (i+1),λaR H' p'=>⟨n - (i+1),by lia,rfl,bO,p'⟩,λx H' y=>?_⟩
  obtain⟨e,y⟩:=y;subst e y;exact hs i σ _ bO p
 ·have e:i=n:=by lia
  subst e;exact .inl ⟨Nat.le_refl _,hd σ H p⟩
noncomputable abbrev R2:=V->V->Hp->VK->Prop
noncomputable def dR(X:Cx)(f:Value->Value->Sem Value)(r:R2):Prop :=
 ∀(pins:List (Addr×Obj)) (s:Shared) (σ:St) (H:Hp) (x y:V) (v u:Value) (Q:VK),Inv X pins σ H s->RelV x v->RelV y u->r x y H Q->
  wpAny (model X.prog X.w) X.A (f v u) (EP X pins σ Q) X.xe s
noncomputable def AX(X:Cx)(f:Value->Sem Value)(r:V->Hp->VK->Prop):Prop :=
 ∀(pins:List (Addr×Obj)) (s:Shared) (σ:St) (H:Hp) (x:V) (v:Value) (Q:VK),Inv X pins σ H s->RelV x v->r x H Q->
  wpAny (model X.prog X.w) X.A (f v) (EP X pins σ Q) X.xe s
noncomputable def fP(X:Cx)(f:Value)(r:List V->Hp->VK->Prop):Prop :=
 ∀(pins:List (Addr×Obj)) (s:Shared) (σ:St) (H:Hp) (xs:List V) (us:List Value) (Q:VK),Inv X pins σ H s->Vals xs us->r xs H Q->
  wpAny (model X.prog X.w) X.A (call f us) (EP X pins σ Q) X.xe s
noncomputable def oO(r:R2)(ta tb:TE):TE:=λσ H Q=>ta σ H λx H1=>tb σ H1 λy H2=>r x y H2 Q
noncomputable def AY(r:V->Hp->VK->Prop)(ta:TE):TE:=λσ H Q=>ta σ H λx H1=>r x H1 Q
noncomputable def rI(C:Int->Int->Prop)(g:Int->Int->V):R2:=λx y H Q=>∃i j,x = .int i/\y = .int j/\C i j/\Q (g i j) H
noncomputable def jR(g:Int->Int->V):R2:=λx y H Q=>∃i j,x = .int i/\y = .int j/\Q (g i j) H
noncomputable def rU(g:Int->V):V->Hp->VK->Prop:=λx H Q=>∃i,x = .int i/\Q (g i) H
section
variable{X:Cx}{a b c:Expr}{ta tb tc:TE}{pos:Pos}
theorem AZ(ha:PE X a ta)(hb:PE X b tb){pins:List (Addr×Obj)}{s:Shared}{σ:St}{H:Hp}{R:V->V->Hp->Prop}(I:Inv X pins σ H s)
  (h:ta σ H λx H1=>tb σ H1 λy H2=>R x y H2) {Q:Value->Shared->Prop} {f:Value->Value->Sem Value}
  (hf:∀v u s2 x y H2,Inv X pins σ H2 s2->RelV x v->RelV y u->R x y H2->wpAny (model X.prog X.w) X.A (f v u) Q X.xe s2) :
  wpAny (model X.prog X.w) X.A (eval a X.env) (λv aE=>wpAny (model X.prog X.w) X.A (eval b X.env) (λu cB=>wpAny (model X.prog X.w) X.A (f v u) Q X.xe cB) X.xe aE) X.xe s:=by
 refine aN (ha pins s σ H _ I h) λv s1 ⟨x,H1,I1,r1,q1⟩=>?_;refine aN (hb pins s1 σ H1 _ I1 q1) λu s2 ⟨y,H2,I2,r2,q2⟩=>?_;exact hf v u s2 x y H2 I2 r1 r2 q2
theorem aF{op:Operator}{r:R2}(ho:dR X (binaryOp op) r)(ha:PE X a ta)(hb:PE X b tb):PE X (.BinOp a op b pos) (oO r ta tb):=by
 intro pins s σ H Q I h;exact wpAny_BinOp (AZ ha hb I h λv u s2 x y H2 I2 rx ry q=>ho pins s2 σ H2 x y v u Q I2 rx ry q)
theorem Iw{op:UnaryOp}{r:V->Hp->VK->Prop}(ho:AX X (unaryOp op) r)(ha:PE X a ta):PE X (.UnaryOp op a pos) (AY r ta):=by
 intro pins s σ H Q I h;exact UnaryOp_ (aN (ha pins s σ H _ I h) λv s1 ⟨x,H1,I1,r1,q1⟩=>ho pins s1 σ H1 x v Q I1 r1 q1)
theorem uZ{f:Value->Value->Sem Value}{C:Int->Int->Prop}{g:Int->Int->Int}
  (rule:∀(i j:Int) (t u:Tok) (s:Shared) (Q:Value->Shared->Prop) (E:Value->Shared->Prop),C i j->Q (.int (g i j) s.toks) { s with toks:=s.toks+1 }->wpAny (model X.prog X.w) X.A (f (.int i t) (.int j u)) Q E s) :
  dR X f (rI C λi j=>.int (g i j)):=by
 intro pins s σ H x y v u Q I rx ry h;obtain⟨i,j,rfl,rfl,hc,q⟩:=h;obtain⟨t,rfl⟩:=rx;obtain⟨t',rfl⟩:=ry;exact rule i j t t' s _ _ hc ⟨.int (g i j),H,I.tok _,⟨_,rfl⟩,q⟩
theorem Iz{f:Value->Value->Sem Value}{g:Int->Int->Int}
  (rule:∀(i j:Int) (t u:Tok) (s:Shared) (Q:Value->Shared->Prop) (E:Value->Shared->Prop),Q (.int (g i j) s.toks) { s with toks:=s.toks+1 }->wpAny (model X.prog X.w) X.A (f (.int i t) (.int j u)) Q E s) :
  dR X f (jR λi j=>.int (g i j)):=by
 intro pins s σ H x y v u Q I rx ry h;obtain⟨i,j,rfl,rfl,q⟩:=h;obtain⟨t,rfl⟩:=rx;obtain⟨t',rfl⟩:=ry;exact rule i j t t' s _ _ ⟨.int (g i j),H,I.tok _,⟨_,rfl⟩,q⟩
theorem A0{f:Value->Value->Sem Value}{g:Int->Int->Bool}
  (rule:∀(i j:Int) (t u:Tok) (s:Shared) (Q:Value->Shared->Prop) (E:Value->Shared->Prop),Q (.bool (g i j)) s->wpAny (model X.prog X.w) X.A (f (.int i t) (.int j u)) Q E s) :
  dR X f (jR λi j=>.bl (g i j)):=by
 intro pins s σ H x y v u Q I rx ry h;obtain⟨i,j,rfl,rfl,q⟩:=h;obtain⟨t,rfl⟩:=rx;obtain⟨t',rfl⟩:=ry;exact rule i j t t' s _ _ ⟨.bl (g i j),H,I,rfl,q⟩
noncomputable def A1(i j:Int):Prop:=0<j/\j<1073741824
noncomputable def A2(i j:Int):Prop:=0<=j/\j<=1000000/\i.natAbs<2 ^ 64
noncomputable def qD(i j:Int):Prop:=(-(2 ^ 64)<i/\i<2 ^ 64)\/(-(2 ^ 64)<j/\j<2 ^ 64)
theorem qD.ok{i j:Int}(h:qD i j):IntMulOk i j:=by
 rcases h with⟨h1,h2⟩ | ⟨h1,h2⟩
 ·exact .of_left (intBits_le_64 h1 h2)
 ·exact .of_right (intBits_le_64 h1 h2)
theorem cg:dR X (binaryOp .Add) (jR λi j=>.int (i+j)):=Iz λ_ _ _ _ _ _ _ q=>add_int q
theorem iU:dR X (binaryOp .Sub) (jR λi j=>.int (i - j)):=Iz λ_ _ _ _ _ _ _ q=>sub_int q
theorem jz:dR X (binaryOp .Mult) (rI qD λi j=>.int (i*j)):=uZ λ_ _ _ _ _ _ _ hc q=>mul_int q hc.ok
theorem u0:dR X (binaryOp .FloorDiv) (rI A1 λi j=>.int (i / j)):=uZ λi j _ _ _ _ _ hc q=>by
 have h1:(0:Int)<j:=hc.1;have h2:j<1073741824:=hc.2;exact floordiv_int (by lia) (by rw[Int.fdiv_eq_ediv_of_nonneg i (by lia)];exact q) (.inl (PyProof.noPylong_small (by lia)))
theorem bL:dR X (binaryOp .Mod) (rI (λ_ j=>0<j) λi j=>.int (i % j)):=uZ λi j _ _ _ _ _ hc q=>by
 have h1:(0:Int)<j:=hc;exact mod_int' (by lia) (by rw[Int.fmod_eq_emod_of_nonneg i (by lia)];exact q)
theorem mD:dR X (binaryOp .Pow) (rI A2 λi j=>.int (i ^ j.toNat)):=uZ λ_ _ _ _ _ _ _ hc q=>pow_int_small hc.1 hc.2.1 hc.2.2 q
theorem RE{f:Value->Sem Value}{g:Int->Int}
  (rule:∀(i:Int) (t:Tok) (s:Shared) (Q:Value->Shared->Prop) (E:Value->Shared->Prop),Q (.int (g i) s.toks) { s with toks:=s.toks+1 }->wpAny (model X.prog X.w) X.A (f (.int i t)) Q E s) :
  AX X f (rU λi=>.int (g i)):=by
 intro pins s σ H x v Q I rx h;obtain⟨i,rfl,q⟩:=h;obtain⟨t,rfl⟩:=rx;exact rule i t s _ _ ⟨.int (g i),H,I.tok _,⟨_,rfl⟩,q⟩
theorem IA:AX X (unaryOp .USub) (rU λi=>.int (-i)):=RE λ_ _ _ _ _ q=>neg_int q
end
noncomputable def jA:V->V->Bool
 | .aG,.aG=>true | .aG,.int _=>true | .int _,.aG=>true | .aG,.bl _=>true | .bl _,.aG=>true | .aG,.str _=>true | .str _,.aG=>true
 | .int _,.int _=>true | .bl _,.bl _=>true | .str _,.str _=>true | .ie _,.ie _=>true
 | .int _,.str _=>true | .str _,.int _=>true | .bl _,.str _=>true | .str _,.bl _=>true
 | _,_=>false
noncomputable def A3:R2:=λx y H Q=>jA x y=true/\Q (.bl (decide (x=y))) H
noncomputable def A4:R2:=λx y H Q=>jA x y=true/\Q (.bl (!decide (x=y))) H
theorem IC{i j:Int}:decide (V.int i=V.int j)=(i == j):=by
 rw[Bool.eq_iff_iff];simp
theorem ID{i j:Bool}:decide (V.bl i=V.bl j)=(i == j):=by
 rw[Bool.eq_iff_iff];simp
theorem IE{i j:Str}:decide (V.str i=V.str j)=(i == j):=by
 rw[Bool.eq_iff_iff];simp
theorem IF{i j:Array UInt8}:decide (V.ie i=V.ie j)=(i.toList == j.toList):=by
 rw[Bool.eq_iff_iff];cases i;cases j;simp
section
variable{X:Cx}{a b c:Expr}{ta tb tc:TE}{pos:Pos}
theorem cG{pins:List (Addr×Obj)}{σ:St}{H:Hp}{s:Shared}{Q:VK}{k k':Bool}(I:Inv X pins σ H s)(q:Q (.bl k) H)(e:k=k'):EP X pins σ Q (.bool k') s:=by
 subst e;exact⟨.bl k,H,I,rfl,q⟩
theorem d_:dR X (compareOp .Eq) A3:=by
 intro pins s σ H x y v u Q I rx ry h;obtain⟨hs,q⟩:=h;cases x with
 | aG =>
  cases rx;cases y with
  | aG=>cases ry;exact PySem.EqNone.eq_none_none (cG I q (by simp))
  | bl j=>cases ry;exact PySem.EqNone.eq_none_bool (cG I q (by simp))
  | int j=>obtain⟨t',rfl⟩:=ry;exact PySem.EqNone.eq_none_int (cG I q (by simp))
  | str j=>obtain⟨t',rfl⟩:=ry;exact PySem.EqNone.eq_none_str (cG I q (by simp))
  | _=>exact absurd (show false=true from hs) Bool.false_ne_true
 | bl i =>
  cases rx;cases y with
  | aG=>cases ry;exact PySem.EqNone.eq_bool_none (cG I q (by simp))
  | bl j=>cases ry;exact eq_bool (cG I q ID)
  | str j=>obtain⟨t',rfl⟩:=ry;exact PySem.EqMixed.eq_bool_str (cG I q (by simp))
  | _=>exact absurd (show false=true from hs) Bool.false_ne_true
 | int i =>
  obtain⟨t,rfl⟩:=rx;cases y with
  | aG=>cases ry;exact PySem.EqNone.eq_int_none (cG I q (by simp))
  | int j=>obtain⟨t',rfl⟩:=ry;exact eq_int (cG I q IC)
  | str j=>obtain⟨t',rfl⟩:=ry;exact PySem.EqMixed.eq_int_str (cG I q (by simp))
  | _=>exact absurd (show false=true from hs) Bool.false_ne_true
 | str i =>
  obtain⟨t,rfl⟩:=rx;cases y with
  | aG=>cases ry;exact PySem.EqNone.eq_str_none (cG I q (by simp))
  | bl j=>cases ry;exact PySem.EqMixed.eq_str_bool (cG I q (by simp))
  | int j=>obtain⟨t',rfl⟩:=ry;exact PySem.EqMixed.eq_str_int (cG I q (by simp))
  | str j=>obtain⟨t',rfl⟩:=ry;exact eq_str (cG I q IE)
  | _=>exact absurd (show false=true from hs) Bool.false_ne_true
 | ie i =>
  obtain⟨t,rfl⟩:=rx;cases y with
  | ie j=>obtain⟨t',rfl⟩:=ry;exact PySem.W.eq_bytes (cG I q IF)
  | _=>exact absurd (show false=true from hs) Bool.false_ne_true
 | _=>cases y <;> exact absurd (show false=true from hs) Bool.false_ne_true
theorem jS:dR X (compareOp .NotEq) A4:=by
 intro pins s σ H x y v u Q I rx ry h;obtain⟨hs,q⟩:=h;cases x with
 | aG =>
  cases rx;cases y with
  | aG=>cases ry;exact PySem.EqNone.ne_none_none (cG I q (by simp))
  | bl j=>cases ry;exact PySem.EqNone.ne_none_bool (cG I q (by simp))
  | int j=>obtain⟨t',rfl⟩:=ry;exact PySem.EqNone.ne_none_int (cG I q (by simp))
  | str j=>obtain⟨t',rfl⟩:=ry;exact PySem.EqNone.ne_none_str (cG I q (by simp))
  | _=>exact absurd (show false=true from hs) Bool.false_ne_true
 | bl i =>
  cases rx;cases y with
  | aG=>cases ry;exact PySem.EqNone.ne_bool_none (cG I q (by simp))
  | bl j=>cases ry;exact ne_bool (cG I q (congrArg not ID))
  | str j=>obtain⟨t',rfl⟩:=ry;exact PySem.EqMixed.ne_bool_str (cG I q (by simp))
  | _=>exact absurd (show false=true from hs) Bool.false_ne_true
 | int i =>
  obtain⟨t,rfl⟩:=rx;cases y with
  | aG=>cases ry;exact PySem.EqNone.ne_int_none (cG I q (by simp))
  | int j=>obtain⟨t',rfl⟩:=ry;exact ne_int (cG I q (congrArg not IC))
  | str j=>obtain⟨t',rfl⟩:=ry;exact PySem.EqMixed.ne_int_str (cG I q (by simp))
  | _=>exact absurd (show false=true from hs) Bool.false_ne_true
 | str i =>
  obtain⟨t,rfl⟩:=rx;cases y with
  | aG=>cases ry;exact PySem.EqNone.ne_str_none (cG I q (by simp))
  | bl j=>cases ry;exact PySem.EqMixed.ne_str_bool (cG I q (by simp))
  | int j=>obtain⟨t',rfl⟩:=ry;exact PySem.EqMixed.ne_str_int (cG I q (by simp))
  | str j=>obtain⟨t',rfl⟩:=ry;exact ne_str (cG I q (congrArg not IE))
  | _=>exact absurd (show false=true from hs) Bool.false_ne_true
 | ie i =>
  obtain⟨t,rfl⟩:=rx;cases y with
  | ie j=>obtain⟨t',rfl⟩:=ry;exact PySem.W.ne_bytes (cG I q (congrArg not IF))
  | _=>exact absurd (show false=true from hs) Bool.false_ne_true
 | _=>cases y <;> exact absurd (show false=true from hs) Bool.false_ne_true
theorem gG:dR X (compareOp .Lt) (jR λi j=>.bl (decide (i<j))):=A0 λ_ _ _ _ _ _ _ q=>lt_int q
theorem kY:dR X (compareOp .Gt) (jR λi j=>.bl (decide (j<i))):=A0 λ_ _ _ _ _ _ _ q=>gt_int q
theorem qE:dR X (compareOp .GtE) (jR λi j=>.bl (decide (j<=i))):=A0 λ_ _ _ _ _ _ _ q=>ge_int q
theorem u5:dR X (compareOp .Is) (λx y H Q=>y = .aG/\Q (.bl (decide (x = .aG))) H):=by
 intro pins s σ H x y v u Q I rx ry h;obtain⟨rfl,q⟩:=h;cases ry;refine is_none_gen (cG I q ?_);cases x <;> first
  | (cases rx;rfl)
  | (obtain⟨t,rfl⟩:=rx;rfl)
theorem RG:dR X (compareOp .IsNot) (λx y H Q=>y = .aG/\Q (.bl (!decide (x = .aG))) H):=by
 intro pins s σ H x y v u Q I rx ry h;obtain⟨rfl,q⟩:=h;cases ry;refine isnot_none_gen (cG I q ?_);cases x <;> first
  | (cases rx;rfl)
  | (obtain⟨t,rfl⟩:=rx;rfl)
theorem a_(b:Expr){op:CmpOp}(h:op≠.In:=by decide)(h2:op≠.NotIn:=by decide):behindInMarks op b=false:=by
 have e1:(op == CmpOp.In)=false:=by cases op <;> first | rfl | exact absurd rfl h
 have e2:(op == CmpOp.NotIn)=false:=by cases op <;> first | rfl | exact absurd rfl h2
 cases b <;> simp[behindInMarks,e1,e2]
theorem mF{op:CmpOp}{r:R2}(ho:dR X (compareOp op) r)(ha:PE X a ta)(hb:PE X b tb)(hm:behindInMarks op b=false):PE X (.Compare a [op] [b] pos) (oO r ta tb):=by
 intro pins s σ H Q I h;exact wpAny_Compare1 (AZ ha hb I h λv u s2 x y H2 I2 rx ry q=>ho pins s2 σ H2 x y v u Q I2 rx ry q) hm
noncomputable def A5(t:TE):TT:=λσ H Q=>t σ H λx H'=>∃k,x = .bl k/\Q k H'
theorem bw{op:CmpOp}{r:R2}(ho:dR X (compareOp op) r)(ha:PE X a ta)(hb:PE X b tb)(hm:behindInMarks op b=false):PT X (.Compare a [op] [b] pos) (A5 (oO r ta tb)):=by
 intro pins s σ H Q I h;refine wpAny_isTrue_Compare1 (aN (ha pins s σ H _ I h) λv s1 ⟨x,H1,I1,r1,q1⟩=>aN (hb pins s1 σ H1 _ I1 q1) λu s2 ⟨y,H2,I2,r2,q2⟩ =>
  aN (ho pins s2 σ H2 x y v u _ I2 r1 r2 q2) λc s3 ⟨z,H3,I3,r3,k,e,q3⟩=>?_) hm
 subst e;cases r3;exact wpAny_truthy_bool ⟨H3,I3,q3⟩
noncomputable def IG(r r':R2)(ta tb tc:TE):TE:=λσ H Q=>ta σ H λx H1=>tb σ H1 λy H2=>r x y H2 λz H3=>∃k,z = .bl k/\
 (if k=true then tc σ H3 λw' H4=>r' y w' H4 Q else Q (.bl false) H3)
theorem qF:(sizeLine:Nat)<2 ^ 63:=by rw[sizeLine_eq];decide
theorem vals1{x:V}{us:List Value}(r:Vals [x] us):∃u,us = [u]/\RelV x u:=by
 cases r with
 | cons r1 r2=>cases r2;exact⟨_,rfl,r1⟩
theorem vals2{x y:V}{us:List Value}(r:Vals [x,y] us):∃u w',us = [u,w']/\RelV x u/\RelV y w':=by
 cases r with
 | cons r1 r2 =>
  cases r2 with
  | cons r3 r4=>cases r4;exact⟨_,_,rfl,r1,r3⟩
theorem RH:fP X (.builtin "abs") (λxs H Q=>∃i,xs = [.int i]/\Q (.int (if i<0 then -i else i)) H):=by
 intro pins s σ H xs us Q I r h;obtain⟨i,rfl,q⟩:=h;obtain⟨u,rfl,t,rfl⟩:=vals1 r;exact call_abs_int λu tk=>⟨.int (if i<0 then -i else i),H,I.tok _,⟨_,rfl⟩,q⟩
theorem u6(hc:X.calm=true):fP X (.builtin "max") (λxs H Q=>∃i j,xs = [.int i,.int j]/\Q (.int (if j > i then j else i)) H):=by
 intro pins s σ H xs us Q I r h;obtain⟨i,j,rfl,q⟩:=h;obtain⟨u,w',rfl,⟨t,rfl⟩,⟨t',rfl⟩⟩:=vals2 r;refine max_two_ints (I.ok.hd hc) λh' tk k=>⟨_,H,I.kept k,?_,q⟩;by_cases hj:j > i
 ·rw[if_pos hj,if_pos hj];exact⟨_,rfl⟩
 ·rw[if_neg hj,if_neg hj];exact⟨_,rfl⟩
theorem A6(hc:X.calm=true):fP X (.builtin "min") (λxs H Q=>∃i j,xs = [.int i,.int j]/\Q (.int (if j<i then j else i)) H):=by
 intro pins s σ H xs us Q I r h;obtain⟨i,j,rfl,q⟩:=h;obtain⟨u,w',rfl,⟨t,rfl⟩,⟨t',rfl⟩⟩:=vals2 r;refine min_two_ints (I.ok.hd hc) λh' tk k=>⟨_,H,I.kept k,?_,q⟩;by_cases hj:j<i
 ·rw[if_pos hj,if_pos hj];exact⟨_,rfl⟩
 ·rw[if_neg hj,if_neg hj];exact⟨_,rfl⟩
end
structure mG(h:Heap)(x dx C:Addr)(mA:Str->Option Value):Prop where
 obj:h.get? x=some (PySem.W.instObj C dx)
 ns:h.Ns1 dx mA
 ne:dx≠x
theorem II{h:Heap}{dx:Addr}{mA:Str->Option Value}(n:h.Ns1 dx mA):∃od,h.get? dx=some od/\∀name,PySem.W.lookIn name od=some (mA name):=by
 obtain⟨o,es,ep,ho,hd,hk,_,hm⟩:=n;refine⟨o,ho,λname=>?_⟩
 have e:=hm name;unfold nsFind findBy at e;rw[← Array.find?_toList] at e;unfold PySem.W.lookIn;rw[hd];dsimp only;split
 ·rename_i y q;rw[q] at e;exact congrArg some e
 ·rename_i q;rw[q] at e;have a:es.toList.any (·.refKey)=false:=by
   rw[List.any_eq_false];intro y hy;obtain⟨z,t,kZ⟩:=hk y (Array.mem_toList_iff.mp hy);simp[DictEntry.refKey,kZ]
  have a':¬ es.toList.any (·.refKey)=true:=by rw[a];exact Bool.false_ne_true
  rw[if_neg a'];exact congrArg some e
theorem mG.look{h:Heap}{x dx C:Addr}{mA:Str->Option Value}(I:mG h x dx C mA):∃od,PySem.W.InstAt h x (PySem.W.instObj C dx) C (some od)/\∀name,PySem.W.lookIn name od=some (mA name) :=
 let ⟨od,ho,hl⟩:=II I.ns
 ⟨od,⟨I.obj,rfl,rfl,ho⟩,hl⟩
section
variable{prog:Program}{w:World}{A:Around}{E:Value->Shared->Prop}{s:Shared}{K:PySem.W.Frag}{x dx C f:Addr}{mA:Str->Option Value}{name:Str}{v:Value}
theorem get_map{expr:Bool}{Q:Value->Shared->Prop}(X:K.In s.heap)(I:mG s.heap x dx C mA)(hg:PySem.W.plainGet K C name=true)(hh:PySem.W.hasDictIn K C=true)
  (ha:PySem.W.findIn K (.ref C) name=some none) (hv:mA name=some v) (RI:PySem.W.handedIn v=true) (h:Q v { s with toks:=s.toks+1 }) :
  wpAny (model prog w) A (getAttr (.ref x) name expr) Q E s:=by
 obtain⟨od,J,hl⟩:=I.look;exact PySem.W.get_value X J (PySem.W.plainGet_of hg).1 (PySem.W.findObj_own hh ha rfl (by rw[hl,hv])) RI h
theorem RJ{pl:Sem Bool}{Q:Value×List Value->Shared->Prop}(X:K.In s.heap)(I:mG s.heap x dx C mA)(hg:PySem.W.plainGet K C name=true)
  (hf:PySem.W.findIn K (.ref C) name=some (some (.ref f))) (ht:PySem.W.isFn K (.ref f)=true) (hv:mA name=none) (h:Q (.ref f,[.ref x]) s) :
  wpAny (model prog w) A (getMethod (.ref x) name pl) Q E s:=by
 obtain⟨od,J,hl⟩:=I.look;exact PySem.W.method_fn X J (PySem.W.plainGet_of hg).1 (PySem.W.plainGet_of hg).2 hf (beq_iff_eq.mp ht) (by show (PySem.W.lookIn name od).map (·.isSome)=some false;rw[hl,hv];rfl) h
theorem RK{ns:List Str}{Q:Unit->Shared->Prop}(X:K.In s.heap)(I:mG s.heap x dx C mA)
  (hs:PySem.W.findIn K (.ref C) "__setattr__" = some (some (.builtin "object.__setattr__"))) (hp:PySem.W.plainOver K C=true) (ht:PySem.W.takerIn K C name=some none) (hh:PySem.W.hasDictIn K C=true)
  (hw:PySem.Within mA ns) (hsz:ns.length<=sizeLine)
  (h:∀h',mG h' x dx C (λy=>if y=name then some v else mA y)->Heap.SameBut dx s.heap h'->Q () { s with heap:=h',toks:=s.toks+2 }) :
  wpAny (model prog w) A (setAttr (.ref x) name v) Q E s:=by
 obtain⟨od,J,hl⟩:=I.look;refine PySem.W.set_plain X J hs (PySem.W.osa_open (s:={ s with toks:=s.toks+1 }) (r:=none) X J hp ht λb=>?_)
 obtain⟨cd,hc,cJ⟩:=PySem.W.any_some hh;have hx:s.heap.get? x=some ⟨.ref C,some dx,.plain,#[]⟩:=I.obj;refine wpAny_bind (wpAny_pure (wpAny_bind (wpAny_bind (wpAny_loadPart hx (wpAny_bind (PySem.W.Looks.here (s:={ s with toks:=s.toks+1 }) (PySem.W.looks_clsIn X hc) ?_))))));rw[cJ];refine wpAny_pure (a:=some dx) (wpAny_bind (wpAny_pure (wpAny_bind ?_)));refine wpAny_nsSet1 (s:={ s with toks:=s.toks+1 }) I.ns λh' oR jy=>?_;obtain⟨oD,IJ,IK,qG,qH,qI⟩:=oR.count (PySem.Within.cons name v hw);refine wpAny_bind (wpAny_lookBehind qG (by rw[qH];exact pastItsLine_dict (Nat.le_trans qI (by rw[List.length_cons];lia))) ?_)
 exact wpAny_pure (h _ ⟨(jy.2 _ (Ne.symm I.ne)).trans I.obj,oR,I.ne⟩ jy)
theorem IL{R:Result->Shared->Prop}{vs:List Value}{kw:List (Str×Value)}(X:K.In s.heap)(hm:PySem.W.makesIn K C=true)
  (hi:PySem.W.findIn K (.ref C) "__init__" = some (some (.ref f))) (hf:PySem.W.typeIn K (.ref f)=some (.type "function"))
  (h:codeAny (model prog w) (A.under (.builtin "type.__call__" ⟨.ref C::vs,kw⟩)) (.call (.ref f) ⟨.ref (s.heap.objs.size+1)::vs,kw⟩) (PySem.W.InitBack (s.heap.objs.size+1) R)
   { s with heap:=(s.heap.push PySem.W.emptyDict).push (PySem.W.instObj C s.heap.objs.size)}) :
  codeAny (model prog w) A (.call (.ref C) ⟨vs,kw⟩) R s:=by
 obtain⟨hh,g,d,t,os⟩:=s;exact PySem.W.make_core (PySem.W.makes_of X hm) (PySem.W.looks_findIn X hi) (λself=>PySem.W.bind_fn X self hf) (.inl rfl) h
end
noncomputable def cX(f:Str)(v:V):List (Str×V)->List (Str×V)
 | []=>[(f,v)]
 | (g,x)::r=>if g=f then(g,v)::r else(g,x)::cX f v r
theorem A7(f g:Str)(v:V):∀fs:List (Str×V),(cX f v fs).lookup g=if g=f then some v else fs.lookup g
 | []=>by
  show List.lookup g [(f,v)] = _;by_cases h:g=f
  ·have hb:(g == f)=true:=beq_iff_eq.mpr h;simp only[List.lookup,hb,if_pos h]
  ·have hb:(g == f)=false:=beq_eq_false_iff_ne.mpr h;simp only[List.lookup,hb,if_neg h]
 | (k,x)::r=>by
  have ih:=A7 f g v r;rw[show cX f v ((k,x)::r)=(if k=f then(k,v)::r else(k,x)::cX f v r) from rfl]
  by_cases hk:k=f
  ·rw[if_pos hk];by_cases h:g=k
   ·have hb:(g == k)=true:=beq_iff_eq.mpr h;simp only[List.lookup,hb,if_pos (h.trans hk)]
   ·have hb:(g == k)=false:=beq_eq_false_iff_ne.mpr h;simp only[List.lookup,hb,if_neg (λe:g=f=>h (e.trans hk.symm))]
  ·rw[if_neg hk];by_cases h:g=k
   ·have hb:(g == k)=true:=beq_iff_eq.mpr h;simp only[List.lookup,hb,if_neg (λe:g=f=>hk (h.symm.trans e))]
   ·have hb:(g == k)=false:=beq_eq_false_iff_ne.mpr h;simp only[List.lookup,hb];exact ih
theorem A8(f:Str)(v:V):∀fs:List (Str×V),f∈(cX f v fs).map (·.1)/\∀g,g∈fs.map (·.1)->g∈(cX f v fs).map (·.1)
 | []=>⟨by simp[cX],λg h=>by simp at h⟩
 | (k,x)::r=>by
  obtain⟨i1,i2⟩:=A8 f v r;rw[show cX f v ((k,x)::r)=(if k=f then(k,v)::r else(k,x)::cX f v r) from rfl]
  by_cases hk:k=f
  ·rw[if_pos hk];subst hk;exact⟨by simp,λg h=>by simpa using h⟩
  ·rw[if_neg hk];refine⟨?_,λg h=>?_⟩
   ·rw[List.map_cons];exact List.mem_cons_of_mem _ i1
   ·rw[List.map_cons] at h ⊢;rcases List.mem_cons.mp h with e | e
    ·exact List.mem_cons.mpr (.inl e)
    ·exact List.mem_cons_of_mem _ (i2 g e)
theorem IM(f:Str)(v:V):∀fs:List (Str×V),(cX f v fs).length<=fs.length+1
 | []=>by simp[cX]
 | (k,x)::r=>by
  have ih:=IM f v r;rw[show cX f v ((k,x)::r)=(if k=f then(k,v)::r else(k,x)::cX f v r) from rfl]
  by_cases hk:k=f
  ·rw[if_pos hk,List.length_cons,List.length_cons];lia
  ·rw[if_neg hk,List.length_cons,List.length_cons];lia
theorem dO.some_of{v:V}{o:Option Value}(r:dO (some v) o):∃u,o=some u/\RelV v u:=by
 cases o with
 | none=>exact(show False from r).elim
 | some u=>exact⟨u,rfl,r⟩
theorem dO.none_of{o:Option Value}(r:dO none o):o=none:=by
 cases o with
 | none=>rfl
 | some u=>exact(show False from r).elim
theorem IP{v:V}{u:Value}(r:RelV v u):PySem.W.handedIn u=true:=by
 cases v with
 | aG=>cases (show u=Value.none from r);rfl
 | bl b=>cases (show u=Value.bool b from r);rfl
 | int i=>obtain⟨t,e⟩:=(show ∃t,u=Value.int i t from r);cases e;rfl
 | str x=>obtain⟨t,e⟩:=(show ∃t,u=Value.str x t from r);cases e;rfl
 | ie b=>obtain⟨t,e⟩:=(show ∃t,u=Value.bytes b t from r);cases e;rfl
 | kJ b=>obtain⟨t,e⟩:=(show ∃t,u=Value.float b t from r);cases e;rfl
 | ref a=>cases (show u=Value.ref a from r);rfl
 | ty n=>cases (show u=Value.type n from r);rfl
section
variable{P:Program}{w:World}{H H':Hp}{h h':Heap}{a C dx:Addr}{fs uM:List (Str×V)}
theorem qJ(az:bQ P w H h)(e:H a=some (.ins C dx fs)):∃mA,mG h a dx C mA/\(∀f,dO (fs.lookup f) (mA f))/\PySem.Within mA (fs.map (·.1))/\fs.length<=1000/\H dx=some (.own a):=by
 obtain⟨d,z,ne,ob,mA,n,r,q⟩:=(show bW P w H h a (.ins C dx fs) from az a _ e);exact⟨mA,⟨ob,n,ne⟩,r,q,z,d⟩
end
structure eg(K:PySem.W.Frag)(C:Addr):Prop where
 pg:PySem.W.plainGet K C Str.empty=true
 hd:PySem.W.hasDictIn K C=true
 po:PySem.W.plainOver K C=true
 sa:PySem.W.findIn K (.ref C) "__setattr__" = some (some (.builtin "object.__setattr__"))
theorem eg.get{K:PySem.W.Frag}{C:Addr}(c:eg K C)(f:Str):PySem.W.plainGet K C f=true:=c.pg
noncomputable def bM(K:PySem.W.Frag)(C:Addr)(f:Str):Prop:=PySem.W.findIn K (.ref C) f=some none
theorem bM.RL{K:PySem.W.Frag}{C:Addr}{f:Str}(n:bM K C f):PySem.W.takerIn K C f=some none:=by
 unfold PySem.W.takerIn;rw[show PySem.W.findIn K (.ref C) f=some none from n]
 rfl
structure Meth(K:PySem.W.Frag)(C:Addr)(m:Str)(f:Addr):Prop where
 at_:PySem.W.findIn K (.ref C) m=some (some (.ref f))
 fn:PySem.W.isFn K (.ref f)=true
 kp:PySem.W.keepIn K (.ref f)=true
section
variable{X:Cx}{pins:List (Addr×Obj)}{σ:St}{H:Hp}{s:Shared}{a C dx:Addr}{fs:List (Str×V)}{f:Str}{v:V}{A:Around}{E:Value->Shared->Prop}
theorem RM{b:Bool}{Q:Value->Shared->Prop}(I:Inv X pins σ H s)(e:H a=some (.ins C dx fs))(c:eg X.K C)(n:bM X.K C f)(l:fs.lookup f=some v)
  (h:∀u s',Inv X pins σ H s'->RelV v u->Q u s'):wpAny (model X.prog X.w) A (getAttr (.ref a) f b) Q E s:=by
 obtain⟨mA,O,r,_,_,_⟩:=qJ I.az e;obtain⟨u,hu,ru⟩:=dO.some_of (v:=v) (o:=mA f) (by rw[← l];exact r f)
 exact get_map I.bC O (c.get f) c.hd n hu (IP ru) (h u _ (I.tok _) ru)
theorem A9{m:Str}{g:Addr}{pl:Sem Bool}{Q:Value×List Value->Shared->Prop}(I:Inv X pins σ H s)(e:H a=some (.ins C dx fs))(c:eg X.K C)(k:Meth X.K C m g)(l:fs.lookup m=none)
  (h:Q (.ref g,[.ref a]) s):wpAny (model X.prog X.w) A (getMethod (.ref a) m pl) Q E s:=by
 obtain⟨mA,O,r,_,_,_⟩:=qJ I.az e;have hn:mA m=none:=dO.none_of (by rw[← l];exact r m)
 exact RJ I.bC O (c.get m) k.at_ k.fn hn h
theorem RO{y:V}{u:Value}{Q:Unit->Shared->Prop}(I:Inv X pins σ H s)(e:H a=some (.ins C dx fs))(c:eg X.K C)(n:bM X.K C f)(hl:fs.length<1000)(ry:RelV y u)
  (h:∀s',Inv X pins σ (upd H a (.ins C dx (cX f y fs))) s'->Q () s'):wpAny (model X.prog X.w) A (setAttr (.ref a) f u) Q E s:=by
 obtain⟨mA,O,r,wi,_,ho⟩:=qJ I.az e;have hz:(fs.map (·.1)).length<=sizeLine:=by rw[List.length_map,sizeLine_eq];lia
 refine RK I.bC O c.sa c.po n.RL c.hd wi hz λh' O' sb=>h _ ?_;have hd:∃o,h'.get? dx=some o:=let ⟨o,_,_,e',_⟩:=O'.ns;⟨o,e'⟩
 refine I.write (x:=a) (e:=dx) (by rw[e];exact True.intro) (.inr ho) (λb q hb z=>(sb.2 b hb).trans z) hd ?_
 refine⟨by rw[au O.ne];exact ho,?_,O.ne,O'.obj,_,O'.ns,λg=>?_,λg hg=>?_⟩
 ·have:=IM f y fs;lia
 ·show dO ((cX f y fs).lookup g) (if g=f then some u else mA g)
  rw[A7];by_cases q:g=f
  ·rw[if_pos q,if_pos q];exact ry
  ·rw[if_neg q,if_neg q];exact r g
 ·by_cases q:g=f
  ·rw[q];exact(A8 f y fs).1
  ·refine(A8 f y fs).2 g (wi g λz=>hg ?_)
   show (if g=f then some u else mA g)=none
   rw[if_neg q];exact z
theorem Inv.made(I:Inv X pins σ H s):Inv X pins σ (upd (upd H s.heap.objs.size (.own (s.heap.objs.size+1))) (s.heap.objs.size+1) (.ins C s.heap.objs.size []))
  { s with heap:=(s.heap.push PySem.W.emptyDict).push (PySem.W.instObj C s.heap.objs.size)}:=by
 have e1:(s.heap.push PySem.W.emptyDict).get? s.heap.objs.size=some PySem.W.emptyDict:=Heap.get?_push_size s.heap rfl;have e2:((s.heap.push PySem.W.emptyDict).push (PySem.W.instObj C s.heap.objs.size)).get? (s.heap.objs.size+1)=some (PySem.W.instObj C s.heap.objs.size):=by
  have:=Heap.get?_push_size (s.heap.push PySem.W.emptyDict) (o:=PySem.W.instObj C s.heap.objs.size) rfl;rwa [Heap.size_push] at this
 have e3:(s.heap.push PySem.W.emptyDict).Ns s.heap.objs.size (λ_=>none):=⟨PySem.W.emptyDict,#[],_,e1,rfl,(λe he=>absurd he (by simp)),λ_=>rfl⟩
 have I1:=I.laid (a:=s.heap.objs.size) (o:=.own (s.heap.objs.size+1)) (h':=s.heap.push PySem.W.emptyDict) (t':=s.toks) (λb u q=>Heap.get?_push_of_some _ q) (Nat.le_refl _) ⟨_,e1⟩;refine I1.laid (a:=s.heap.objs.size+1) (o:=.ins C s.heap.objs.size []) (t':=s.toks) (λb u q=>Heap.get?_push_of_some _ q) (Nat.le_of_eq (Heap.size_push _ _)) ?_;have ne:s.heap.objs.size≠s.heap.objs.size+1:=Nat.ne_of_lt (Nat.lt_succ_self _);refine⟨by rw[au ne,aB],Nat.zero_le _,ne,e2,λ_=>none,(Heap.Ns1.of_empty e3).at λo q=>Heap.get?_push_of_some _ q,λ_=>True.intro,λy hy=>absurd rfl hy⟩
theorem IQ{prog:Program}{w:World}{env:Env}{e:Expr}{f:Str}{pos:Pos}{s:Shared}{Q:Value->Shared->Prop}(hb:attributeBase e f env (eval e env)=eval e env)
  (h:wpAny (model prog w) A (eval e env) (λo aE=>wpAny (model prog w) A (getAttr o f true) Q E aE) E s):wpAny (model prog w) A (eval (.Attribute e f pos) env) Q E s :=
 Attribute_any_ h (by rw[arm_eval_Attribute,hb])
end
noncomputable def A_(K:PySem.W.Frag)(ta:TE)(f:Str):TE:=λσ H Q=>ta σ H λx H1=>∃a C dx fs v,x = .ref a/\H1 a=some (.ins C dx fs)/\eg K C/\bM K C f/\fs.lookup f=some v/\Q v H1
noncomputable def Bb(K:PySem.W.Frag)(ta tv:TE)(f:Str):TS:=λD σ H=>tv σ H λy H1=>ta σ H1 λx H2=>∃a C dx fs,x = .ref a/\H2 a=some (.ins C dx fs)/\eg K C/\bM K C f/\fs.length<1000/\
 D.nx σ (upd H2 a (.ins C dx (cX f y fs)))
section
variable{X:Cx}{o e value:Expr}{f:Str}{pos pos' RP:Pos}{ta tv:TE}
theorem cK(he:PE X e ta)(hb:attributeBase e f X.env (eval e X.env)=eval e X.env):PE X (.Attribute e f pos) (A_ X.K ta f):=by
 intro pins s σ H Q I h;refine IQ hb (aN (he pins s σ H _ I h) λu s1 ⟨x,H1,I1,rx,a,C,dx,fs,v,ex,ea,c,n,l,q⟩=>?_);subst ex;obtain rfl:u=Value.ref a:=rx;exact RM I1 ea c n l λu' s2 I2 ru=>⟨v,H1,I2,ru,q⟩
theorem dU(ha:PE X o ta)(hv:PE X value tv)(hs:swapsWith value (some (.Attribute o f pos')) pos.line X.env=pure false):PS X (.Assign [.Attribute o f pos'] value pos) (Bb X.K ta tv f):=by
 intro pins s σ H D I h;refine plainObj_wpAny_Assign_Attribute (aN (hv pins s σ H _ I h) λu s1 ⟨y,H1,I1,ry,q⟩=>aN (ha pins s1 σ H1 _ I1 q) λov s2 ⟨x,H2,I2,rx,a,C,dx,fs,ex,ea,c,n,l,q2⟩=>?_) hs;subst ex;obtain rfl:ov=Value.ref a:=rx;exact RO I2 ea c n l ry λs3 I3=>⟨σ,_,I3,q2⟩
end
section
variable{X:Cx}{pins:List (Addr×Obj)}{σ:St}{H:Hp}{s:Shared}{A:Around}{E:Value->Shared->Prop}{Q:Value->Shared->Prop}{c:Value}{b:Bool}
inductive fD (K:PySem.W.Frag) (H:Hp):V->Value->Prop where
 | aG:fD K H .aG (.type "NoneType")
 | bl (x:Bool):fD K H (.bl x) (.type "bool")
 | int (i:Int):fD K H (.int i) (.type "int")
 | str (x:Str):fD K H (.str x) (.type "str")
 | kJ (x:UInt64):fD K H (.kJ x) (.type "float")
 | lst {a:Addr} {xs:List V} (e:H a=some (.lst xs)):fD K H (.ref a) (.type "list")
 | eG {a:Addr} {o:Obj} {xs:List V} (e:H a=some (.eG o (.lst xs))):fD K H (.ref a) (.type "list")
 | tup {a:Addr} {xs:List V} (e:H a=some (.tup xs)):fD K H (.ref a) (.type "tuple")
 | dK {a:Addr} {aq:List (Key×V)} (e:H a=some (.dK aq)):fD K H (.ref a) (.type "dict")
 | dT {a:Addr} {aq:List (List Key×V)} (e:H a=some (.dT aq)):fD K H (.ref a) (.type "dict")
 | ins {a C dx:Addr} {fs:List (Str×V)} (e:H a=some (.ins C dx fs)) (cl:eg K C) (ha:PySem.W.findIn K (.ref C) "__class__" = some (some (.builtin "object.__class__")))
   (hn:PySem.W.specialIn K (.builtin "object.__class__") "__get__" = some (some (.builtin "getset_descriptor.__get__"))) (u7:PySem.W.takesIn K (.builtin "object.__class__")=some true)
   (hm:PySem.W.mroIn K C (.type "object")=some true):fD K H (.ref a) (.ref C)
theorem RQ{x:V}{u t:Value}(I:Inv X pins σ H s)(rx:RelV x u)(ty:fD X.K H x t)(e:PySem.W.kitOne X.K t c=some b)(h:∀tk,Q (.bool b) { s with toks:=tk }) :
  wpAny (model X.prog X.w) A (call (.builtin "isinstance") [u,c]) Q E s:=by
 cases ty with
 | aG=>cases (show u=Value.none from rx);exact PySem.W.kia_one PySem.W.kitx_none I.bC True.intro e (λz=>nomatch z) h
 | bl y=>cases (show u=Value.bool y from rx);exact PySem.W.kia_one PySem.W.kitx_bool I.bC True.intro e (λz=>nomatch z) h
 | int i=>obtain⟨t,q⟩:=(show ∃t,u=Value.int i t from rx);cases q;exact PySem.W.kia_one PySem.W.kitx_int I.bC True.intro e (λz=>nomatch z) h
 | str y=>obtain⟨t,q⟩:=(show ∃t,u=Value.str y t from rx);cases q;exact PySem.W.kia_one PySem.W.kitx_str I.bC True.intro e (λz=>nomatch z) h
 | kJ y=>obtain⟨t,q⟩:=(show ∃t,u=Value.float y t from rx);cases q;exact PySem.W.kia_one PySem.W.kitx_float I.bC True.intro e (λz=>nomatch z) h
 | @lst a xs ea =>
  cases (show u=Value.ref a from rx);obtain⟨_,_,n,_,h1⟩:=(show bW X.prog X.w H s.heap a (.lst xs) from I.az a _ ea);exact PySem.W.kia_one PySem.W.kitx_list I.bC ⟨_,h1,rfl⟩ e (λz=>nomatch z) h
 | @eG a ob xs ea =>
  cases (show u=Value.ref a from rx);obtain⟨_,_,_,n,_,h1⟩:=(show bW X.prog X.w H s.heap a (.eG ob (.lst xs)) from I.az a _ ea);exact PySem.W.kia_one PySem.W.kitx_list I.bC ⟨_,h1,rfl⟩ e (λz=>nomatch z) h
 | @tup a xs ea =>
  cases (show u=Value.ref a from rx);obtain⟨_,_,_,p⟩:=(show bW X.prog X.w H s.heap a (.tup xs) from I.az a _ ea);obtain⟨o,h1,h2,_⟩:=p;exact PySem.W.kia_one PySem.W.kitx_tuple I.bC ⟨o,h1,h2⟩ e (λz=>nomatch z) h
 | @dK a aq ea =>
  cases (show u=Value.ref a from rx);obtain⟨_,_,vs,_,p⟩:=(show bW X.prog X.w H s.heap a (.dK aq) from I.az a _ ea);obtain⟨o,es,ep,h1,h2,_⟩:=p;exact PySem.W.kia_one PySem.W.kitx_dict I.bC ⟨o,h1,h2.1⟩ e (λz=>nomatch z) h
 | @dT a aq ea =>
  cases (show u=Value.ref a from rx);obtain⟨_,_,xs,_,o,es,ep,h1,h2,_⟩:=(show bW X.prog X.w H s.heap a (.dT aq) from I.az a _ ea);exact PySem.W.kia_one PySem.W.kitx_dict I.bC ⟨o,h1,h2.1⟩ e (λz=>nomatch z) h
 | @ins a C dx fs ea cl ha hn u7 hm =>
  cases (show u=Value.ref a from rx);obtain⟨mA,O,_⟩:=qJ I.az ea;obtain⟨od,J,_⟩:=O.look;exact PySem.W.kia_one (PySem.W.kitx_own (cl.get _) cl.hd ha hn u7 hm) I.bC J e (λz=>nomatch z) h
end
structure bR(k:Nat)(A:Around):Prop where
 hd:A.handled=none
 dp:A.depth+3*k+5<recursionLimit
 un:A.units+16*k+200<cLine
theorem bR.mono{j k:Nat}{A:Around}(r:bR k A)(h:j<=k):bR j A:=⟨r.hd,by have:=r.dp;lia,by have:=r.un;lia⟩
theorem bR.deeper{k:Nat}{A:Around}(r:bR (k+1) A)(env:Env):bR k (A.deeper env) :=
 ⟨r.hd,by have:=r.dp;show A.depth+1+3*k+5<_;lia,by have:=r.un;show A.units+3+16*k+200<_;lia⟩
theorem RS{A:Around}{C:Addr}{us:List Value}{kw:List (Str×Value)}:(A.under (.builtin "type.__call__" ⟨.ref C::us,kw⟩)).depth=A.depth+1:=by
 first | rfl | simp[Around.under,Code.weight,Code.isCreation,Code.isGuard,Code.isCaller,Code.frames,Code.isFrame,guardIds]
theorem RT{A:Around}{C:Addr}{us:List Value}{kw:List (Str×Value)}:(A.under (.builtin "type.__call__" ⟨.ref C::us,kw⟩)).units=A.units+1:=by
 first | rfl | simp[Around.under,Code.cUnits,Code.frames,Code.isFrame]
theorem bR.make{k:Nat}{A:Around}(r:bR (k+1) A)(C:Addr)(us:List Value)(kw:List (Str×Value)):bR k (A.under (.builtin "type.__call__" ⟨.ref C::us,kw⟩)) :=
 ⟨r.hd,by have:=r.dp;rw[RS];lia,by have:=r.un;rw[RT];lia⟩
theorem bR.depth{k:Nat}{A:Around}(r:bR k A):A.depth<recursionLimit:=by have:=r.dp;lia
theorem bR.units{k:Nat}{A:Around}(r:bR k A):A.units+64<cLine:=by have:=r.un;lia
theorem bR.RU{k:Nat}{A:Around}(r:bR k A):A.units<cLine:=by have:=r.un;lia
noncomputable def u9:TA:=λ_ H Q=>Q [] H
noncomputable def Bc(ta:TE)(tr:TA):TA:=λσ H Q=>ta σ H λx H1=>tr σ H1 λxs H2=>Q (x::xs) H2
section
variable{X:Cx}{e:Expr}{es:List Expr}{te:TE}{t:TA}{pos:Pos}
theorem aj:PA X [] u9:=λ_ _ _ _ H Q I h=>Calls.spliced_nil ⟨[],H,I,.nil,h⟩
theorem aa(ha:PE X e te)(hr:PA X es t)(hs:starEach (e::es) X.env=(false,eval e X.env)::starEach es X.env:=by rfl):PA X (e::es) (Bc te t):=by
 intro pos pins s σ H Q I h;rw[hs]
 show wpAny _ _ (spliced ((false,eval e X.env)::backTo pos (starEach es X.env))) _ _ s;refine Calls.spliced_cons (aN (ha pins s σ H _ I h) λu s1 ⟨x,H1,I1,r1,q1⟩=>?_);exact aN (hr pos pins s1 σ H1 _ I1 q1) λus s2 ⟨xs,H2,I2,r2,q2⟩=>⟨x::xs,H2,I2,.cons r1 r2,q2⟩
noncomputable def Bd(t:TA):TE:=λσ H Q=>t σ H λxs H1=>xs.length<=sizeLine/\∀p,H1 p=none->Q (.ref p) (upd H1 p (.tup xs))
noncomputable def Bf(t:TA):TE:=λσ H Q=>t σ H λxs H1=>xs.length<=sizeLine/\∀p,H1 p=none->Q (.ref p) (upd H1 p (.lst xs))
theorem cY{x1}(h:PA X es t):PE X (.Tuple es x1 pos) (Bd t):=by
 intro pins s σ H Q I hq;refine wpAny_Tuple_spliced (aN (h pos pins s σ H _ I hq) λus s1 ⟨xs,H1,I1,r,z,q⟩=>⟨by rw[← r.length];exact z,?_⟩)
 have hf:H1 s1.heap.objs.size=none:=I1.az.fresh (Nat.le_refl _);refine⟨.ref s1.heap.objs.size,upd H1 s1.heap.objs.size (.tup xs),I1.laid (t':=s1.toks) (λb u e=>Heap.get?_push_of_some _ e) (Nat.le_refl _) ?_,rfl,q _ hf⟩;exact⟨z,us,r,⟨_,Heap.get?_push_size _ rfl,rfl,_,rfl⟩⟩
theorem dG(h:PA X es t):PE X (.List es pos) (Bf t):=by
 intro pins s σ H Q I hq;refine wpAny_List_spliced (aN (h pos pins s σ H _ I hq) λus s1 ⟨xs,H1,I1,r,z,q⟩=>⟨by rw[← r.length];exact z,?_⟩)
 have hf:H1 s1.heap.objs.size=none:=I1.az.fresh (Nat.le_refl _);refine⟨.ref s1.heap.objs.size,upd H1 s1.heap.objs.size (.lst xs),I1.laid (t':=s1.toks) (λb u e=>Heap.get?_push_of_some _ e) (Nat.le_refl _) ?_,rfl,q _ hf⟩;exact⟨z,us,0,r,Heap.get?_push_size _ rfl⟩
end
noncomputable abbrev Sp:=List V->Hp->VK->XK->Prop
noncomputable abbrev fE:=List Env->Hp->Shared->XK->Value->Shared->Prop
structure jT(P:Program)(w:World)(K:PySem.W.Frag)(mg:Str->Option Value)(base:Heap)(A:Around)(outer:List Env)(s:Shared)(H:Hp):Prop where
 frames:A.frames=some outer
 mod:Mod K mg base
 bs:∀b o,base.get? b=some o->s.heap.get? b=some o/\H b=none
 eN:base.objs.size<=s.heap.objs.size
 dP:s.heap.FunFrames base outer
 fL:∀b∈aX outer,H b=none
 az:bQ P w H s.heap
 bare:AllBare s.gens
noncomputable def CE(outer:List Env)(P:Program)(w:World)(H:Hp)(s:Shared)(Q:VK)(u:Value)(s':Shared):Prop :=
 ∃v H',s'.os=s.os/\AllBare s'.gens/\Un (aX outer) [] H H' s.heap s'.heap/\bQ P w H' s'.heap/\RelV v u/\Q v H'
noncomputable def CR(CX:fE)(outer:List Env)(P:Program)(w:World)(H:Hp)(s:Shared)(Q:VK)(E:XK)(r:Result)(s':Shared):Prop :=
 match r with
 | .ok (.ret u)=>CE outer P w H s Q u s'
 | .ok _=>False
 | .error e=>CX outer H s E e s'
structure aU(P:Program)(w:World)(K:PySem.W.Frag)(mg:Str->Option Value)(base:Heap)(CX:fE)(k:Nat)(f:Addr)(fd:FuncData)(ps:List Str)(sp:Sp):Prop where
 len:∀vs H Q E,sp vs H Q E->vs.length=ps.length
 run:∀(A:Around) (outer:List Env) (s:Shared) (H:Hp) (args:Args) (us:List Value) (vs:List V) (Q:VK) (E:XK),bR k A->jT P w K mg base A outer s H->BindsTo s fd args (ps.zip us)->Vals vs us->sp vs H Q E->
  codeAny (model P w) A (.call (.ref f) args) (CR CX outer P w H s Q E) s
theorem aU.mono{P:Program}{w:World}{K:PySem.W.Frag}{mg:Str->Option Value}{base:Heap}{CX:fE}{j k:Nat}{f:Addr}{fd:FuncData}{ps:List Str}{sp:Sp}(F:aU P w K mg base CX j f fd ps sp)(h:j<=k) :
  aU P w K mg base CX k f fd ps sp:=⟨F.len,λA outer s H args us vs Q E hr=>F.run A outer s H args us vs Q E (hr.mono h)⟩
theorem jT.make{P:Program}{w:World}{K:PySem.W.Frag}{mg:Str->Option Value}{base:Heap}{A:Around}{outer:List Env}{s:Shared}{H:Hp}(e:jT P w K mg base A outer s H)(C:Addr)(us:List Value)(kw:List (Str×Value)) :
  jT P w K mg base (A.under (.builtin "type.__call__" ⟨.ref C::us,kw⟩)) outer s H:=⟨by first | exact e.frames | (simpa[Around.under,Code.envs,Code.isFrame,pushEnvs] using e.frames),e.mod,e.bs,e.eN,e.dP,e.fL,e.az,e.bare⟩
section
variable{X:Cx}{pins:List (Addr×Obj)}{σ:St}{H:Hp}{s s':Shared}
theorem Inv.oU(I:Inv X pins σ H s):jT X.prog X.w X.K X.mg X.base X.A X.stack s H :=
 ⟨I.ok.frames,I.ok.mod,I.bs,Nat.le_trans I.ok.eN I.sz,I.stack,I.qm,I.az,I.bare⟩
theorem Inv.after{Q:VK}{u:Value}(I:Inv X pins σ H s)(h:CE X.stack X.prog X.w H s Q u s'):EP X pins σ Q u s':=by
 obtain⟨v,H',os,bare,un,az,r,q⟩:=h;obtain⟨hh,g,d,t,RV⟩:=s';obtain rfl:RV=s.os:=os;exact⟨v,H',I.call (h':=hh) (g':=g) (d':=d) (t':=t) (ch:=[]) un az bare (λb z=>absurd z (by simp)),r,q⟩
end
noncomputable def qK(sp:Sp)(aV:List V)(E:XK)(t:TA):TE:=λσ H Q=>t σ H λvs H1=>sp (vs++aV) H1 Q E
noncomputable def IS(C:Addr)(m:Str)(sp:Sp)(aV:List V)(E:XK)(ta:TE)(t:TA):TE:=λσ H Q=>ta σ H λx H1=>∃a dx fs,x = .ref a/\H1 a=some (.ins C dx fs)/\fs.lookup m=none/\
 t σ H1 λvs H2=>sp (x::(vs++aV)) H2 Q E
noncomputable def u_(C:Addr)(sp:Sp)(aV:List V)(E:XK)(t:TA):TE:=λσ H Q=>t σ H λvs H1=>∀x dx,H1 x=none->H1 dx=none->dx≠x->
 sp (.ref x::(vs++aV)) (upd (upd H1 dx (.own x)) x (.ins C dx [])) (λv H2=>v = .aG/\Q (.ref x) H2) E
noncomputable def Binds(K:PySem.W.Frag)(fd:FuncData)(ps:List Str)(ds:List Value):Prop :=
 ∀(s:Shared) (us:List Value),K.In s.heap->(us++ds).length=ps.length->BindsTo s fd ⟨us,[]⟩ (ps.zip (us++ds))
theorem Binds.all{K:PySem.W.Frag}{fd:FuncData}{ps:List Str}(h:∀us:List Value,us.length=ps.length->bindArgs fd ⟨us,[]⟩=pure (ps.zip us)):Binds K fd ps []:=λs us _ hl=>by
 rw[List.append_nil] at hl ⊢;exact .of_eq (h us hl)
noncomputable def Passes(CX:fE)(X:Cx)(E:XK):Prop:=∀(pins:List (Addr×Obj)) (σ:St) (H:Hp) (s:Shared) (e:Value) (s':Shared),Inv X pins σ H s->CX X.stack H s E e s'->X.xe e s'
section
variable{X:Cx}{CX:fE}{k:Nat}{f C:Addr}{fd:FuncData}{ps:List Str}{sp:Sp}{aV:List V}{ds:List Value}{E:XK}{x m:Str}{p pos apos:Pos}{e o:Expr}{es:List Expr}{ta:TE}{t:TA}
theorem vc{pins:List (Addr×Obj)}{σ:St}{H:Hp}{s:Shared}{Q:VK}{us:List Value}{vs:List V}(F:aU X.prog X.w X.K X.mg X.base CX k f fd ps sp)(hr:bR k X.A)(hb:Binds X.K fd ps ds)(hd:Vals aV ds)(hx:Passes CX X E)
  (I:Inv X pins σ H s) (r:Vals vs us) (h:sp (vs++aV) H Q E):wpAny (model X.prog X.w) X.A (call (.ref f) us) (EP X pins σ Q) X.xe s:=by
 have r2:Vals (vs++aV) (us++ds):=r.append hd;have hl:(us++ds).length=ps.length:=by rw[← r2.length];exact F.len _ _ _ _ h
 refine wpAny_call (codeAny_mono (F.run X.A X.stack s H ⟨us,[]⟩ (us++ds) (vs++aV) Q E hr I.oU (hb s us I.bC hl) r2 h) λr s' hq=>?_);cases r with
 | error e=>exact hx pins σ H s e s' I hq
 | ok fl =>
  cases fl with
  | ret u=>exact I.after hq
  | next=>exact False.elim hq
  | brk=>exact False.elim hq
  | cont=>exact False.elim hq
theorem aM(F:aU X.prog X.w X.K X.mg X.base CX k f fd ps sp)(hr:bR k X.A)(hg:Gl X x)(hm:X.mg x=some (.ref f))(hk:PySem.W.keepIn X.K (.ref f)=true)(hb:Binds X.K fd ps ds)(hd:Vals aV ds)(hx:Passes CX X E)
  (ha:PA X (e::es) t) (c_:(x == ("__debug__" : Str))=false:=by decide) (he:starEach (e::es) X.env=(false,eval e X.env)::starEach es X.env:=by rfl) (cZ:(backTo pos (starEach es X.env)).any (·.1)=false:=by rfl) :
  PE X (.Call (.Name x p) (e::es) [] pos) (qK sp aV E t):=by
 intro pins s σ H Q I h;refine wpAny_Call_Name_kw (iR I hg hm ?_ c_);refine PySem.W.callWith_K (h₀:=X.base) I.ok.mod.ig hk (aN (ha pos pins s σ H _ I h) λus s1 ⟨vs,H1,I1,r,q⟩=>⟨I1.bC,?_⟩) he cZ;exact vc F hr hb hd hx I1 r q
structure Mk(K:PySem.W.Frag)(C f:Addr):Prop where
 makes:PySem.W.makesIn K C=true
 init:PySem.W.findIn K (.ref C) "__init__" = some (some (.ref f))
 fn:PySem.W.isFn K (.ref f)=true
 kp:PySem.W.keepIn K (.ref C)=true
theorem RW{pins:List (Addr×Obj)}{σ:St}{H:Hp}{s:Shared}{Q:VK}{us:List Value}{vs:List V}(M:Mk X.K C f)(F:aU X.prog X.w X.K X.mg X.base CX k f fd ps sp)(hr:bR (k+1) X.A)(hb:Binds X.K fd ps ds)(hd:Vals aV ds)
  (hx:Passes CX X E) (I:Inv X pins σ H s) (r:Vals vs us)
  (h:∀x dx,H x=none->H dx=none->dx≠x->sp (.ref x::(vs++aV)) (upd (upd H dx (.own x)) x (.ins C dx [])) (λv H2=>v = .aG/\Q (.ref x) H2) E) :
  wpAny (model X.prog X.w) X.A (call (.ref C) us) (EP X pins σ Q) X.xe s:=by
 have hq:=h (s.heap.objs.size+1) s.heap.objs.size (I.az.fresh (Nat.le_succ _)) (I.az.fresh (Nat.le_refl _)) (Nat.ne_of_lt (Nat.lt_succ_self _));have I2:=Inv.made (C:=C) I;have r2:Vals (V.ref (s.heap.objs.size+1)::(vs++aV)) (Value.ref (s.heap.objs.size+1)::(us++ds)):=.cons rfl (r.append hd);have hl:(Value.ref (s.heap.objs.size+1)::us++ds).length=ps.length:=by
  have e:=r2.length;rw[F.len _ _ _ _ hq] at e;exact e.symm
 refine wpAny_call (IL (f:=f) I.bC M.makes M.init (beq_iff_eq.mp M.fn) (codeAny_mono (F.run _ X.stack _ _ ⟨Value.ref (s.heap.objs.size+1)::us,[]⟩ (Value.ref (s.heap.objs.size+1)::(us++ds)) _ _ E (hr.make C us [])
  (I2.oU.make C us []) (hb _ (Value.ref (s.heap.objs.size+1)::us) I2.bC hl) r2 hq) λr s' b_=>?_))
 cases r with
 | error e=>exact hx pins σ _ _ e s' I2 b_
 | ok fl =>
  cases fl with
  | ret u =>
   obtain⟨v,H',I3,rv,ev,q3⟩:=I2.after b_;subst ev;exact⟨rv,⟨V.ref (s.heap.objs.size+1),H',I3,rfl,q3⟩⟩
  | next=>exact False.elim b_
  | brk=>exact False.elim b_
  | cont=>exact False.elim b_
theorem oV(M:Mk X.K C f)(F:aU X.prog X.w X.K X.mg X.base CX k f fd ps sp)(hr:bR (k+1) X.A)(hg:Gl X x)(hm:X.mg x=some (.ref C))(hb:Binds X.K fd ps ds)(hd:Vals aV ds)(hx:Passes CX X E)
  (ha:PA X (e::es) t) (c_:(x == ("__debug__" : Str))=false:=by decide) (he:starEach (e::es) X.env=(false,eval e X.env)::starEach es X.env:=by rfl) (cZ:(backTo pos (starEach es X.env)).any (·.1)=false:=by rfl) :
  PE X (.Call (.Name x p) (e::es) [] pos) (u_ C sp aV E t):=by
 intro pins s σ H Q I h;refine wpAny_Call_Name_kw (iR I hg hm ?_ c_);refine PySem.W.callWith_K (h₀:=X.base) I.ok.mod.ig M.kp (aN (ha pos pins s σ H _ I h) λus s1 ⟨vs,H1,I1,r,q⟩=>⟨I1.bC,?_⟩) he cZ;exact RW M F hr hb hd hx I1 r q
end
noncomputable def PK(X:Cx)(IT:List Keyword)(t:TA):Prop :=
 ∀(pos:Pos) (pins:List (Addr×Obj)) (s:Shared) (σ:St) (H:Hp) (Q:List V->Hp->Prop),Inv X pins σ H s->t σ H Q->wpAny (model X.prog X.w) X.A (evalAll ((backToKw pos (keywordEach IT X.env)).map (·.2))) (AP X pins σ Q) X.xe s
section
variable{X:Cx}{CX:fE}{k:Nat}{f C:Addr}{fd:FuncData}{ps ks:List Str}{sp:Sp}{E:XK}{x m:Str}{p pos apos acD:Pos}{e o:Expr}{es:List Expr}{IT:List Keyword}{te ta:TE}{t tk:TA}{nm:Option Str}
variable{g:List Value->List Value->List Value}{gV:List V->List V->List V}
end
structure bB(N P:List Str)(sc:Scope):Prop where
 kind:sc.kind = .function
 co:sc.isCoroutine=false
 gen:sc.isGenerator=false
 nd:N.Nodup
 pre:N.take P.length=P
 par:∀x∈P,sc.names.lookup x=some .local\/sc.names.lookup x=some .cell
 RX:∀y∈sc.names,y.2≠.free
theorem IU{kindOf:Str->Option NameKind}{x:Str}:∀ {binds:List (Str×Value)} {m:Str->Option Value},(∀v,(x,v)∉binds)->bindL kindOf binds m x=m x
 | [],_,_=>rfl
 | (n,v)::r,m,h=>by
  unfold bindL;rw[IU λw hw=>h w (List.mem_cons_of_mem _ hw)];split
  ·have:x≠n:=by rintro rfl;exact h v List.mem_cons_self
   simp[this]
  ·rfl
theorem IV{kindOf:Str->Option NameKind}{x:Str}:∀ {binds:List (Str×Value)} {m:Str->Option Value},(∀v,(x,v)∉binds)->bindC kindOf binds m x=m x
 | [],_,_=>rfl
 | (n,v)::r,m,h=>by
  unfold bindC;rw[IV λw hw=>h w (List.mem_cons_of_mem _ hw)];split
  ·rfl
  ·have:x≠n:=by rintro rfl;exact h v List.mem_cons_self
   simp[this]
theorem IW{kindOf:Str->Option NameKind}{x:Str}{v:Value}:∀ {P:List Str} {vs:List Value} {i:Nat} {m:Str->Option Value},P.Nodup->P[i]? = some x->vs[i]? = some v->kindOf x=some .local->
  bindL kindOf (P.zip vs) m x=some v
 | [],_,_,_,_,h,_,_=>by simp at h
 | _::_,[],_,_,_,_,h,_=>by simp at h
 | p::P,w::vs,0,m,nd,h1,h2,hk=>by
  simp at h1 h2;subst h1;subst h2
  show bindL kindOf ((p,w)::P.zip vs) m p=_;unfold bindL;rw[IU λv hv=>(List.nodup_cons.mp nd).1 (List.of_mem_zip hv).1,if_pos hk];simp
 | p::P,w::vs,i+1,m,nd,h1,h2,hk=>by
  show bindL kindOf ((p,w)::P.zip vs) m x=_;unfold bindL;exact IW (i:=i) (List.nodup_cons.mp nd).2 (by simpa using h1) (by simpa using h2) hk
theorem IX{kindOf:Str->Option NameKind}{x:Str}{v:Value}:∀ {P:List Str} {vs:List Value} {i:Nat} {m:Str->Option Value},P.Nodup->P[i]? = some x->vs[i]? = some v->kindOf x≠some .local->
  bindC kindOf (P.zip vs) m x=some v
 | [],_,_,_,_,h,_,_=>by simp at h
 | _::_,[],_,_,_,_,h,_=>by simp at h
 | p::P,w::vs,0,m,nd,h1,h2,hk=>by
  simp at h1 h2;subst h1;subst h2
  show bindC kindOf ((p,w)::P.zip vs) m p=_;unfold bindC;rw[IV λv hv=>(List.nodup_cons.mp nd).1 (List.of_mem_zip hv).1,if_neg hk];simp
 | p::P,w::vs,i+1,m,nd,h1,h2,hk=>by
  show bindC kindOf ((p,w)::P.zip vs) m x=_;unfold bindC;exact IX (i:=i) (List.nodup_cons.mp nd).2 (by simpa using h1) (by simpa using h2) hk
noncomputable def start(N:List Str)(vs:List V):St:=vs.map some++List.replicate (N.length - vs.length) none
noncomputable def fQ(CX:fE)(P:Program)(w:World)(K:PySem.W.Frag)(mg:Str->Option Value)(base:Heap)(N:List Str)(qual:Str)(scope:Scope)(f:Addr)(cd:Value)(A:Around)(outer:List Env)(s:Shared)(H:Hp)(E:XK):Cx where
 prog:=P
 w:=w
 K:=K
 mg:=mg
 base:=base
 A:=A.deeper (envOfC qual scope s.heap.objs.size f cd)
 N:=N
 aK:=s
 cF:=H
 env:=envOfC qual scope s.heap.objs.size f cd
 outer:=outer
 stack:=envOfC qual scope s.heap.objs.size f cd::outer
 ex:=[]
 calm:=true
 fn:=λ_=>true
 pn:=[]
 xe:=λe s'=>wpAny (model P w) (A.deeper (envOfC qual scope s.heap.objs.size f cd)) (leaving (envOfC qual scope s.heap.objs.size f cd) e) (λ_ oW=>CX outer H s E e oW) (λe' oW=>CX outer H s E e' oW) s'
theorem IY{sc:Scope}{n:Nat}{x:Str}(h:sc.names.lookup x=some .cell):∃c,(cellsFrom n sc.names []).lookup x=some c:=by
 have q:=PySem.W.cellsFrom_some sc.names n [] (.inl h);exact Option.isSome_iff_exists.mp q
theorem IZ{CX:fE}{P:Program}{w:World}{K:PySem.W.Frag}{mg:Str->Option Value}{base:Heap}{N ps:List Str}{qual:Str}{scope:Scope}{f:Addr}{cd:Value}{A:Around}{outer:List Env}{s s1:Shared}{H:Hp}{E:XK}{us:List Value}{vs:List V}
  (S:bB N ps scope) (hd:A.handled=none) (e0:jT P w K mg base A outer s H) (hl:vs.length=ps.length) (r:Vals vs us)
  (x:InCallC s s.heap.objs.size (bindL (envOfC qual scope s.heap.objs.size f cd).kindOf (ps.zip us) λ_=>none) (cellsFrom (s.heap.objs.size+1) scope.names []) (bindC (envOfC qual scope s.heap.objs.size f cd).kindOf (ps.zip us) λ_=>none) s1) :
  Inv (fQ CX P w K mg base N qual scope f cd A outer s H E) [] (start N vs) H s1:=by
 have cZ:ps.length<=N.length:=by have:=congrArg List.length S.pre;rw[List.length_take] at this;lia
 obtain⟨h1,tk,rfl,hk⟩:=x.done;have qL:∀b:Addr,b∉(fQ CX P w K mg base N qual scope f cd A outer s H E).ex:=λb z=>absurd (show b∈([]:List Addr) from z) (by simp)
 refine⟨⟨e0.mod,S.kind,rfl,rfl,Nat.le_refl _,λy z c h1 h2=>?_,λy hy=>?_,λy c _ h=>?_,λ_=>hd,Around.frames_deeper e0.frames,.inr ⟨rfl,rfl⟩,λb z=>absurd z (qL b),e0.bs,e0.eN,λb _ _=>qL b,λb z=>absurd z (qL b),e0.dP,e0.fL⟩,
  rfl,e0.bare,Un.kept hk,⟨_,x.toInCall.ns,λi y v h1 h2 h3=>?_⟩,λy c h=>⟨_,x.cell y c h⟩,e0.az.fresh (Nat.le_refl _),λy c h=>?_,λp hp=>absurd (show p∈([]:List (Addr×Obj)) from hp) (by simp),e0.az.kept hk,?_⟩
 ·exact name_of_addr x.apart (PySem.mem_of_lookup h1) (PySem.mem_of_lookup h2)
 ·have hy:scope.names.lookup y=some .cell\/scope.names.lookup y=some .free:=hy;rcases hy with hy | hy
  ·exact IY hy
  ·exact absurd rfl (S.RX _ (PySem.mem_of_lookup hy))
 ·exact Nat.le_of_lt (x.above y c (PySem.mem_of_lookup h))
 ·have hi:i<vs.length:=by
   unfold start at h2;by_cases hi:i<vs.length
   ·exact hi
   ·rw[List.getElem?_append_right (by simpa using hi)] at h2
    rw[List.getElem?_replicate] at h2;split at h2 <;> cases h2
  have ha:vs[i]? = some v:=by
   unfold start at h2;rw[List.getElem?_append_left (by simpa using hi),List.getElem?_map] at h2
   cases e:vs[i]? with
   | none=>rw[e] at h2;cases h2
   | some a=>rw[e] at h2;cases h2;rfl
  obtain⟨u,hu,rv⟩:=r.get ha;have hp:ps[i]? = some y:=by
   rw[← S.pre,List.getElem?_take_of_lt (by lia)];exact h1
  have I0:ps.Nodup:=by rw[← S.pre];exact S.nd.sublist (List.take_sublist _ _)
  refine⟨u,rv,?_⟩;rcases S.par y (List.mem_of_getElem? hp) with k | k
  ·exact .inl ⟨k,IW I0 hp hu k⟩
  ·obtain⟨c,e⟩:=IY (n:=s.heap.objs.size+1) k;refine .inr ⟨.inl k,c,e,?_⟩;have q:=x.cell y c e;rw[IX I0 hp hu (by show scope.names.lookup y≠_;rw[k];decide)] at q
   exact q
 ·exact e0.az.fresh (Nat.le_of_lt (x.above y c (PySem.mem_of_lookup h)))
 ·unfold start
  show _=N.length;rw[List.length_append,List.length_map,List.length_replicate];lia
theorem vd{CX:fE}{P:Program}{w:World}{K:PySem.W.Frag}{mg:Str->Option Value}{base:Heap}{k:Nat}{f:Addr}{name qual:Str}{params:Arguments}{body:List Stmt}{scope:Scope}{dV kV doc pm aO ct oc:Value}{an od:Option Addr}
  {e7:Array (Option Value)} {N ps:List Str} {sp:Sp} (lk:K.lookup f=some ⟨oc,od,.func (PySem.W.fnOf name qual params body scope dV kV doc pm an aO ct),e7⟩) (cu:PySem.W.codeIn K aO qual=true) (S:bB N ps scope)
  (len:∀vs H Q E,sp vs H Q E->vs.length=ps.length)
  (iV:∀(A:Around) (outer:List Env) (s:Shared) (H:Hp) (vs:List V) (Q:VK) (E:XK),bR k (A.deeper (envOfC qual scope s.heap.objs.size f aO))->sp vs H Q E->
   ∃t,eO (fQ CX P w K mg base N qual scope f aO A outer s H E) body t/\t { nx:=λ_ H'=>Q .aG H',rt:=Q } (start N vs) H) :
  aU P w K mg base CX (k+1) f (PySem.W.fnOf name qual params body scope dV kV doc pm an aO ct) ps sp:=by
 refine⟨len,λA outer s H args us vs Q E hr e0 hb r dW=>?_⟩;have hl:=len _ _ _ _ dW;have KX:K.In s.heap:=e0.mod.ig.keeps λb o e=>(e0.bs b o e).1;have lim:s.heap.NoLimit:=e0.mod.nolimit.keeps λb o e=>(e0.bs b o e).1;have RY:∀y∈ps.zip us,scope.names.lookup y.1=some .local\/(scope.names.lookup y.1=some .cell/\((cellsFrom (s.heap.objs.size+1) scope.names []).lookup y.1).isSome=true):=λ⟨n,v⟩ hy=>by
  rcases S.par n (List.of_mem_zip hy).1 with q | q
  ·exact .inl q
  ·exact .inr ⟨q,PySem.W.cellsFrom_some _ _ _ (.inl q)⟩
 refine codeAny_call_function hr.depth (KX _ _ lk) rfl S.co S.gen rfl (PySem.W.codeRec_of KX cu) (hb _ _ _ _ ?_);refine wpAny_newFunctionEnv_cells S.kind RY λenv he s1 x=>?_;subst he;refine⟨lim.keeps x.toInCall.keep,codeAny_func ?_⟩;obtain⟨t,ht,hq⟩:=iV A outer s H vs Q E (hr.deeper _) dW;have I:Inv (fQ CX P w K mg base N qual scope f aO A outer s H E) [] (start N vs) H s1:=IZ S hr.hd e0 hl r x;refine wpAny_mono (ht [] s1 (start N vs) H _ I hq) (λfl s' hs=>?_) λe s' hs=>hs;have fin:∀ {aR:St} {H':Hp} {v:V} {u:Value},Inv (fQ CX P w K mg base N qual scope f aO A outer s H E) [] aR H' s'->RelV v u->Q v H'->CE outer P w H s Q u s' :=
  λ{aR H' v u} J rv q=>⟨v,H',J.os,J.bare,J.base,J.az,rv,q⟩
 cases fl with
 | ret u =>
  obtain⟨v,aR,H',J,rv,q⟩:=hs;exact fin J rv q
 | next =>
  obtain⟨aR,H',J,q⟩:=hs;exact fin (v:=V.aG) (u:=Value.none) J rfl q
 | brk =>
  obtain⟨_,_,_,q⟩:=hs;exact False.elim q
 | cont =>
  obtain⟨_,_,_,q⟩:=hs;exact False.elim q
section
variable{X:Cx}{x:Str}{p pos:Pos}{e:Expr}{es:List Expr}{t:TA}{id T:String}{r:List V->Hp->VK->Prop}
noncomputable def ve(r:List V->Hp->VK->Prop)(t:TA):TE:=λσ H Q=>t σ H λvs H1=>r vs H1 Q
theorem bT(hc:fP X (.builtin id) r)(hg:Gl X x)(hm:X.mg x=none)(hv:bootBuiltins x=some (.builtin id))(ha:PA X (e::es) t)(hn:x≠"__name__" := by decide)(c_:(x == ("__debug__" : Str))=false:=by decide)
  (he:starEach (e::es) X.env=(false,eval e X.env)::starEach es X.env:=by rfl) (cZ:(backTo pos (starEach es X.env)).any (·.1)=false:=by rfl):PE X (.Call (.Name x p) (e::es) [] pos) (ve r t):=by
 intro pins s σ H Q I h;refine wpAny_Call_Name_kw (kN I hg hm hv ?_ hn c_);exact PyProof.Rows.callWith_builtin1 (aN (ha pos pins s σ H _ I h) λus s1 ⟨vs,H1,I1,r1,q1⟩=>hc pins s1 σ H1 vs us Q I1 r1 q1) he cZ
theorem jU(hc:fP X (.type T) r)(hg:Gl X x)(hm:X.mg x=none)(hv:bootBuiltins x=some (.type T))(ha:PA X (e::es) t)(hn:x≠"__name__" := by decide)(c_:(x == ("__debug__" : Str))=false:=by decide)
  (he:starEach (e::es) X.env=(false,eval e X.env)::starEach es X.env:=by rfl) (cZ:(backTo pos (starEach es X.env)).any (·.1)=false:=by rfl):PE X (.Call (.Name x p) (e::es) [] pos) (ve r t):=by
 intro pins s σ H Q I h;refine wpAny_Call_Name_kw (kN I hg hm hv ?_ hn c_);exact PyProof.Rows.callWith_type1 (aN (ha pos pins s σ H _ I h) λus s1 ⟨vs,H1,I1,r1,q1⟩=>hc pins s1 σ H1 vs us Q I1 r1 q1) he cZ
end
end _L
namespace _H
open PySem PyProof.Rows
noncomputable def lexLt:List Int->List Int->Bool
 | [],[]=>false
 | [],_::_=>true
 | _::_,[]=>false
 | x::xs,y::ys=>if x=y then lexLt xs ys else decide (x<y)
section
open PySem.SeqAt
open PySem.AutoSeq1 (wpAny_loadPart')
open PySem.MeetsSeq PySem.MeetsSeq2 PySem.MeetsSeq3
end
section
variable{prog:Program}{w:World}{A:Around}{E:Value->Shared->Prop}{s:Shared}
noncomputable def e8(n d:Nat):Option Int->Nat
 | none=>d
 | some v=>if v<0 then(v+(n:Int)).toNat else min v.toNat n
end
end _H
namespace _L
open PySem PySem.Spec PyProof.Rows
noncomputable abbrev TO:=St->Hp->(Option Int->Hp->Prop)->Prop
noncomputable def PO(X:Cx)(e:Option Expr)(t:TO):Prop :=
 ∀(pins:List (Addr×Obj)) (s:Shared) (σ:St) (H:Hp) (Q:Option Int->Hp->Prop),Inv X pins σ H s->t σ H Q->
  wpAny (model X.prog X.w) X.A (evalPart e X.env) (λu s'=>∃o H',Inv X pins σ H' s'/\IsPart u o/\Q o H') X.xe s
noncomputable def I_:TO:=λ_ H Q=>Q none H
noncomputable def Bg(t:TE):TO:=λσ H Q=>t σ H λx H1=>∃i,x = .int i/\Q (some i) H1
theorem intsAre_of{ns:List Int}:∀ {us:List Value},Vals (ns.map V.int) us->IntsAre us ns:=by
 induction ns with
 | nil=>intro us r;rw[List.map_nil] at r;cases r;exact .nil
 | cons n ns ih =>
  intro us r;rw[List.map_cons] at r;cases r with
  | cons r1 r2 =>
   obtain⟨t,e⟩:=r1;subst e;exact .cons n t (ih r2)
section
variable{X:Cx}{e:Expr}{te:TE}{lo hi:Option Expr}{tl th:TO}{pos p2:Pos}
theorem Ja(h:PE X e te):PO X (some e) (Bg te):=by
 intro pins s σ H Q I hw;rw[evalPart_some];refine aN (h pins s σ H _ I hw) λu s1 ⟨x,H1,I1,r1,q1⟩=>?_;obtain⟨i,rfl,q⟩:=q1;obtain⟨t,rfl⟩:=r1;exact⟨some i,H1,I1,.int i t,q⟩
noncomputable def Jb(X:Cx)(r:V->Option Int->Option Int->Hp->VK->Prop):Prop :=
 ∀(pins:List (Addr×Obj)) (s:Shared) (σ:St) (H:Hp) (x:V) (v vl vu:Value) (lo hi:Option Int) (sl:Addr) (Q:VK),Inv X pins σ H s->RelV x v->s.heap.IsSliceOf sl vl vu .none->IsPart vl lo->IsPart vu hi->r x lo hi H Q->
  ∃T id,typeLookup (.type T) "__getitem__" = pure (some (.builtin id))/\s.TypeIs v T/\wpAny (model X.prog X.w) X.A (getItem v (.ref sl)) (EP X pins σ Q) X.xe s
noncomputable def Bh(r:V->Option Int->Option Int->Hp->VK->Prop)(te:TE)(tl th:TO):TE:=λσ H Q=>te σ H λx H1=>tl σ H1 λl H2=>th σ H2 λu H3=>r x l u H3 Q
theorem RZ{r:V->Option Int->Option Int->Hp->VK->Prop}(hr:Jb X r)(he:PE X e te)(hl:PO X lo tl)(hu:PO X hi th):PE X (.Subscript e (.Slice lo hi none p2) pos) (Bh r te tl th):=by
 intro pins s σ H Q I h;refine Subscript_ (aN (he pins s σ H _ I h) λv s1 ⟨x,H1,I1,r1,q1⟩=>?_);refine wpAny_Slice (aN (hl pins s1 σ H1 _ I1 q1) λvl s2 ⟨l,H2,I2,pl,q2⟩=>aN (hu pins s2 σ H2 _ I2 q2) λvu s3 ⟨u,H3,I3,pu,q3⟩=>?_);rw[evalPart_none];refine wpAny_pure ?_;have I4:Inv X pins σ H3 { s3 with heap:=s3.heap.push { cls:=.type "slice",data:=.fields #[vl,vu,.none] }}:=I3.kept (t':=s3.toks) λb ob q=>Heap.get?_push_of_some _ q;obtain⟨T,id,hT,ht,hg⟩:=hr pins { s3 with heap:=s3.heap.push { cls:=.type "slice",data:=.fields #[vl,vu,.none] }} σ H3 x v vl vu l u s3.heap.objs.size Q I4 r1 (Heap.IsSliceOf.new ..) pl pu q3
 show wpAny (model X.prog X.w) X.A (subscriptTail e (.Slice lo hi none p2) v (.ref s3.heap.objs.size)) (EP X pins σ Q) X.xe { s3 with heap:=s3.heap.push { cls:=.type "slice",data:=.fields #[vl,vu,.none] }};exact tail_any (ops:=[.ref s3.heap.objs.size,v]) ht hT hg (by with_unfolding_all rfl)
noncomputable def oX(xs:List V)(lo hi:Option Int):List V:=(xs.drop (_H.e8 xs.length 0 lo)).take (_H.e8 xs.length xs.length hi - _H.e8 xs.length 0 lo)
theorem R0(xs:List V)(lo hi:Option Int):(oX xs lo hi).length<=xs.length:=by
 unfold oX;rw[List.length_take,List.length_drop];lia
noncomputable def Jc(K:PySem.W.Frag):R2:=λx y H Q=>∃a b xs ys,x = .ref a/\y = .ref b/\bA K H a xs/\bA K H b ys/\xs≠[]/\xs.length+ys.length<=sizeLine/\
 (ys = []->Q (.ref a) H)/\(ys≠[]->∀p,H p=none->Q (.ref p) (upd H p (.tup (xs++ys))))
end
noncomputable def iW(n:Nat)(i:Int):Option Nat:=if 0<=i then(if i<n then some i.toNat else none) else if -(n:Int)<=i then some (i+n).toNat else none
noncomputable def gZ{α:Type}(xs:List α)(i:Int):Option α:=(iW xs.length i).bind λj=>xs[j]?
theorem Jd{n:Nat}{i:Int}{j:Nat}(h:iW n i=some j):seqIndex? i n=some j/\j<n/\-(n:Int)<=i/\i<n:=by
 unfold iW at h;by_cases h0:0<=i
 ·rw[if_pos h0] at h;by_cases h1:i<n
  ·rw[if_pos h1] at h;have e:i.toNat=j:=Option.some.inj h;exact⟨by rw[seqIndex_of h0 h1,e],by lia,by lia,h1⟩
  ·rw[if_neg h1] at h;cases h
 ·rw[if_neg h0] at h;by_cases h1 : -(n:Int)<=i
  ·rw[if_pos h1] at h;have e:(i+n).toNat=j:=Option.some.inj h;exact⟨by rw[seqIndex_neg (by lia) h1,e],by lia,h1,by lia⟩
  ·rw[if_neg h1] at h;cases h
theorem Bj{α:Type}{xs:List α}{i:Int}{v:α}(h:gZ xs i=some v):∃j,seqIndex? i xs.length=some j/\xs[j]? = some v/\j<xs.length/\-(xs.length:Int)<=i/\i<xs.length:=by
 unfold gZ at h;cases e:iW xs.length i with
 | none=>rw[e] at h;cases h
 | some j =>
  rw[e] at h;obtain⟨h1,h2,h3,h4⟩:=Jd e;exact⟨j,h1,h,h2,h3,h4⟩
theorem oY{α:Type}{xs:List α}{j:Nat}{v:α}(h:xs[j]? = some v):gZ xs (j:Int)=some v:=by
 have hj:j<xs.length:=(List.getElem?_eq_some_iff.mp h).1;have e:iW xs.length (j:Int)=some j:=by
  unfold iW;rw[if_pos (by lia),if_pos (by lia)];simp
 unfold gZ;rw[e];exact h
noncomputable def R1(b:Expr):Prop:=∀o i,subscripted b false o i=operate [o,i] (getItem o i)
noncomputable def jB(X:Cx)(r:R2):Prop :=
 ∀(value slice:Expr) (pins:List (Addr×Obj)) (s:Shared) (σ:St) (H:Hp) (x y:V) (v u:Value) (Q:VK),Inv X pins σ H s->RelV x v->RelV y u->r x y H Q->
  subscripted slice false v u=operate [v,u] (getItem v u)->wpAny (model X.prog X.w) X.A (subscriptTail value slice v u) (EP X pins σ Q) X.xe s
noncomputable def Je(X:Cx)(id:String)(r:V->List V->Hp->VK->Prop):Prop :=
 ∀(pins:List (Addr×Obj)) (s:Shared) (σ:St) (H:Hp) (x:V) (xs:List V) (v:Value) (us:List Value) (Q:VK),Inv X pins σ H s->RelV x v->Vals xs us->r x xs H Q->
  wpAny (model X.prog X.w) X.A (call (.builtin id) (v::us)) (EP X pins σ Q) X.xe s
section
variable{X:Cx}{a b:Expr}{ta tb:TE}{pos:Pos}
theorem jB.or{r r':R2}(h:jB X r)(h':jB X r'):jB X (λx y H Q=>r x y H Q\/r' x y H Q):=by
 intro value slice pins s σ H x y v u Q I rx ry q hs;rcases q with q | q
 ·exact h value slice pins s σ H x y v u Q I rx ry q hs
 ·exact h' value slice pins s σ H x y v u Q I rx ry q hs
theorem bF{r:R2}(hr:jB X r)(ha:PE X a ta)(hb:PE X b tb)(hs:R1 b):PE X (.Subscript a b pos) (oO r ta tb):=by
 intro pins s σ H Q I h;exact Subscript_ (AZ ha hb I h λv u s2 x y H2 I2 rx ry q=>hr a b pins s2 σ H2 x y v u Q I2 rx ry q (hs _ _))
noncomputable def qM(K:PySem.W.Frag):R2:=λx y H Q=>∃p xs i v,x = .ref p/\y = .int i/\aH K H p xs/\gZ xs i=some v/\Q v H
noncomputable def oZ(K:PySem.W.Frag):R2:=λx y H Q=>∃p xs i v,x = .ref p/\y = .int i/\bA K H p xs/\gZ xs i=some v/\Q v H
noncomputable def Jf:R2:=λx y H Q=>∃z i c,x = .str z/\y = .int i/\z.length<=sizeLine/\gZ z.cps.toList i=some c/\Q (.str ⟨#[c]⟩) H
theorem eS:jB X (qM X.K):=by
 intro value slice pins s σ H x y v u Q I rx ry h hs;obtain⟨p,xs,i,z,rfl,rfl,hq,he,q⟩:=h;cases rx;obtain⟨t,rfl⟩:=ry;obtain⟨aA,r,pl,hz⟩:=I.list hq;obtain⟨j,h1,h2,h3,h4,h5⟩:=Bj he;obtain⟨w,ew,Bk⟩:=r.get h2;have hl:=r.length;have hn:=qF;have fin:EP X pins σ Q w s:=⟨z,H,I,Bk,q⟩;by_cases h0:0<=i
 ·have hj:i.toNat=j:=by
   rw[seqIndex_of h0 h5] at h1;exact Option.some.inj h1
  exact item_listR pl.isList h0 (by lia) (by rw[hj];simpa using ew) fin hs
 ·have hj:(i+(aA.toArray.size:Int)).toNat=j:=by
   rw[seqIndex_neg (by lia) h4] at h1
   rw[List.size_toArray,← hl];exact Option.some.inj h1
  exact subscriptTail_builtinR (x:=w) pl.isList.typeIs slot_list_getitem.lookup
   (wpAny_getItem_list_neg (Q:=λr s'=>r=w/\EP X pins σ Q r s') pl.isList (by lia) (by rw[List.size_toArray] <;> lia) (by lia) (by rw[hj];simpa using ew) ⟨rfl,fin⟩) hs
theorem cQ:jB X (oZ X.K):=by
 intro value slice pins s σ H x y v u Q I rx ry h hs;obtain⟨p,xs,i,z,rfl,rfl,hq,he,q⟩:=h;cases rx;obtain⟨t,rfl⟩:=ry;obtain⟨aA,r,pl,hz⟩:=I.tuple hq;obtain⟨j,h1,h2,h3,h4,h5⟩:=Bj he;obtain⟨w,ew,Bk⟩:=r.get h2;have hl:=r.length;have hn:=qF;have fin:EP X pins σ Q w s:=⟨z,H,I,Bk,q⟩;exact subscriptTail_builtinR (x:=w) pl.typeIs slot_tuple_getitem.lookup
  (getItem_tuple (j:=j) (Q:=λr s'=>r=w/\EP X pins σ Q r s') pl (by lia) (by lia) (by rw[List.size_toArray,← hl];exact h1) (by simpa using ew) ⟨rfl,fin⟩) hs
theorem R3:jB X Jf:=by
 intro value slice pins s σ H x y v u Q I rx ry h hs;obtain⟨z,i,c,rfl,rfl,hz,he,q⟩:=h;obtain⟨t,rfl⟩:=rx;obtain⟨t',rfl⟩:=ry;obtain⟨j,h1,h2,h3,h4,h5⟩:=Bj he;have hl:z.cps.toList.length=z.length:=by simp[Str.length]
 rw[hl] at h1 h4 h5;have hn:=qF;exact tail_any (typeIs_str s z t) slot_str_getitem.lookup (getItem_str (c:=c) (by
  have e1:decide (i < -(2 ^ 63:Int))=false:=decide_eq_false (by lia)
  have e2:decide (i ≥ 2 ^ 63)=false:=decide_eq_false (by lia)
  rw[e1,e2,Bool.or_false]) (by rw[h1];simpa using h2) ⟨.str ⟨#[c]⟩,H,I.tok _,⟨_,rfl⟩,q⟩) hs
noncomputable def Bl(K:PySem.W.Frag):R2:=λx y H Q=>qM K x y H Q\/oZ K x y H Q\/Jf x y H Q
theorem Jg:jB X (Bl X.K):=eS.or (cQ.or R3)
theorem R4(aA:List Value)(n j:Nat)(u:Value):Obj.mapSeq (·.setIfInBounds j u) { cls:=.type "list",data:=.seq aA.toArray n } = { cls:=.type "list",data:=.seq (aA.set j u).toArray n }:=by
 simp[Obj.mapSeq]
theorem Inv.lst{pins:List (Addr×Obj)}{σ:St}{H:Hp}{s:Shared}{p:Addr}{xs:List V}(I:Inv X pins σ H s)(h:H p=some (.lst xs)) :
  ∃(aA:List Value) (n:Nat),Vals xs aA/\s.heap.get? p=some { cls:=.type "list",data:=.seq aA.toArray n }/\xs.length<=sizeLine:=by
 obtain⟨z,aA,n,r,e⟩:=I.az p _ h;exact⟨aA,n,r,e,z⟩
theorem Inv.R5{pins:List (Addr×Obj)}{σ:St}{H:Hp}{s:Shared}{p:Addr}{xs ys:List V}{aA its':List Value}{n n':Nat}{f:Obj->Obj}(I:Inv X pins σ H s)(h:H p=some (.lst xs))
  (ho:s.heap.get? p=some { cls:=.type "list",data:=.seq aA.toArray n }) (hf:f { cls:=.type "list",data:=.seq aA.toArray n } = { cls:=.type "list",data:=.seq its'.toArray n' }) (r:Vals ys its') (hz:ys.length<=sizeLine) (t:Nat) :
  Inv X pins σ (upd H p (.lst ys)) { s with heap:=s.heap.update p f,toks:=t }:=by
 have e:(s.heap.update p f).get? p=some { cls:=.type "list",data:=.seq its'.toArray n' }:=by
  rw[Heap.get?_update_self f ho (by rw[hf] <;> rfl),hf]
 refine I.write (x:=p) (e:=p) (by rw[h];trivial) (.inl rfl) (λb u hb q=>(Heap.get?_update_other _ _ (Ne.symm hb)).trans q) ⟨_,e⟩ ?_
 exact⟨hz,its',n',r,e⟩
noncomputable def Bm:V->V->V->Hp->(Hp->Prop)->Prop:=λo i v H Q=>∃p xs k j,o = .ref p/\i = .int k/\H p=some (.lst xs)/\iW xs.length k=some j/\Q (upd H p (.lst (xs.set j v)))
theorem set_list:Ip X Bm:=by
 intro pins s σ H o i v ov iv u Q I ro ri rv h;obtain⟨p,xs,k,j,rfl,rfl,hp,hj,q⟩:=h;cases ro;obtain⟨t,rfl⟩:=ri;obtain⟨aA,n,r,ho,hz⟩:=I.lst hp;obtain⟨h1,h2,h3,h4⟩:=Jd hj;have hl:=r.length;have hn:=qF;have I':Inv X pins σ (upd H p (.lst (xs.set j v))) { s with heap:=s.heap.update p (Obj.mapSeq (·.setIfInBounds j u))} :=
  I.R5 hp ho (R4 aA n j u) (r.set rv j) (by rw[List.length_set];exact hz) s.toks
 by_cases h0:0<=k
 ·have hk:k.toNat=j:=by
   rw[seqIndex_of h0 h4] at h1;exact Option.some.inj h1
  exact PySem.W.ki_setAt ho h0 (by lia) (by rw[List.size_toArray,← hl];exact h4) (by rw[hk];exact⟨_,I',q⟩)
 ·have hk:(k+(aA.toArray.size:Int)).toNat=j:=by
   rw[seqIndex_neg (by lia) h3] at h1
   rw[List.size_toArray,← hl];exact Option.some.inj h1
  exact PySem.W.ki_setBack ho (by lia) (by rw[List.size_toArray,← hl];exact h3) (by lia) (by rw[hk];exact⟨_,I',q⟩)
theorem R6(lo hi:Option Int)(n:Nat):(sliceBounds lo hi none n).1=((_H.e8 n 0 lo:Nat):Int)/\(sliceBounds lo hi none n).2.1=((_H.e8 n n hi:Nat):Int)/\(sliceBounds lo hi none n).2.2=1:=by
 refine⟨?_,?_,rfl⟩
 ·cases lo with
  | none=>simp[sliceBounds,_H.e8]
  | some i =>
   simp only[sliceBounds,_H.e8,Option.getD_none,show (1:Int) > 0 by decide,if_true]
   by_cases h:i<0
   ·simp only[h,if_true] <;> lia
   ·simp only[h,if_false] <;> lia
 ·cases hi with
  | none=>simp[sliceBounds,_H.e8]
  | some i =>
   simp only[sliceBounds,_H.e8,Option.getD_none,show (1:Int) > 0 by decide,if_true]
   by_cases h:i<0
   ·simp only[h,if_true] <;> lia
   ·simp only[h,if_false] <;> lia
theorem R7(aA:List Value)(lo hi:Option Int):slicePick aA.toArray lo hi none=((aA.drop (_H.e8 aA.length 0 lo)).take (_H.e8 aA.length aA.length hi - _H.e8 aA.length 0 lo)).toArray:=by
 obtain⟨h1,h2,h3⟩:=R6 lo hi aA.toArray.size;unfold slicePick;rw[h1,h2,h3];simp only[sliceRange_one,pick_run,List.size_toArray] <;> rfl
noncomputable def Bo(K:PySem.W.Frag):V->Option Int->Option Int->Hp->VK->Prop:=λx lo hi H Q=>∃a xs,x = .ref a/\aH K H a xs/\∀p,H p=none->Q (.ref p) (upd H p (.lst (oX xs lo hi)))
theorem R8:Jb X (Bo X.K):=by
 intro pins s σ H x v vl vu lo hi sl Q I rx hs pl pu h;obtain⟨a,xs,rfl,hx,q⟩:=h;cases rx;obtain⟨aA,r,ht,hz⟩:=I.list hx;have hlen:=r.length;refine⟨"list",_,slot_list_getitem.lookup,ht.isList.typeIs,?_⟩;refine wpAny_getItem_list_slice ht.isList hs pl pu .none (by simp) ?_ (by rw[List.size_toArray] <;> lia)
 rw[R7,← hlen];refine⟨.ref s.heap.objs.size,_,I.laid (t':=s.toks) (o:=.lst (oX xs lo hi)) (λb ob q=>Heap.get?_push_of_some _ q) (Nat.le_refl _) ?_,rfl,q _ (I.az.fresh (Nat.le_refl _))⟩;exact⟨Nat.le_trans (R0 xs lo hi) hz,_,0,(r.drop (_H.e8 xs.length 0 lo)).take (_H.e8 xs.length xs.length hi - _H.e8 xs.length 0 lo),Heap.get?_push_size _ rfl⟩
noncomputable def Jh:V->Bool
 | .aG=>true
 | .bl _=>true
 | .int _=>true
 | .str _=>true
 | _=>false
noncomputable def R9:V->V->Bool
 | .aG,.aG=>true
 | .bl a,.bl b=>a == b
 | .bl a,.int b=>(if a then 1 else 0) == b
 | .int a,.bl b=>a == (if b then 1 else 0)
 | .int a,.int b=>a == b
 | .str a,.str b=>a == b
 | _,_=>false
noncomputable def Ji(x:V)(xs:List V):Bool:=xs.any λy=>R9 y x
noncomputable def Jj(K:PySem.W.Frag)(neg:Bool):R2:=λx y H Q=>∃p xs,y = .ref p/\(aH K H p xs\/bA K H p xs)/\Jh x=true/\xs.all Jh=true/\Q (.bl (if neg then !Ji x xs else Ji x xs)) H
theorem eT:fP X (.builtin "len") (λxs H Q=>∃p ys,xs = [.ref p]/\(aH X.K H p ys\/bA X.K H p ys)/\Q (.int ys.length) H):=by
 intro pins s σ H xs us Q I r h;obtain⟨p,ys,rfl,hq,q⟩:=h;obtain⟨u,rfl,rx⟩:=vals1 r;cases rx;have hn:=qF;rcases hq with hq | hq
 ·obtain⟨aA,r',pl,hz⟩:=I.list hq;have hlen:=r'.length;exact Calls.call_len_list pl.isList (by simp only[List.size_toArray] <;> lia) ⟨.int ys.length,H,I.tok _,⟨s.toks+1,by rw[List.size_toArray,hlen]⟩,q⟩
 ·obtain⟨aA,r',pl,hz⟩:=I.tuple hq;have hlen:=r'.length;exact len_tuple pl (by simp only[List.size_toArray] <;> lia) ⟨.int ys.length,H,I.tok _,⟨s.toks+1,by rw[List.size_toArray,hlen]⟩,q⟩
theorem Bp:fP X (.type "list") (λxs H Q=>∃p ys,xs = [.ref p]/\(aH X.K H p ys\/bA X.K H p ys)/\∀l,H l=none->Q (.ref l) (upd H l (.lst ys))):=by
 intro pins s σ H xs us Q I r h;obtain⟨p,ys,rfl,hq,q⟩:=h;obtain⟨u,rfl,rx⟩:=vals1 r;cases rx;have fin:∀(aA:List Value),Vals ys aA->ys.length<=sizeLine->∀(h':Heap) (c':Nat),(∀b o',s.heap.get? b=some o'->h'.get? b=some o')->
   h'.get? s.heap.objs.size=some { cls:=.type "list",dict:=none,data:=.seq aA.toArray c',slots := #[] }->EP X pins σ Q (.ref s.heap.objs.size) { s with heap:=h' }:=λaA r' hz h' c' kp e =>
  ⟨.ref s.heap.objs.size,_,I.laid (t':=s.toks) kp (Nat.le_refl _) (show bW X.prog X.w _ h' _ (.lst ys) from⟨hz,aA,c',r',e⟩),rfl,q _ (I.az.fresh (Nat.le_refl _))⟩
 rcases hq with hq | hq
 ·obtain⟨aA,r',pl,hz⟩:=I.list hq;have hlen:=r'.length;obtain⟨o,ho,hc,n,hd⟩:=pl.isList;exact call_list_seq p (.inl rfl) ho hc hd (λh' c' kp e=>fin aA r' hz h' c' kp e) (by simp only[List.size_toArray] <;> lia)
 ·obtain⟨aA,r',pl,hz⟩:=I.tuple hq;have hlen:=r'.length;obtain⟨o,ho,hc,n,hd⟩:=pl;exact call_list_seq p (.inr rfl) ho hc hd (λh' c' kp e=>fin aA r' hz h' c' kp e) (by simp only[List.size_toArray] <;> lia)
theorem vf:fP X (.type "tuple") (λxs H Q=>∃p ys,xs = [.ref p]/\((aH X.K H p ys/\∀l,H l=none->Q (.ref l) (upd H l (.tup ys)))\/(bA X.K H p ys/\Q (.ref p) H))):=by
 intro pins s σ H xs us Q I r h;obtain⟨p,ys,rfl,h⟩:=h;obtain⟨u,rfl,rx⟩:=vals1 r;cases rx;rcases h with⟨hq,q⟩ | ⟨hq,q⟩
 ·obtain⟨aA,r',pl,hz⟩:=I.list hq;have hlen:=r'.length;refine call_tuple_list pl.isList (λh' kp=>?_) (by simp only[List.size_toArray] <;> lia)
  have I1:Inv X pins σ H { s with heap:=h' }:=I.kept (t':=s.toks) kp;have I2:Inv X pins σ (upd H h'.objs.size (.tup ys)) { s with heap:=h'.push { cls:=.type "tuple",data:=.seq aA.toArray }} :=
   I1.laid (t':=s.toks) (λb o e=>Heap.get?_push_of_some _ e) (Nat.le_refl _) (show bW X.prog X.w _ _ _ (.tup ys) from⟨hz,aA,r',IsTup.new _ _⟩)
  exact⟨.ref h'.objs.size,_,I2,rfl,q _ (I1.az.fresh (Nat.le_refl _))⟩
 ·obtain⟨aA,r',pl,hz⟩:=I.tuple hq;exact call_tuple_same pl ⟨.ref p,H,I,rfl,q⟩
noncomputable def qN(K:PySem.W.Frag)(T:String)(x:V)(H:Hp):Prop:=match x with
 | .str _=>T = "str"
 | .int _=>T = "int"
 | .ref p=>(T = "list"/\∃xs,aH K H p xs)\/(T = "tuple"/\∃o,K.lookup p=some o/\o.cls = .type "tuple"/\o.dict=none)\/
   (T = "dict"/\((∃aq,H p=some (.dK aq))\/∃aq,H p=some (.dT aq)))\/(T = "set"/\∃S n,H p=some (.set S n))
 | _=>False
theorem Jk{pins:List (Addr×Obj)}{σ:St}{H:Hp}{s:Shared}{T:String}{x:V}{v:Value}(I:Inv X pins σ H s)(r:RelV x v)(ty:qN X.K T x H) :
  s.TypeIs v T/\∀a,v = .ref a->∃ob,s.heap.get? a=some ob/\ob.dict=none:=by
 cases x with
 | str z =>
  obtain⟨t,rfl⟩:=r;cases (show T = "str" from ty);exact⟨typeIs_str s z t,λ_ e=>nomatch e⟩
 | int i =>
  obtain⟨t,rfl⟩:=r;cases (show T = "int" from ty);exact⟨typeIs_int s i t,λ_ e=>nomatch e⟩
 | ref p =>
  cases r;rcases ty with⟨rfl,xs,hq⟩ | ⟨rfl,o,hk,hc,hd⟩ | ⟨rfl,hk⟩ | ⟨rfl,S,n,hk⟩
  ·obtain⟨aA,_,pl,_⟩:=I.list hq;refine⟨pl.isList.typeIs,λa e=>?_⟩;cases e;obtain⟨o,n,e,c,hd,_⟩:=pl;exact⟨o,e,hd⟩
  ·refine⟨⟨o,I.bC p o hk,hc⟩,λa e=>?_⟩;cases e;exact⟨o,I.bC _ o hk,hd⟩
  ·have z:∃o,s.heap.get? p=some o/\o.ExactDict:=by
    rcases hk with⟨aq,hk⟩ | ⟨aq,hk⟩
    ·obtain⟨_,_,_,_,o,_,_,e,ex,_⟩:=I.az p _ hk;exact⟨o,e,ex⟩
    ·obtain⟨_,_,_,_,o,_,_,e,ex,_⟩:=I.az p _ hk;exact⟨o,e,ex⟩
   obtain⟨o,e,ex⟩:=z;refine⟨⟨o,e,ex.1⟩,λa e2=>?_⟩;cases e2;exact⟨o,e,ex.2.1⟩
  ·obtain⟨o,_,_,_,e,ex,_⟩:=I.az p _ hk;refine⟨⟨o,e,ex.1⟩,λa e2=>?_⟩;cases e2;exact⟨o,e,ex.2.1⟩
 | _=>exact False.elim ty
noncomputable def Bq(K:PySem.W.Frag)(T:String)(r:V->List V->Hp->VK->Prop)(to:TE):TE:=λσ H Q=>to σ H λx H1=>qN K T x H1/\r x [] H1 Q
noncomputable def Br(K:PySem.W.Frag)(T:String)(r:V->List V->Hp->VK->Prop)(to:TE)(t:TA):TE:=λσ H Q=>to σ H λx H1=>qN K T x H1/\t σ H1 λxs H2=>r x xs H2 Q
variable{o e:Expr}{es:List Expr}{to:TE}{t:TA}{name:Str}{apos bG:Pos}{T id:String}{r:V->List V->Hp->VK->Prop}
theorem R_(pa:PlainAttrs T)(slot:Slot T name id)(Bs:typeOf (.builtin id)=pure (.type "method_descriptor"))(hm:Je X id r)(ho:PE X o to)
  (iX:attributeBase o name X.env (eval o X.env)=eval o X.env:=by rfl) (Bt:(apos.endLine == bG.line)=true:=by rfl):PE X (.Call (.Attribute o name apos) [] [] bG) (Bq X.K T r to):=by
 intro pins s σ H Q I h;refine wpAny_Call_method0_late iX Bt (aN (ho pins s σ H _ I h) λv s1 ⟨x,H1,I1,r1,ty,q1⟩=>?_);obtain⟨h1,h2⟩:=Jk I1 r1 ty;exact⟨T,id,pa,slot,Bs,h1,h2,Calls.callWith_builtin rfl (PySem.evalArgs_none (hm pins s1 σ H1 x [] v [] Q I1 r1 .nil q1))⟩
theorem jV(pa:PlainAttrs T)(slot:Slot T name id)(Bs:typeOf (.builtin id)=pure (.type "method_descriptor"))(hm:Je X id r)(ho:PE X o to)(ha:PA X (e::es) t)
  (iX:attributeBase o name X.env (eval o X.env)=eval o X.env:=by rfl)
  (Sa:((backTo bG (starEach (e::es) X.env)).all (λx => !x.1) && (backToKw bG (keywordEach [] X.env)).all (λx=>x.1.isSome)
   && decide ((e::es).length+([]:List Keyword).length+(if ([]:List Keyword).isEmpty then 0 else 1)<30))=true:=by rfl)
  (Bt:(apos.endLine == bG.line)=true:=by rfl) (hs:starEach (e::es) X.env=(false,eval e X.env)::starEach es X.env:=by rfl) (mH:(backTo bG (starEach es X.env)).any (·.1)=false:=by rfl) :
  PE X (.Call (.Attribute o name apos) (e::es) [] bG) (Br X.K T r to t):=by
 intro pins s σ H Q I h;refine wpAny_Call_method_late iX Sa Bt rfl (aN (ho pins s σ H _ I h) λv s1 ⟨x,H1,I1,r1,ty,q1⟩=>?_);obtain⟨h1,h2⟩:=Jk I1 r1 ty;refine⟨T,id,pa,slot,Bs,h1,h2,?_⟩;have hA:=ha bG pins s1 σ H1 _ I1 q1;rw[hs] at hA ⊢;refine Calls.callWith_builtin (by show (false || (backTo bG (starEach es X.env)).any (·.1))=false;rw[mH] <;> rfl) (Calls.evalArgs_plain ?_)
 exact aN hA λus s2 ⟨vs,H2,I2,r2,q2⟩=>hm pins s2 σ H2 x vs v us Q I2 r1 r2 q2
end
noncomputable def Bu(X:Cx)(id:String)(r:V->List V->Hp->VK->Prop):Prop :=
 ∀(pins:List (Addr×Obj)) (s:Shared) (σ:St) (H:Hp) (x:V) (xs:List V) (v:Value) (us:List Value) (Q:VK),Inv X pins σ H s->RelV x v->Vals xs us->r x xs H Q->
  wpAny (model X.prog X.w) X.A (call (.builtin id) (v::us)) (EP X pins σ Q) X.xe s
theorem Vals.one:∀ {x:V} {us:List Value},Vals [x] us->∃u,us = [u]/\RelV x u
 | _,_,.cons r .nil=>⟨_,rfl,r⟩
theorem Vals.zero:∀ {us:List Value},Vals [] us->us = []
 | _,.nil=>rfl
theorem Vals.rep{xs:List V}{us:List Value}(h:Vals xs us):∀k:Nat,Vals (List.replicate k xs).flatten (List.replicate k us).flatten
 | 0=>.nil
 | k+1=>by
  rw[List.replicate_succ,List.replicate_succ,List.flatten_cons,List.flatten_cons];exact Vals.append h (Vals.rep h k)
theorem foldl_rep(aA:List Value):∀(k:Nat) (acc:List Value),
  List.foldl (λx1 x2=>x1++x2) acc.toArray (List.replicate k aA.toArray)=(acc++(List.replicate k aA).flatten).toArray
 | 0,acc=>by simp
 | k+1,acc=>by
  have e:acc.toArray++aA.toArray=(acc++aA).toArray:=by simp
  have e2:(acc++aA)++(List.replicate k aA).flatten=acc++(List.replicate (k+1) aA).flatten:=by
   rw[List.replicate_succ,List.flatten_cons,List.append_assoc]
  rw[← e2,← foldl_rep aA k (acc++aA),← e,List.replicate_succ,List.foldl_cons]
section
variable{X:Cx}{pins:List (Addr×Obj)}{σ:St}{H:Hp}{s:Shared}{l b:Addr}{xs ys zs:List V}
theorem Inv.Bv{aA its':List Value}{n:Nat}{f:Array Value->Array Value}{t':Nat}(I:Inv X pins σ H s)(hH:H l=some (.lst xs))
  (e:s.heap.get? l=some { cls:=.type "list",data:=.seq aA.toArray n }) (hf:f aA.toArray=its'.toArray) (hv:Vals ys its') (hz:ys.length<=sizeLine) :
  Inv X pins σ (upd H l (.lst ys)) { s with heap:=s.heap.update l (Obj.mapSeq f),toks:=t' }:=by
 have q:=PySem.IsL.update e f;rw[hf] at q;refine I.write (x:=l) (e:=l) (by rw[hH];exact trivial) (.inl rfl) (λb' u hb hu=>(Heap.get?_update_other s.heap (Obj.mapSeq f) (Ne.symm hb)).trans hu) ⟨_,q⟩ ?_
 exact⟨hz,its',_,hv,q⟩
theorem Inv.Jl{aA:List Value}{t':Nat}(I:Inv X pins σ H s)(hv:Vals ys aA)(hz:ys.length<=sizeLine) :
  Inv X pins σ (upd H s.heap.objs.size (.lst ys)) { s with heap:=s.heap.push { cls:=.type "list",data:=.seq aA.toArray },toks:=t' } :=
 I.laid (λ_ _ q=>Heap.get?_push_of_some _ q) (Nat.le_refl _) ⟨hz,aA,0,hv,Heap.get?_push_size _ rfl⟩
theorem Inv.fresh(I:Inv X pins σ H s):H s.heap.objs.size=none:=I.az.fresh (Nat.le_refl _)
theorem Inv.mJ(I:Inv X pins σ H s)(hH:H l=some (.lst xs)):xs.length<=sizeLine/\∃(aA:List Value) (n:Nat),Vals xs aA/\xs.length=aA.length/\s.heap.get? l=some { cls:=.type "list",data:=.seq aA.toArray n }:=by
 obtain⟨z,aA,n,r,e⟩:=I.az l _ hH;exact⟨z,aA,n,r,r.length,e⟩
theorem Jm{n:Nat}(h:n<=sizeLine):Builtin.List.listTooLong n=false:=by
 unfold Builtin.List.listTooLong;exact decide_eq_false (by lia)
end
section
variable{X:Cx}
noncomputable def Bw:V->List V->Hp->VK->Prop:=λx vs H Q=>∃l xs y,x = .ref l/\vs = [y]/\H l=some (.lst xs)/\xs.length<sizeLine/\Q .aG (upd H l (.lst (xs++[y])))
theorem jW:Bu X "list.append" Bw:=by
 intro pins s σ H x vs v us Q I rx rv h;obtain⟨l,xs,y,rfl,rfl,hH,hz,q⟩:=h;cases rx;obtain⟨u,rfl,ru⟩:=rv.one;obtain⟨z,aA,n,r,hl,e⟩:=I.mJ hH;refine call_meets F.slot_list_append ⟨_,e,rfl⟩ F.entry_list_append (F.args_list_append_2 _ _) (PySem.list_append l aA.toArray n u (by rw[List.size_toArray];lia)) ⟨e,?_⟩
 refine⟨.aG,_,I.Bv (its':=aA++[u]) hH e (by simp) (r.append (.cons ru .nil)) ?_,rfl,q⟩
 rw[List.length_append,List.length_singleton];lia
noncomputable def Bx:V->List V->Hp->VK->Prop:=λx vs H Q=>∃l b xs zs,x = .ref l/\vs = [.ref b]/\H l=some (.lst xs)/\H b=some (.lst zs)/\xs.length+zs.length<=sizeLine/\Q .aG (upd H l (.lst (xs++zs)))
theorem Jo:Bu X "list.extend" Bx:=by
 intro pins s σ H x vs v us Q I rx rv h;obtain⟨l,b,xs,zs,rfl,rfl,hH,hB,hz,q⟩:=h;cases rx;obtain⟨u,rfl,ru⟩:=rv.one;cases ru;obtain⟨z,aA,n,r,hl,e⟩:=I.mJ hH;obtain⟨z2,mK,n2,r2,vg,e2⟩:=I.mJ hB;have hsz:aA.toArray.size+mK.toArray.size<=sizeLine:=by rw[List.size_toArray,List.size_toArray];lia
 have By:¬ (!aA.toArray.isEmpty && Builtin.List.listTooLong (aA.toArray.size+mK.toArray.size))=true:=by
  rw[Jm hsz,Bool.and_false];exact Bool.false_ne_true
 refine call_meets F.slot_list_extend ⟨_,e,rfl⟩ F.entry_list_extend (F.args_list_extend_2 _ _)
  (AutoSeq1.list_extend_list_list_0 l aA.toArray n b mK.toArray n2 By (by rw[List.size_toArray];lia) (by lia)) ⟨e,e2,?_⟩
 refine⟨.aG,_,I.Bv (its':=aA++mK) hH e (by simp) (r.append r2) ?_,rfl,q⟩
 rw[List.length_append];lia
noncomputable def Jp:V->List V->Hp->VK->Prop:=λx vs H Q=>∃l xs y,x = .ref l/\vs = []/\H l=some (.lst xs)/\xs[xs.length - 1]? = some y/\Q y (upd H l (.lst xs.dropLast))
noncomputable def BA:V->List V->Hp->VK->Prop:=λx vs H Q=>∃l xs,x = .ref l/\vs = []/\H l=some (.lst xs)/\Q .aG (upd H l (.lst []))
theorem Sd:Bu X "list.clear" BA:=by
 intro pins s σ H x vs v us Q I rx rv h;obtain⟨l,xs,rfl,rfl,hH,q⟩:=h;cases rx;have mL:=rv.zero;subst mL;obtain⟨z,aA,n,r,hl,e⟩:=I.mJ hH;refine call_meets F.slot_list_clear ⟨_,e,rfl⟩ F.entry_list_clear (F.args_list_clear_1 _) (AutoSeq1.list_clear_list_0 l aA.toArray n (by rw[List.size_toArray];lia)) ⟨e,?_⟩
 exact⟨.aG,_,I.Bv (its':=[]) (ys:=[]) hH e rfl .nil (Nat.zero_le _),rfl,q⟩
noncomputable def BB:R2:=λx y H Q=>∃l b xs zs,x = .ref l/\y = .ref b/\H l=some (.lst xs)/\H b=some (.lst zs)/\xs.length+zs.length<=sizeLine/\∀p,H p=none->Q (.ref p) (upd H p (.lst (xs++zs)))
theorem Jq:dR X (binaryOp .Add) BB:=by
 intro pins s σ H x y v u Q I rx ry h;obtain⟨l,b,xs,zs,rfl,rfl,hH,hB,hz,q⟩:=h;cases rx;cases ry;obtain⟨z,aA,n,r,hl,e⟩:=I.mJ hH;obtain⟨z2,mK,n2,r2,vg,e2⟩:=I.mJ hB;refine PySem.P.add_list e e2 ?_ (by rw[List.size_toArray,List.size_toArray];lia)
 have ea:aA.toArray++mK.toArray=(aA++mK).toArray:=by simp
 rw[ea];exact⟨.ref _,_,I.Jl (t':=s.toks) (r.append r2) (by rw[List.length_append];lia),rfl,q _ I.fresh⟩
noncomputable def BD:R2:=λx y H Q=>∃l k xs,x = .ref l/\y = .int k/\H l=some (.lst xs)/\-(2 ^ 63)<=k/\k<2 ^ 63/\xs.length*k.toNat<=sizeLine/\
 ∀p,H p=none->Q (.ref p) (upd H p (.lst (List.replicate k.toNat xs).flatten))
theorem len_rep{α:Type}(xs:List α)(k:Nat):(List.replicate k xs).flatten.length=k*xs.length:=by
 induction k with
 | zero=>simp
 | succ k ih=>rw[List.replicate_succ,List.flatten_cons,List.length_append,ih,Nat.succ_mul,Nat.add_comm]
theorem Jr:dR X (binaryOp .Mult) BD:=by
 intro pins s σ H x y v u Q I rx ry h;obtain⟨l,k,xs,rfl,rfl,hH,h1,h2,hz,q⟩:=h;cases rx;obtain⟨t,rfl⟩:=ry;obtain⟨z,aA,n,r,hl,e⟩:=I.mJ hH;have hlen:aA.toArray.size*k.toNat<=sizeLine:=by rw[List.size_toArray,← hl];exact hz
 have Se:¬ aA.toArray.size*k.toNat > (2 ^ 63 - 1) / 8:=by
  have:(sizeLine:Nat)<=(2 ^ 63 - 1) / 8:=by decide
  lia
 have Sf:¬ (!Builtin.List.listFitsIndex k)=true:=by
  rw[fitsIndex_both h1 h2];exact Bool.false_ne_true
 have By:¬ Builtin.List.listTooLong (aA.toArray.size*k.toNat)=true:=by
  rw[Jm hlen];exact Bool.false_ne_true
 have qO:List.foldl (λx1 x2=>x1++x2) #[] (List.replicate (if aA.toArray.isEmpty=true then 0 else k.toNat) aA.toArray)=(List.replicate k.toNat aA).flatten.toArray:=by
  have f0:∀m:Nat,List.foldl (λx1 x2=>x1++x2) #[] (List.replicate m aA.toArray)=(List.replicate m aA).flatten.toArray:=λm=>by
   have:=foldl_rep aA m [];rw[List.nil_append] at this;exact this
  rw[f0];cases aA with
  | nil=>simp
  | cons a r'=>rw[if_neg (by simp)]
 refine wpAny_binaryOp_repeat_ref (T := "list") (U := "int") (by decide) ⟨_,e,rfl⟩ (λs'=>typeIs_int s' k t) noFill_list_mul F.fills_int_mul F.slot_int_rmul repeat_list F.slot_int_index.lookup
  (call_meets F.slot_int_rmul (typeIs_int s k t) F.entry_int_rmul (F.args_int_rmul_2 _ _) (int___rmul___int_list k t l aA.toArray n)
   ⟨e,rfl,⟨_,e,rfl⟩,call_meets F.slot_list_mul ⟨_,e,rfl⟩ F.entry_list_mul (F.args_list_mul_2 _ _) (AutoListH.list___mul___list_int_3 l aA.toArray n k t Sf Se By) ⟨e,?_⟩⟩)
 rw[qO];exact⟨.ref _,_,I.Jl (t':=s.toks) (r.rep k.toNat) (by rw[len_rep,Nat.mul_comm];exact hz),rfl,q _ I.fresh⟩
end
section
variable{prog:Program}{w:World}{A:Around}{E:Value->Shared->Prop}{s:Shared}
end
section
variable{X:Cx}
end
section
variable{κ:Type}[DecidableEq κ]
noncomputable def fR(aq:List (κ×V))(k:κ):Option V:=(aq.find? λkv=>decide (kv.1=k)).map (·.2)
noncomputable def putK(aq:List (κ×V))(k:κ)(v:V):List (κ×V) :=
 if (aq.any λkv=>decide (kv.1=k))=true then aq.map (λkv=>if kv.1=k then(kv.1,v) else kv) else aq++[(k,v)]
theorem vh{p:κ×V}{r:List (κ×V)}{k:κ}(e:p.1=k):fR (p::r) k=some p.2:=by simp[fR,List.find?_cons,e]
theorem qP{p:κ×V}{r:List (κ×V)}{k:κ}(e:¬ p.1=k):fR (p::r) k=fR r k:=by simp[fR,List.find?_cons,e]
theorem vj(k:κ):∀aq:List (κ×V),(aq.any λkv=>decide (kv.1=k))=(fR aq k).isSome
 | []=>rfl
 | p::r=>by
  rw[List.any_cons];by_cases e:p.1=k
  ·simp only[vh e,decide_eq_true e,Bool.true_or,Option.isSome_some]
  ·rw[qP e,decide_eq_false e,Bool.false_or];exact vj k r
theorem BE(aq:List (κ×V))(k:κ)(v:V):(putK aq k v).length<=aq.length+1:=by
 unfold putK;split
 ·rw[List.length_map];lia
 ·rw[List.length_append,List.length_cons,List.length_nil];lia
theorem Js{aq:List (κ×V)}{k:κ}(v:V)(h:fR aq k=none):putK aq k v=aq++[(k,v)]:=by
 unfold putK;rw[vj,h];exact if_neg (by decide)
theorem dO.qQ{o:Option V}{u:Option Value}(r:dO o u):o.isSome=u.isSome:=by
 cases o with
 | none=>cases u with
  | none=>rfl
  | some _=>exact(show False from r).elim
 | some _=>cases u with
  | none=>exact(show False from r).elim
  | some _=>rfl
theorem KV.val{aq:List (κ×V)}{vs:List (κ×Value)}(r:KV aq vs)(k:κ):dO (fR aq k) (valueAt vs k):=by
 unfold KV at r
 induction r with
 | nil=>exact True.intro
 | @cons p q ps qs h t ih =>
  obtain⟨h1,h2⟩:=h;by_cases e:p.1=k
  ·have e':q.1=k:=h1.symm.trans e;have b:valueAt (q::qs) k=some q.2:=by simp[valueAt,List.find?_cons,e']
   rw[vh e,b];exact h2
  ·have e':¬ q.1=k:=λz=>e (h1.trans z);have b:valueAt (q::qs) k=valueAt qs k:=by simp[valueAt,List.find?_cons,e']
   rw[qP e,b];exact ih
theorem KV.any{aq:List (κ×V)}{vs:List (κ×Value)}(r:KV aq vs)(k:κ):(aq.any λkv=>decide (kv.1=k))=vs.any λkv=>decide (kv.1=k):=by
 unfold KV at r
 induction r with
 | nil=>rfl
 | cons h t ih=>rw[List.any_cons,List.any_cons,ih,h.1]
theorem KV.BF{aq:List (κ×V)}{vs:List (κ×Value)}(r:KV aq vs)(k:κ){y:V}{u:Value}(ry:RelV y u) :
  KV (aq.map λkv=>if kv.1=k then(kv.1,y) else kv) (vs.map λkv=>if kv.1=k then(kv.1,u) else kv):=by
 unfold KV at r ⊢
 induction r with
 | nil=>exact .nil
 | @cons p q ps qs h t ih =>
  rw[List.map_cons,List.map_cons];refine .cons ?_ ih;obtain⟨h1,h2⟩:=h;by_cases e:p.1=k
  ·rw[if_pos e,if_pos (h1.symm.trans e)];exact⟨h1,ry⟩
  ·rw[if_neg e,if_neg (λz=>e (h1.trans z))];exact⟨h1,h2⟩
theorem KV.put{aq:List (κ×V)}{vs:List (κ×Value)}(r:KV aq vs)(k:κ){y:V}{u:Value}(ry:RelV y u):KV (putK aq k y) (stored vs k u):=by
 unfold putK stored;rw[r.any k];by_cases e:(vs.any λkv=>decide (kv.1=k))=true
 ·rw[if_pos e,if_pos e];exact r.BF k ry
 ·rw[if_neg e,if_neg e];exact Paired.snoc r ⟨rfl,ry⟩
theorem KV.length{aq:List (κ×V)}{vs:List (κ×Value)}(r:KV aq vs):aq.length=vs.length:=Paired.length r
end
theorem vm{P:Program}{w:World}{k:Key}{u:Value}(r:RelV (kV k) u):(c9 P w).is k u=true:=by
 cases k with
 | inl i=>obtain⟨t,e⟩:=(show ∃t,u=Value.int i t from r);subst e;exact Rh P w i t
 | inr x=>obtain⟨t,e⟩:=(show ∃t,u=Value.str x t from r);subst e;exact Ri P w x t
theorem Jt{P:Program}{w:World}:∀ {ks:List Key} {us:List Value},Vals (ks.map kV) us->ItemsAre (c9 P w) ks us
 | [],_,r=>by rw[List.map_nil] at r;cases r;exact .nil
 | k::ks,_,r=>by
  rw[List.map_cons] at r;cases r with
  | cons h t=>exact .cons (vm h) (Jt t)
noncomputable abbrev KT(H:Hp):List (List Key×V)->List (List Key×Addr×Value)->Prop:=Paired λp q=>p.1=q.1/\H q.2.1=some (.tup (p.1.map kV))/\RelV p.2 q.2.2
theorem KT.val{H:Hp}{aq:List (List Key×V)}{xs:List (List Key×Addr×Value)}(r:KT H aq xs)(k:List Key):dO (fR aq k) ((atKey xs k).map (·.2)):=by
 induction r with
 | nil=>exact True.intro
 | @cons p q ps qs h t ih =>
  obtain⟨h1,_,h2⟩:=h;by_cases e:p.1=k
  ·have e':q.1=k:=h1.symm.trans e;have b:atKey (q::qs) k=some q.2:=by simp[atKey,List.find?_cons,e']
   rw[vh e,b];exact h2
  ·have e':¬ q.1=k:=λz=>e (h1.trans z);have b:atKey (q::qs) k=atKey qs k:=by simp[atKey,List.find?_cons,e']
   rw[qP e,b];exact ih
theorem KT.BF{H:Hp}{aq:List (List Key×V)}{xs:List (List Key×Addr×Value)}(r:KT H aq xs)(k:List Key){y:V}{u:Value}(ry:RelV y u) :
  KT H (aq.map λkv=>if kv.1=k then(kv.1,y) else kv) (xs.map (putAt k u)):=by
 induction r with
 | nil=>exact .nil
 | @cons p q ps qs h t ih =>
  rw[List.map_cons,List.map_cons];refine .cons ?_ ih;obtain⟨h1,h2,h3⟩:=h;unfold putAt;by_cases e:p.1=k
  ·rw[if_pos e,if_pos (h1.symm.trans e)];exact⟨h1,h2,ry⟩
  ·rw[if_neg e,if_neg (λz=>e (h1.trans z))];exact⟨h1,h2,h3⟩
theorem KT.put{H:Hp}{aq:List (List Key×V)}{xs:List (List Key×Addr×Value)}(r:KT H aq xs)(k:List Key){b:Addr}{y:V}{u:Value}(hb:H b=some (.tup (k.map kV)))(ry:RelV y u) :
  KT H (putK aq k y) (storedH xs k b u):=by
 have e:(aq.any λkv=>decide (kv.1=k))=(atKey xs k).isSome:=by
  rw[vj,(r.val k).qQ,Option.isSome_map]
 unfold putK storedH;rw[e];by_cases q:(atKey xs k).isSome=true
 ·rw[if_pos q,if_pos q];exact r.BF k ry
 ·rw[if_neg q,if_neg q];exact Paired.snoc r ⟨rfl,hb,ry⟩
theorem KT.keeps{H H':Hp}{aq:List (List Key×V)}{xs:List (List Key×Addr×Value)}(r:KT H aq xs)(ht:∀b ys,H b=some (.tup ys)->H' b=some (.tup ys)):KT H' aq xs :=
 Paired.AA r λ_ _ z=>⟨z.1,ht _ _ z.2.1,z.2.2⟩
section
variable{P:Program}{w:World}{H:Hp}{h:Heap}{a:Addr}
theorem Ju{u:HO}(ok:bQ P w H h)(e:Rd H a u):bW P w H h a u:=e.ok ok
theorem BG{aq:List (Key×V)}(ok:bQ P w H h)(e:Rd H a (.dK aq)):aq.length<=sizeLine/\(a == sysModules)=false/\∃vs,KV aq vs/\h.DictOf (c9 P w) a vs :=
 show bW P w H h a (.dK aq) from Ju ok e
theorem Sg{aq:List (Key×V)}(ok:bQ P w H h)(e:H a=some (.dK aq)):aq.length<=sizeLine/\(a == sysModules)=false/\∃vs,KV aq vs/\h.DictOf (c9 P w) a vs:=BG ok (.inl e)
theorem vn{ks:List Key}(ok:bQ P w H h)(e:H a=some (.tup (ks.map kV))):(tupleKind (c9 P w)).is h ks a:=by
 obtain⟨_,aA,r,o,h1,h2,n,h3⟩:=(show bW P w H h a (.tup (ks.map kV)) from ok a _ e);exact⟨o,aA.toArray,n,h1,h2,h3,by simpa using Jt r⟩
theorem BH{aq:List (List Key×V)}(ok:bQ P w H h)(e:Rd H a (.dT aq)):aq.length<=sizeLine/\(a == sysModules)=false/\
  ∃xs,KT H aq xs/\h.DictOfH (tupleKind (c9 P w)) a xs:=by
 obtain⟨z,y,xs,r,o,es,ep,h1,h2,h3,h4,h5⟩:=(show bW P w H h a (.dT aq) from Ju ok e);refine⟨z,y,xs,r,o,es,ep,h1,h2,h3,h4,λx hx=>?_,h5⟩;have all:∀ {l:List (List Key×V)} {m:List (List Key×Addr×Value)},KT H l m->∀x∈m,(tupleKind (c9 P w)).is h x.1 x.2.1:=by
  intro l m q
  induction q with
  | nil=>intro x hx;exact nomatch hx
  | @cons p q ps qs hq t ih =>
   intro x hx;rcases List.mem_cons.mp hx with e | hx
   ·subst e;exact vn ok (by rw[← hq.1];exact hq.2.1)
   ·exact ih x hx
 exact all r x hx
theorem BI{aq:List (List Key×V)}(ok:bQ P w H h)(e:H a=some (.dT aq)):aq.length<=sizeLine/\(a == sysModules)=false/\
  ∃xs,KT H aq xs/\h.DictOfH (tupleKind (c9 P w)) a xs:=BH ok (.inl e)
end
noncomputable def iY(H:Hp)(a:Addr)(y:V)(r:Option V):Prop :=
 (∃aq k,Rd H a (.dK aq)/\y=kV k/\r=fR aq k)\/∃aq k b,Rd H a (.dT aq)/\y = .ref b/\H b=some (.tup (k.map kV))/\r=fR aq k
noncomputable def k6(H:Hp)(a:Addr)(y v:V)(H':Hp):Prop :=
 (∃aq k,H a=some (.dK aq)/\y=kV k/\aq.length<sizeLine/\H' = upd H a (.dK (putK aq k v)))\/
 ∃aq k b,H a=some (.dT aq)/\y = .ref b/\H b=some (.tup (k.map kV))/\aq.length<sizeLine/\H' = upd H a (.dT (putK aq k v))
theorem iY.t{H:Hp}{a b:Addr}{aq:List (List Key×V)}{k:List Key}(e:H a=some (.dT aq))(eb:H b=some (.tup (k.map kV))):iY H a (.ref b) (fR aq k):=.inr ⟨aq,k,b,.inl e,rfl,eb,rfl⟩
theorem k6.t{H:Hp}{a b:Addr}{aq:List (List Key×V)}{k:List Key}{v:V}(e:H a=some (.dT aq))(eb:H b=some (.tup (k.map kV)))(hl:aq.length<sizeLine) :
  k6 H a (.ref b) v (upd H a (.dT (putK aq k v))):=.inr ⟨aq,k,b,e,rfl,eb,hl,rfl⟩
section
variable{X:Cx}{pins:List (Addr×Obj)}{σ:St}{H:Hp}{s:Shared}{a:Addr}{y v:V}{u r:Value}{o:Option V}{A:Around}{E:Value->Shared->Prop}
theorem Inv.big(I:Inv X pins σ H s):sysModules<s.heap.objs.size:=by
 have h:mainGlobals<s.heap.objs.size:=(I.mod.glob.keeps I.bk).lt;exact Nat.lt_trans (by decide) h
theorem Sh{Q:Value->Shared->Prop}(hu:A.units+1<cLine)(I:Inv X pins σ H s)(g:iY H a y o)(ry:RelV y u)(h:∀s',Inv X pins σ H s'->Q (.bool o.isSome) s') :
  wpAny (model X.prog X.w) A (compareOp .In u (.ref a)) Q E s:=by
 rcases g with⟨aq,k,e,ey,l⟩ | ⟨aq,k,b,e,ey,eb,l⟩
 ·subst ey;obtain⟨z,hd,vs,rel,dd⟩:=BG I.az e;refine wpAny_in_of (vm ry) hd dd.mapOf ?_;rw[← (rel.val k).qQ,← l];exact h _ (I.tok _)
 ·subst ey;cases (show u=Value.ref b from ry);obtain⟨z,hd,xs,rel,dd⟩:=BH I.az e;refine wpAny_in_heap (tupleKind_room_in1 hu) (vn I.az eb) hd dd ?_;have q:=(rel.val k).qQ;rw[Option.isSome_map] at q;rw[← q,← l];exact h _ (I.tok _)
theorem Si{Q:Value->Shared->Prop}(hu:A.units+1<cLine)(I:Inv X pins σ H s)(g:iY H a y o)(ry:RelV y u)(h:∀s',Inv X pins σ H s'->Q (.bool (!o.isSome)) s') :
  wpAny (model X.prog X.w) A (compareOp .NotIn u (.ref a)) Q E s:=by
 rcases g with⟨aq,k,e,ey,l⟩ | ⟨aq,k,b,e,ey,eb,l⟩
 ·subst ey;obtain⟨z,hd,vs,rel,dd⟩:=BG I.az e;refine wpAny_notIn_of (vm ry) hd dd.mapOf ?_;rw[← (rel.val k).qQ,← l];exact h _ (I.tok _)
 ·subst ey;cases (show u=Value.ref b from ry);obtain⟨z,hd,xs,rel,dd⟩:=BH I.az e;refine wpAny_notIn_heap (tupleKind_room_in1 hu) (vn I.az eb) hd dd ?_;have q:=(rel.val k).qQ;rw[Option.isSome_map] at q;rw[← q,← l];exact h _ (I.tok _)
theorem Jv{h':Heap}{t':Nat}{ob:HO}(I:Inv X pins σ H s)(mu:qk (H a))(hs:Heap.SameBut a s.heap h')(he:∃q,h'.get? a=some q)(new:bW X.prog X.w (upd H a ob) h' a ob) :
  Inv X pins σ (upd H a ob) { s with heap:=h',toks:=t' } :=
 I.write (x:=a) (e:=a) mu (.inl rfl) (λb q hb z=>(hs.2 b hb).trans z) he new
theorem Sj{P:Program}{w:World}{H':Hp}{h':Heap}{aq:List (Key×V)}{vs:List (Key×Value)}(z:aq.length<=sizeLine)(hd:(a == sysModules)=false)(rel:KV aq vs)(dd:h'.DictOf (c9 P w) a vs) :
  bW P w H' h' a (.dK aq):=⟨z,hd,vs,rel,dd⟩
theorem Sk{H':Hp}{Q:Unit->Shared->Prop}(hu:A.units+1<cLine)(I:Inv X pins σ H s)(g:k6 H a y v H')(ry:RelV y u)(rv:RelV v r)(h:∀s',Inv X pins σ H' s'->Q () s') :
  wpAny (model X.prog X.w) A (setItem (.ref a) u r) Q E s:=by
 rcases g with⟨aq,k,e,ey,l,eH⟩ | ⟨aq,k,b,e,ey,eb,l,eH⟩
 ·subst ey eH;obtain⟨z,hd,vs,rel,dd⟩:=Sg I.az e;have hz:vs.length<=sizeLine:=by rw[← rel.length];exact z
  have hl:(putK aq k v).length<=sizeLine:=by have:=BE aq k v;lia
  refine wpAny_setItem_pairs (hsz:=hz) (vm ry) dd λh' o7 hs=>h _ ?_;have he:∃q,h'.get? a=some q:=let ⟨q,_,_,hq,_⟩:=o7;⟨q,hq⟩
  exact Jv I (by rw[e];exact True.intro) hs he (Sj hl hd (rel.put k rv) o7)
 ·subst ey eH;cases (show u=Value.ref b from ry);obtain⟨z,hd,xs,rel,dd⟩:=BI I.az e;have hz:xs.length<=sizeLine:=by rw[← Paired.length rel];exact z
  have hl:(putK aq k v).length<=sizeLine:=by have:=BE aq k v;lia
  refine wpAny_setItem_heap (hsz:=hz) (tupleKind_room_in1 hu) (vn I.az eb) dd λh' o7 hs=>h _ ?_;obtain⟨q,es,ep,hq,h2,h3,h4,_,h5⟩:=o7;refine Jv I (by rw[e];exact True.intro) hs ⟨q,hq⟩ ⟨hl,hd,_,(rel.put k eb rv).keeps λc ys ec=>?_,q,es,ep,hq,h2,h3,h4,h5⟩
  rw[au (fZ ec e (λz=>nomatch z))];exact ec
end
section
variable{X:Cx}{pins:List (Addr×Obj)}{σ:St}{H:Hp}{s:Shared}{a:Addr}{aq:List (Key×V)}{k:Key}{u:Value}{A:Around}{E:Value->Shared->Prop}
end
noncomputable def Jw(td ty:TE):TE:=λσ H Q=>td σ H λx H1=>ty σ H1 λy H2=>∃a v,x = .ref a/\iY H2 a y (some v)/\Q v H2
noncomputable def BJ(ty td:TE):TE:=λσ H Q=>ty σ H λy H1=>td σ H1 λx H2=>∃a o,x = .ref a/\iY H2 a y o/\Q (.bl o.isSome) H2
noncomputable def BK(ty td:TE):TE:=λσ H Q=>ty σ H λy H1=>td σ H1 λx H2=>∃a o,x = .ref a/\iY H2 a y o/\Q (.bl (!o.isSome)) H2
noncomputable def BN(td ty tv:TE):TS:=λD σ H=>tv σ H λv H1=>td σ H1 λx H2=>ty σ H2 λy H3=>∃a H4,x = .ref a/\k6 H3 a y v H4/\D.nx σ H4
section
variable{X:Cx}{o i e value:Expr}{pos pos' RP:Pos}{td ty tv:TE}
theorem Jx(hu:X.A.units+1<cLine)(hi:PE X i ty)(ho:PE X o td):PC X .In i o (BJ ty td):=by
 intro pins s σ H Q I h;refine aN (hi pins s σ H _ I h) λiv s1 ⟨y,H1,I1,ry,q1⟩=>aN (ho pins s1 σ H1 _ I1 q1) λu s2 ⟨x,H2,I2,rx,a,ov,ex,g,q2⟩=>?_;subst ex;obtain rfl:u=Value.ref a:=rx;exact Sh hu I2 g ry λs3 I3=>⟨.bl ov.isSome,H2,I3,rfl,q2⟩
theorem Sl(hu:X.A.units+1<cLine)(hi:PE X i ty)(ho:PE X o td):PC X .NotIn i o (BK ty td):=by
 intro pins s σ H Q I h;refine aN (hi pins s σ H _ I h) λiv s1 ⟨y,H1,I1,ry,q1⟩=>aN (ho pins s1 σ H1 _ I1 q1) λu s2 ⟨x,H2,I2,rx,a,ov,ex,g,q2⟩=>?_;subst ex;obtain rfl:u=Value.ref a:=rx;exact Si hu I2 g ry λs3 I3=>⟨.bl (!ov.isSome),H2,I3,rfl,q2⟩
theorem vo(hu:X.A.units+1<cLine)(ho:PE X o td)(hi:PE X i ty)(hv:PE X value tv)(hs:swapsWith value (some (.Subscript o i pos')) pos.line X.env=pure false) :
  PS X (.Assign [.Subscript o i pos'] value pos) (BN td ty tv):=by
 intro pins s σ H D I h;refine wpAny_Assign_Subscript (aN (hv pins s σ H _ I h) λr s1 ⟨v,H1,I1,rv,q1⟩=>aN (ho pins s1 σ H1 _ I1 q1) λu s2 ⟨x,H2,I2,rx,q2⟩=>aN (hi pins s2 σ H2 _ I2 q2) λiv s3 ⟨y,H3,I3,ry,a,H4,ex,g,q3⟩=>?_) hs;subst ex;obtain rfl:u=Value.ref a:=rx;exact Sk hu I3 g ry rv λs4 I4=>⟨σ,H4,I4,q3⟩
end
theorem Sm{P:Program}{w:World}{H:Hp}(h:Heap)(hb:sysModules<h.objs.size):bW P w H (h.push { cls:=.type "dict",data:=.dict #[] }) h.objs.size (.dT []) :=
 ⟨Nat.zero_le _,beq_eq_false_iff_ne.mpr (Ne.symm (Nat.ne_of_lt hb)),[],.nil,_,#[],0,Heap.get?_push_size _ rfl,⟨rfl,rfl,rfl⟩,rfl,rfl,List.nodup_nil⟩
noncomputable def Jy:TE:=λ_ H Q=>∀p,H p=none->Q (.ref p) (upd H p (.dK []))
noncomputable def BO:TE:=λ_ H Q=>∀p,H p=none->Q (.ref p) (upd H p (.dT []))
section
variable{X:Cx}{pos:Pos}
theorem BP:PE X (.Dict [] [] pos) BO:=λpins s σ H Q I h =>
 wpAny_Dict_empty ⟨.ref s.heap.objs.size,_,I.laid (a:=s.heap.objs.size) (o:=.dT []) (t':=s.toks) (λ_ _ q=>Heap.get?_push_of_some _ q) (Nat.le_refl _) (Sm s.heap I.big),rfl,h _ (I.az.fresh (Nat.le_refl _))⟩
end
structure M1(X:Cx)(o:Expr)(m:Str)(apos:Pos)(e:Expr)(bG:Pos):Prop where
 base:attributeBase o m X.env (eval o X.env)=eval o X.env
 BQ:((backTo bG (starEach [e] X.env)).all (λx => !x.1) && (backToKw bG (keywordEach [] X.env)).all (λx=>x.1.isSome)
  && decide (([e]:List Expr).length+([]:List Keyword).length+(if ([]:List Keyword).isEmpty then 0 else 1)<30))=true
 line:(apos.endLine == bG.line)=true
 trees:backTo bG (starEach [e] X.env) = [(false,eval e X.env)]
structure M2(X:Cx)(o:Expr)(m:Str)(apos:Pos)(e f:Expr)(bG:Pos):Prop where
 base:attributeBase o m X.env (eval o X.env)=eval o X.env
 BQ:((backTo bG (starEach [e,f] X.env)).all (λx => !x.1) && (backToKw bG (keywordEach [] X.env)).all (λx=>x.1.isSome)
  && decide (([e,f]:List Expr).length+([]:List Keyword).length+(if ([]:List Keyword).isEmpty then 0 else 1)<30))=true
 line:(apos.endLine == bG.line)=true
 trees:backTo bG (starEach [e,f] X.env) = [(false,eval e X.env),(false,eval f X.env)]
noncomputable def So(H:Hp)(a:Addr):Prop:=(∃aq,Rd H a (.dK aq))\/∃aq,Rd H a (.dT aq)
section
variable{X:Cx}{pins:List (Addr×Obj)}{σ:St}{H:Hp}{s:Shared}{a:Addr}{y d:V}{u r:Value}{o:Option V}{A:Around}{E:Value->Shared->Prop}
end
noncomputable def Jz(td ty:TE):TE:=λσ H Q=>td σ H λx H1=>∃a,x = .ref a/\So H1 a/\ty σ H1 λy H2=>∃o,iY H2 a y o/\Q (o.getD .aG) H2
section
variable{X:Cx}{o e f:Expr}{apos bG:Pos}{td ty tx:TE}
end
section
variable{X:Cx}{pins:List (Addr×Obj)}{σ:St}{H:Hp}{s:Shared}{a:Addr}{aq:List (Key×V)}{A:Around}{E:Value->Shared->Prop}
end
section
variable{X:Cx}{pins:List (Addr×Obj)}{σ:St}{H:Hp}{s:Shared}{a:Addr}{y:V}{u:Value}{A:Around}{E:Value->Shared->Prop}
end
end _L
namespace BR
open PySem PySem.W PySem.Calls PyProof.Rows
theorem Ss{P:Params}{h:Heap}:∀(ns:List Int) (vs:List Value),WellAll P h vs (ns.map WData.int)->IntsAre vs ns:=by
 intro ns
 induction ns with
 | nil =>
  intro vs w;rw[List.map_nil] at w;cases w;exact .nil
 | cons n ns ih =>
  intro vs w;rw[List.map_cons] at w;cases w with
  | cons a b =>
   cases a;exact .cons _ _ (ih _ b)
theorem Su{l:OpenLaw}{n:Nat}(hn:l.most=some n){P:Params}{h:Heap}{args:List WData}{vals:List Value}
  (vp:l.row.toRowW.claim.pre args=true) (BS:WellAll P h vals args) :
  ∃a vs ns,vals = [Value.ref a]/\args = [WData.list (ns.map WData.int)]/\h.get? a=some { cls:=.type "list",data:=.seq vs.toArray }/\IntsAre vs ns/\ns.length<=n:=by
 have Sv:WShape.hasAll [] args [.list .int] = true:=(pre_splitW vp).1;have hc:l.pre.holds [] { args:=args }=true:=(pre_splitW vp).2;obtain⟨d,r,rfl,h1,h2⟩:=hasAllW_cons Sv;obtain rfl:=hasAllW_nil h2;obtain⟨xs,rfl,h3⟩:=hasW_list h1;obtain⟨ns,rfl⟩:=items_int h3;have hlen:ns.length<=n:=by
  unfold OpenLaw.pre at hc;have h4:(WTm.not (.lt (.lit (.int (n:Int))) (.len (.arg 0)))).holds [] { args:=[.list (ns.map .int)] }=true:=by
   have h4:=(holds_andW hc).1;rw[hn] at h4;exact h4
  have h5:=condW_of h4 (w_not (w_lt w_lit (w_len_list (w_arg rfl))));rw[List.length_map] at h5;refine Nat.le_of_not_lt λq=>?_
  have q':(n:Int)<((ns.length:Nat):Int):=by lia
  first
   | (rw[decide_eq_true q'] at h5;exact absurd h5 (by decide))
   | (simp at h5;lia)
 cases BS with
 | cons w1 w2 =>
  cases w2;cases w1 with
  | list ho vq=>exact⟨_,_,ns,rfl,rfl,ho,Ss ns _ vq,hlen⟩
theorem Sw(l:OpenLaw)(args:List WData):l.row.toRowW.claim.post args (.bool true) args=true :=
 postW_of (r:=l.row.toRowW) (X:=(true == true))
  (show WShape.has [] (.bool true) .bool=true by first | rfl | decide | simp[WShape.has,WShape.arms,WShape.armsAll])
  (show (WTm.eq .res (.lit (.bool true))).value [] { args:=args,res:=some (.bool true),after:=args }=some (.bool (true == true)) from w_eq_bool (w_res rfl) w_lit) rfl
theorem JA{l:OpenLaw}{n:Nat}{q:Program}{loose:List Str}{XP:(Str->Option Value)->Heap->Prop}{YP:World->Heap->Prop}{d:DefRec}
  (hn:l.most=some n) (mO:d.params.defaults = [])
  (call:∀(w:World) (aK aE:Shared) (mg mb:Str->Option Value) (fa:Addr) (o:Obj) (pm cd doc:Value) (a:Addr) (vs:List Value) (ns:List Int),
   Ground q loose [] XP w aK mg mb aE.heap->YP w aE.heap->
   aE.heap.get? fa=some o->o.data = .func (docDef d.name d.params d.body d.scope pm cd doc)->aE.heap.CodeRec cd d.name->mg d.name=some (.ref fa)->
   aE.heap.get? a=some { cls:=.type "list",data:=.seq vs.toArray }->IntsAre vs ns->ns.length<=n->aE.gens = #[]->
   codeAny (model l.prog w) callerA (.call (.ref fa) ⟨[.ref a],[]⟩) (λr s'=>r = .ok (.ret (.bool true))/\OldK aE.heap s'.heap/\s'.os=aE.os/\AllBare s'.gens) aE) :
  WalkO q loose XP YP l.row.toRowW d [] (λf vs=>PySem.call f vs):=by
 intro w aK aE mg mb G Y fa o pm cd doc dV kV ho hd cu hD hmg hg args vals as vp acE hrd BS hlo;obtain rfl:dV = .none:=Dflts.none hD mO;obtain rfl:kV = .none:=Dflts.noKw hD;obtain⟨a,vs,ns,rfl,rfl,qR,hints,hlen⟩:=Su hn vp BS;refine enter_call (codeAny_mono (call w aK aE mg mb fa o pm cd doc a vs ns G Y ho (fd_plain hd) cu hmg qR hints hlen hg) λr s' hq=>?_);obtain⟨rfl,h2,h3,h4⟩:=hq;exact⟨.inl ⟨.bool true,.bool true,[],rfl,λ_=>rfl,.bool true,Sw l _,λ_=>⟨List.Pairwise.nil,λ_ hm=>(nomatch hm)⟩⟩,h2,h3,h4⟩
section
variable{prog:Program}{w:World}{A:Around}{E:Value->Shared->Prop}{s:Shared}{K:Frag}
noncomputable def ledger(h:Heap)(L d:Addr):List (Addr×Obj):=(List.range h.objs.size).filterMap λa=>if a=L\/a=d then none else(h.get? a).map λo=>(a,o)
end
end BR
namespace _L
open PySem PySem.Spec PyProof.Rows
theorem vt:∀ {vs:List Value} {ns:List Int},IntsAre vs ns->Vals (ns.map V.int) vs
 | _,_,.nil=>.nil
 | _,_,.cons n t h=>.cons ⟨t,rfl⟩ (vt h)
noncomputable def BU(H:Hp):Prop:=∀b,H b=none\/∃o xs,H b=some (.eG o (.lst xs))
theorem Sx{P:Program}{w:World}{K:PySem.W.Frag}{mg mb:Str->Option Value}{CX:fE}{k:Nat}{fa a:Addr}{fd:FuncData}{x:Str}{sp:Sp}{aE:Shared}{vs:List Value}{ns:List Int}
  (KX:K.In aE.heap) (iZ:aE.heap.Ns mainGlobals mg) (hb:aE.heap.Ns builtinsNs mb) (BV:∀x:Str,x≠"__name__"->mb x=bootBuiltins x) (BW:aE.heap.NoLimit) (hg:aE.gens = #[])
  (ha:aE.heap.get? a=some { cls:=.type "list",data:=.seq vs.toArray }) (hi:IntsAre vs ns) (hl:ns.length<=sizeLine) (hr:bR k callerA)
  (F:∀base:Heap,K.In base->base.Ns mainGlobals mg->aU P w K mg base CX k fa fd [x] sp) (iB:∀(s:Shared) (u:Value),BindsTo s fd ⟨[u],[]⟩ [(x,u)])
  (dW:∀H:Hp,BU H->aH K H a (ns.map V.int)->sp [.ref a] H (λv _=>v = .bl true) λ_ _ _=>False)
  (BX:∀H e s',CX [] H aE (λ_ _ _=>False) e s'->False) :
  codeAny (model P w) callerA (.call (.ref fa) ⟨[.ref a],[]⟩) (λr s'=>r = .ok (.ret (.bool true))/\OldK aE.heap s'.heap/\s'.os=aE.os/\AllBare s'.gens) aE:=by
 have rv:=vt hi;have BY:=hi.length
 -- from an abstract heap in which nothing but the script may be tracked
 have core:∀H:Hp,BU H->aH K H a (ns.map V.int)->bQ P w H aE.heap->(∀b,H b≠none->b=a)->(H a≠none->K.lookup a=none)->
   codeAny (model P w) callerA (.call (.ref fa) ⟨[.ref a],[]⟩) (λr s'=>r = .ok (.ret (.bool true))/\OldK aE.heap s'.heap/\s'.os=aE.os/\AllBare s'.gens) aE:=by
  intro H hO hS az hA hK;have mQ:∀ {b:Addr} {o:Obj},aE.heap.get? b=some o->H b=none->(f9 aE.heap H).get? b=some o:=λe n=>HW e n;have qL:∀ {b:Addr} {o:Obj} {es:Array DictEntry} {ep:Nat},aE.heap.get? b=some o->o.data = .dict es ep->H b=none:=λ{b o es ep} e d=>by
   cases q:H b with
   | none=>rfl
   | some u =>
    have e':b=a:=hA b (by rw[q];simp)
    subst e';rw[ha] at e;cases e;have d':Data.seq vs.toArray _=Data.dict es ep:=d;cases d'
  have jX:∀ {b:Addr} {m:Str->Option Value},aE.heap.Ns b m->(f9 aE.heap H).Ns b m:=λ{b m} ⟨o,es,ep,e,d,r⟩=>⟨o,es,ep,mQ e (qL e d),d,r⟩;have qT:K.In (f9 aE.heap H):=λb o e=>mQ (KX b o e) (by
   cases q:H b with
   | none=>rfl
   | some u =>
    have e':b=a:=hA b (by rw[q];simp)
    subst e';rw[hK (by rw[q];simp)] at e;cases e)
  have hM:Mod K mg (f9 aE.heap H):=⟨qT,jX iZ,⟨mb,jX hb,BV⟩,let ⟨mc,h1,h2⟩:=BW;⟨mc,jX h1,h2⟩⟩
  have e0:jT P w K mg (f9 aE.heap H) callerA [] aE H:=⟨rfl,hM,λb o e=>HX e,Nat.le_of_eq (HV _ _),trivial,λb hb=>absurd (show b∈([]:List Addr) from hb) (by simp),az,.of_eq hg⟩
  refine codeAny_mono ((F _ qT (jX iZ)).run callerA [] aE H ⟨[.ref a],[]⟩ [.ref a] [.ref a] _ _ hr e0 (iB aE (.ref a)) (.cons rfl .nil) (dW H hO hS)) λr s' h=>?_;cases r with
  | error e=>exact(BX H e s' h).elim
  | ok fl =>
   cases fl with
   | next=>exact False.elim h
   | brk=>exact False.elim h
   | cont=>exact False.elim h
   | ret u =>
    obtain⟨v,H',os,bare,un,o8,r',q⟩:=h;have q':v = .bl true:=q;subst q';obtain rfl:u=Value.bool true:=r';refine⟨rfl,OldK.of_keep λb o e=>?_,os,bare⟩;cases q:H b with
    | none=>exact un.keep b o e q (by intro z;exact absurd (show b∈([]:List Addr) from z) (by simp)) (by simp)
    | some u =>
     rcases hO b with z | ⟨ob,xs,z⟩
     ·rw[q] at z;cases z
     ·have z2:=un.d9 b ob _ z;obtain⟨e1,_⟩:=az b _ z;obtain⟨e2,_⟩:=o8 b _ z2;rw[e] at e1;cases e1;exact e2
 cases hk:K.lookup a with
 | some o =>
  -- the script is one of the module's own objects
  have e:=KX a o hk;rw[ha] at e;cases e;refine core (λ_=>none) (λ_=>.inl rfl) (.inr ⟨_,vs.toArray,_,hk,rfl,rfl,rfl,by rw[List.size_toArray,BY];exact hl,by simpa using rv⟩) (λb u z=>by have z':(none:Option HO)=some u:=z;cases z') (λb z=>absurd rfl z) λz=>absurd rfl z
 | none =>
  refine core (λb=>if b=a then some (.eG { cls:=.type "list",data:=.seq vs.toArray } (.lst (ns.map V.int))) else none) (λb=>?_) (.inl (.inr ⟨{ cls:=.type "list",data:=.seq vs.toArray },if_pos rfl⟩)) (λb u z=>?_) (λb z=>?_) λ_=>hk
  ·by_cases hb:b=a
   ·exact .inr ⟨_,_,if_pos hb⟩
   ·exact .inl (if_neg hb)
  ·by_cases hb:b=a
   ·have z':=(if_pos hb).symm.trans z;cases z';subst hb;exact⟨ha,by rw[List.length_map];exact hl,vs,_,rv,ha⟩
   ·have z':=(if_neg hb).symm.trans z;cases z'
  ·by_cases hb:b=a
   ·exact hb
   ·exact absurd (if_neg hb) z
noncomputable abbrev KOf{K:PySem.W.Frag}{h:Heap}(_:K.In h):PySem.W.Frag:=K
theorem acF{l:PySem.W.OpenLaw}{n k:Nat}{q:Program}{loose:List Str}{XP:(Str->Option Value)->Heap->Prop}{YP:World->Heap->Prop}{d:DefRec}{K:Params->PySem.W.Frag}{CX:World->fE}{sp:World->Sp}{x:Str}
  (hn:l.most=some n) (oR:n<=sizeLine) (mO:d.params.defaults = []) (hr:bR k callerA)
  (hY:∀(w:World) (h:Heap),YP w h->(K w.params).In h)
  (F:∀(w:World) (mg:Str->Option Value) (fa:Addr) (h:Heap),(K w.params).In h->h.Ns mainGlobals mg->mg d.name=some (.ref fa)->
   ∃fd:FuncData,(∀(s:Shared) (u:Value),BindsTo s fd ⟨[u],[]⟩ [(x,u)])/\
    ∀base:Heap,(K w.params).In base->base.Ns mainGlobals mg->aU l.prog w (K w.params) mg base (CX w) k fa fd [x] (sp w))
  (dW:∀(w:World) (H:Hp) (a:Addr) (ns:List Int),ns.length<=n->BU H->aH (K w.params) H a (ns.map V.int)->sp w [.ref a] H (λv _=>v = .bl true) λ_ _ _=>False)
  (BX:∀(w:World) (H:Hp) (s:Shared) (e:Value) (s':Shared),CX w [] H s (λ_ _ _=>False) e s'->False) :
  PySem.W.WalkO q loose XP YP l.row.toRowW d [] (λf vs=>PySem.call f vs):=by
 refine BR.JA hn mO λw aK aE mg mb fa o pm cd doc a vs ns G Y ho hd cu hmg qR hints hlen hg=>?_;have KX:=hY w _ Y;obtain⟨fd,hb,hF⟩:=F w mg fa _ KX G.T.g hmg;exact Sx KX G.T.g G.T.b G.T.builtins G.T.nolimit hg qR hints (Nat.le_trans hlen oR) hr hF hb (λH hO hS=>dW w H a ns hlen hO hS) λH e s'=>BX w H aE e s'
noncomputable def inClass(s:Stmt)(j:Nat):Stmt:=match s with
 | .ClassDef _ _ _ body _ _ _ _ _ _ _=>body.getD j (.Pass ⟨0,0,0,0⟩)
 | _=>.Pass ⟨0,0,0,0⟩
noncomputable def dH(s:Stmt):Arguments:=match s with
 | .FunctionDef _ a _ _ _ _ _ _ _ _=>a
 | _=>{ posonlyargs:=[],args:=[],vararg:=none,kwonlyargs:=[],kw_defaults:=[],kwarg:=none,defaults:=[] }
noncomputable def cR(s:Stmt):List Stmt:=match s with
 | .FunctionDef _ _ b _ _ _ _ _ _ _=>b
 | _=>[]
noncomputable def aQ(s:Stmt):Scope:=match s with
 | .FunctionDef _ _ _ _ _ _ sc _ _ _=>sc
 | _=>{ kind:=.function,names:=[],isGenerator:=false,isCoroutine:=false }
noncomputable abbrev br:fE:=λ_ _ _ _ _ _=>False
noncomputable abbrev E0:XK:=λ_ _ _=>False
theorem aJ{X:Cx}:Passes br X E0:=λ_ _ _ _ _ _ _ h=>h.elim
structure aP(K:PySem.W.Frag)(x qual:Str)(st:Stmt)(f:Addr)(fd:FuncData):Prop where
 ex:∃(oc:Value) (od:Option Addr) (kV doc pm:Value) (an:Option Addr) (aO ct:Value) (e7:Array (Option Value)),
  fd=PySem.W.fnOf x qual (dH st) (cR st) (aQ st) .none kV doc pm an aO ct/\K.lookup f=some ⟨oc,od,.func fd,e7⟩/\PySem.W.codeIn K aO qual=true
 kp:PySem.W.keepIn K (.ref f)=true
section
variable{P:Program}{w:World}{K:PySem.W.Frag}{mg:Str->Option Value}{base:Heap}
theorem aP.ok{x qual:Str}{st:Stmt}{f:Addr}{fd:FuncData}{N ps:List Str}{k:Nat}{sp:Sp}(F:aP K x qual st f fd)(S:bB N ps (aQ st))(len:∀vs H Q E,sp vs H Q E->vs.length=ps.length)
  (iV:∀(aO:Value) (A:Around) (outer:List Env) (s:Shared) (H:Hp) (vs:List V) (Q:VK) (E:XK),bR k (A.deeper (envOfC qual (aQ st) s.heap.objs.size f aO))->sp vs H Q E->
   ∃t,eO (fQ br P w K mg base N qual (aQ st) f aO A outer s H E).iu (cR st) t/\t { nx:=λ_ H'=>Q .aG H',rt:=Q } (start N vs) H):aU P w K mg base br (k+1) f fd ps sp:=by
 obtain⟨oc,od,kV,doc,pm,an,aO,ct,e7,rfl,lk,cu⟩:=F.ex;refine vd lk cu S len λA outer s H vs Q E hr dW=>?_;obtain⟨t,h,q⟩:=iV aO A outer s H vs Q E hr dW;exact⟨t,h.iu,q⟩
theorem aP.binds{x qual:Str}{st:Stmt}{f:Addr}{fd:FuncData}{ps:List Str}(F:aP K x qual st f fd)
  (h:∀(kV doc pm:Value) (an:Option Addr) (aO ct:Value) (us:List Value),us.length=ps.length->bindArgs (PySem.W.fnOf x qual (dH st) (cR st) (aQ st) .none kV doc pm an aO ct) ⟨us,[]⟩=pure (ps.zip us)):Binds K fd ps []:=by
 obtain⟨oc,od,kV,doc,pm,an,aO,ct,e7,rfl,lk,cu⟩:=F.ex;exact .all (h kV doc pm an aO ct)
theorem fun_mk{x qual:Str}{st:Stmt}{f:Addr}{oc:Value}{od an:Option Addr}{e7:Array (Option Value)}{kV doc pm aO ct:Value}(l:K.lookup f=some ⟨oc,od,.func (PySem.W.fnOf x qual (dH st) (cR st) (aQ st) .none kV doc pm an aO ct),e7⟩)
  (c:PySem.W.codeIn K aO qual=true) (k:PySem.W.keepIn K (.ref f)=true):aP K x qual st f (PySem.W.fnOf x qual (dH st) (cR st) (aQ st) .none kV doc pm an aO ct):=⟨⟨oc,od,kV,doc,pm,an,aO,ct,e7,rfl,l,c⟩,k⟩
end
theorem mR{A:Around}{k:Nat}(hr:bR k A):A.units+1<cLine:=Nat.lt_of_le_of_lt (Nat.add_le_add_left (by decide:1<=64) _) hr.units
theorem qU{n:Nat}(h:n<=1000):n<sizeLine:=Nat.lt_of_le_of_lt h (by decide)
section
variable{X:Cx}
theorem pv(i:Nat){x:Str}{pos:Pos}(hN:X.N[i]? = some x:=by rfl)(hv:AD X.env.scope x:=by first | exact Or.inl rfl | exact Or.inr (Or.inl rfl) | exact Or.inr (Or.inr rfl))(hd:(x == ("__debug__" : Str))=false:=by decide)
  (cu:(x == ("__classdict__" : Str))=false:=by decide):PE X (.Name x pos) (uU i):=Rp hN hv hd cu
end
theorem dz{c A B:Prop}[Decidable c](h1:c->A)(h2:¬ c->B):if c then A else B:=by
 by_cases h:c
 ·rw[if_pos h];exact h1 h
 ·rw[if_neg h];exact h2 h
noncomputable def ah(H H':Hp):Prop:=∀b o,H b=some o->H' b=some o
theorem ah.refl(H:Hp):ah H H:=λ_ _ h=>h
theorem ah.trans{H H1 H2:Hp}(a:ah H H1)(b:ah H1 H2):ah H H2:=λc o h=>b c o (a c o h)
theorem ah.free{H H':Hp}(e:ah H H'){l:Addr}(h:H' l=Option.none):H l=Option.none:=by
 cases q:H l with
 | none=>rfl
 | some o =>
  rw[e l o q] at h;cases h
theorem ah.seq{K:PySem.W.Frag}{H H':Hp}{a:Addr}{xs:List V}(e:ah H H')(h:aH K H a xs):aH K H' a xs:=by
 rcases h with(h | ⟨o,h⟩) | h
 ·exact .inl (.inl (e _ _ h))
 ·exact .inl (.inr ⟨o,e _ _ h⟩)
 ·exact .inr h
section
variable{κ:Type}[DecidableEq κ]
end
end _L
set_option maxHeartbeats 4000000
namespace _L
open PySem PySem.Spec PyProof.Rows
section
variable{prog:Program}{w:World}{A:Around}{R:Result->Shared->Prop}{s:Shared}
theorem Sy{elt target iter:Expr}{ifs:List Expr}{scope:Scope}{pos:Pos}{it acc:Value}{env:Env}(I:Nat->Shared->Prop)
  (turn:∀n s,I n s->wpAny (model prog w) A (pyNext it) (λr aE=>match r with
   | none=>R (.ok .next) aE
   | some v=>wpAny (model prog w) A (letOwnedTupleGo target it v) (λ_ qV=>wpAny (model prog w) A (assign target env v) (λ_ cB =>
     wpAny (model prog w) A (forIn ifs true λc r=>if r=true then do let ok ← isTrue c env (eval c env);pure (ForInStep.yield ok) else pure (ForInStep.yield r)) (λok cH =>
      if ok=true then wpAny (model prog w) A (eval elt env) (λx i6 =>
       wpAny (model prog w) A (call (.builtin "list.append") [acc,x]) (λ_ qW=>∃m,m<n/\I m qW) (λ_ _=>False) i6) (λ_ _=>False) cH
      else ∃m,m<n/\I m cH) (λ_ _=>False) cB) (λ_ _=>False) qV) (λ_ _=>False) aE) (λ_ _=>False) s)
  (n:Nat) (h:I n s):codeAny (model prog w) A (.compLoop (.ListComp elt [⟨target,iter,ifs,0⟩] scope pos) 0 it acc env) R s:=by
 refine codeAny_loop rfl I (λn s hI=>?_) n h
 show wpAny _ A ((compTurn (.ListComp elt [⟨target,iter,ifs,0⟩] scope pos) 0 it acc env).onRaise (λx=>do noteFrame x env;theTreesLotGoes x)) _ _ s
 refine wpAny_noted ?_;rw[compTurn_list];refine wpAny_bind (wpAny_standAt (wpAny_bind (wpAny_mono (turn n s hI) (λr aE cT=>?_) λ_ _ h'=>h'.elim)));cases r with
 | none=>exact wpAny_pure cT
 | some v =>
  refine wpAny_bind (wpAny_mono cT (λ_ qV BZ=>?_) λ_ _ h'=>h'.elim);refine wpAny_bind (wpAny_mono BZ (λ_ cB gj=>wpAny_bind (wpAny_mono gj (λok cH jY=>?_) λ_ _ h'=>h'.elim)) λ_ _ h'=>h'.elim);cases ok with
  | false=>exact wpAny_pure ⟨rfl,jY⟩
  | true =>
   exact wpAny_bind (wpAny_bind (wpAny_mono jY (λx i6 B0=>wpAny_bind (wpAny_mono B0 (λ_ qW B3=>wpAny_pure (wpAny_pure ⟨rfl,B3⟩)) λ_ _ h'=>h'.elim)) λ_ _ h'=>h'.elim))
end
noncomputable def cL(X:Cx)(scope:Scope)(cl:List (Str×Addr))(N:List Str)(C:Addr)(s:Shared)(H:Hp)(fp:List Addr):Cx where
 prog:=X.prog
 w:=X.w
 K:=X.K
 mg:=X.mg
 base:=X.base
 A:=X.A
 N:=N
 aK:=s
 cF:=H
 env:=compEnvC scope cl C X.env
 outer:=X.stack
 stack:=X.stack
 ex:=fp
 fn:=λ_=>false
 calm:=X.calm
 pn:=[]
 xe:=λ_ _=>False
structure dX(X:Cx)(scope:Scope)(cl:List (Str×Addr))(N:List Str)(nt:Nat)(fv:List Nat):Prop where
 i7:closureFor scope X.env=pure cl
 kind:scope.kind = .function
 iC:∀y∈scope.names,y.2≠.cell
 names:∀y∈scope.names,y.2 = .local->scope.names.lookup y.1=some .local
 sub:∀p∈cl,X.env.cells.lookup p.1=some p.2
 has:∀y∈scope.names,y.2 = .free->∃c,cl.lookup y.1=some c
 free:fv.map (λj=>X.N[j]?)=(N.drop nt).map some
 fk:∀y∈N.drop nt,scope.names.lookup y=some .free/\X.env.scope.names.lookup y=some .cell
 le:nt<=N.length
 nd:N.Nodup
theorem vv{env:Env}:∀ {names:List (Str×NameKind)} {x:Str} {k:NameKind},
  (names.map λ(n,k)=>if (k == NameKind.free && env.scope.kind == .function && env.kindOf n == some .cell) then(n,NameKind.cell) else(n,k)).lookup x=some k->
  ∃k0,names.lookup x=some k0/\(k=k0\/(k0 = .free/\k = .cell))
 | [],_,_,h=>by simp at h
 | (n,k0)::r,x,k,h=>by
  have ih:=@vv env r x k;have h:List.lookup x ((if (k0 == NameKind.free && env.scope.kind == .function && env.kindOf n == some .cell)=true then(n,NameKind.cell) else(n,k0))::_)=_:=h
  cases hx:x == n with
  | true =>
   by_cases hc:(k0 == NameKind.free && env.scope.kind == .function && env.kindOf n == some .cell)=true
   ·rw[if_pos hc] at h;simp only[List.lookup_cons,hx,Option.some.injEq] at h;simp only[Bool.and_eq_true,beq_iff_eq] at hc;exact⟨k0,by simp[List.lookup_cons,hx],.inr ⟨hc.1.1,h.symm⟩⟩
   ·rw[if_neg hc] at h;simp only[List.lookup_cons,hx,Option.some.injEq] at h;exact⟨k0,by simp[List.lookup_cons,hx],.inl h.symm⟩
  | false =>
   have h':List.lookup x (r.map λ(n,k)=>if (k == NameKind.free && env.scope.kind == .function && env.kindOf n == some .cell) then(n,NameKind.cell) else(n,k))=some k:=by
    by_cases hc:(k0 == NameKind.free && env.scope.kind == .function && env.kindOf n == some .cell)=true
    ·rw[if_pos hc] at h;simpa only[List.lookup_cons,hx] using h
    ·rw[if_neg hc] at h;simpa only[List.lookup_cons,hx] using h
   obtain⟨q,e,z⟩:=ih h';exact⟨q,by simp only[List.lookup_cons,hx];exact e,z⟩
theorem k8{α:Type}{x:Str}{v:α}:∀ {l:List (Str×α)},l.lookup x=some v->(x,v)∈l:=λh=>PySem.mem_of_lookup h
section
variable{X:Cx}{pins:List (Addr×Obj)}{σ:St}{H:Hp}{s:Shared}{scope:Scope}{cl:List (Str×Addr)}{N:List Str}{nt:Nat}{fv:List Nat}{fp:List Addr}
theorem dX.cell(S:dX X scope cl N nt fv){x:Str}{c:Addr}(e:cl.lookup x=some c):X.env.cells.lookup x=some c:=S.sub (x,c) (k8 e)
theorem dX.Sz(S:dX X scope cl N nt fv){C:Addr}{x:Str}(h:(compEnvC scope cl C X.env).kindOf x=some .cell\/(compEnvC scope cl C X.env).kindOf x=some .free):scope.names.lookup x=some .free:=by
 have h:(scope.names.map λ(n,k)=>if (k == NameKind.free && X.env.scope.kind == .function && X.env.kindOf n == some .cell) then(n,NameKind.cell) else(n,k)).lookup x=some .cell\/
  (scope.names.map λ(n,k)=>if (k == NameKind.free && X.env.scope.kind == .function && X.env.kindOf n == some .cell) then(n,NameKind.cell) else(n,k)).lookup x=some .free:=h
 rcases h with h | h
 ·obtain⟨k0,e,z | ⟨z,_⟩⟩:=vv h
  ·exact absurd z.symm (S.iC _ (k8 e))
  ·rw[z] at e;exact e
 ·obtain⟨k0,e,z | ⟨z,_⟩⟩:=vv h
  ·rw[← z] at e;exact e
  ·rw[z] at e;exact e
theorem dX.ok(S:dX X scope cl N nt fv)(I:Inv X pins σ H s)(hf:∀b∈fp,iz X pins H b)(bO:∀b∈fp,b<s.heap.objs.size){C:Addr}(hC:s.heap.objs.size<=C) :
  (cL X scope cl N C s H fp).Ok where
 mod:=I.ok.mod
 kind:=S.kind
 glob:=I.ok.glob
 blt:=I.ok.blt
 above:=hC
 inj:=λx y c h1 h2=>I.ok.inj x y c (S.cell h1) (S.cell h2)
 has:=λx h=>by
  have e:=S.Sz h;exact S.has _ (k8 e) rfl
 l_:=λx c h _=>by cases (show false=true from h)
 hd:=I.ok.hd
 frames:=I.ok.frames
 oH:=.inl rfl
 kK:=λb hb=>⟨λz=>absurd (Nat.lt_of_lt_of_le (bO b hb) (by rw[z];exact hC)) (Nat.lt_irrefl _),λx c h=>(hf b hb).2.2.2.2.1 x c (S.cell h)⟩
 bs:=I.bs
 eN:=Nat.le_trans I.ok.eN I.sz
 mh:=λb o e hb=>by
  rcases(hf b hb).2.2.2.1 with z | z
  ·exact I.ok.mh b o e z
  ·exact absurd (Nat.lt_of_lt_of_le (Heap.lt_size e) (Nat.le_trans I.ok.eN z)) (Nat.lt_irrefl _)
 kL:=λb hb hm=>by
  rcases List.mem_cons.mp (I.AE b hm) with z | z
  ·exact(hf b hb).2.1 z
  ·exact(hf b hb).2.2.1 z
 dP:=I.stack
 fL:=I.qm
noncomputable def gH(σ:St)(nt:Nat)(fv:List Nat):St:=List.replicate nt none++fv.map λj=>(σ[j]?).getD none
theorem dX.inv(S:dX X scope cl N nt fv)(I:Inv X pins σ H s)(hf:∀b∈fp,iz X pins H b)(bO:∀b∈fp,b<s.heap.objs.size){h1:Heap}{tk:Nat}{D C:Addr}
  (hD:s.heap.objs.size<=D) (hC:s.heap.objs.size<=C) (mS:D≠C) (old:∀b o,s.heap.get? b=some o->h1.get? b=some o) (gk:h1.get? D=some { cls:=.type "list",data:=.seq #[] }) (iZ:h1.Ns C λ_=>none) :
  Inv (cL X scope cl N C s H fp) [] (gH σ nt fv) (upd H D (.lst [])) { s with heap:=h1,toks:=tk }:=by
 have I1:Inv X pins σ (upd H D (.lst [])) { s with heap:=h1,toks:=tk }:=I.laid old hD ⟨Nat.zero_le _,[],0,.nil,gk⟩;have hlen:fv.length=(N.drop nt).length:=by simpa using congrArg List.length S.free
 refine⟨S.ok I hf bO hC,rfl,I.bare,Un.laid old hD (I.az.fresh hD),⟨_,iZ,λi x v e1 e2 e3=>?_⟩,λx c e=>?_,?_,λx c e=>?_,λp hp=>absurd (show p∈([]:List (Addr×Obj)) from hp) (by simp),I1.az,?_⟩
 ·unfold gH at e2;have hi:nt<=i:=by
   by_cases h:nt<=i
   ·exact h
   ·rw[List.getElem?_append_left (by simp;lia),List.getElem?_replicate] at e2
    split at e2 <;> cases e2
  rw[List.getElem?_append_right (by simpa using hi)] at e2
  simp only[List.length_replicate,List.getElem?_map] at e2;cases hj:fv[i - nt]? with
  | none=>rw[hj] at e2;simp at e2
  | some j =>
   rw[hj] at e2;simp only[Option.map_some,Option.some.injEq] at e2;have hN:X.N[j]? = some x:=by
    have q:=congrArg (λl=>l[i - nt]?) S.free;simp only[List.getElem?_map,hj,Option.map_some,List.getElem?_drop] at q;rw[show nt+(i - nt)=i by lia] at q
    have JC:N[i]? = some x:=e1;rw[JC] at q;exact(Option.some.inj q)
   have B4:σ[j]? = some (some v):=by
    cases z:σ[j]? with
    | none=>rw[z] at e2;simp at e2
    | some y=>rw[z] at e2;simp at e2;rw[e2]
   have SA:x∈N.drop nt:=by
    refine List.mem_of_getElem? (i:=i - nt) ?_;rw[List.getElem?_drop,show nt+(i - nt)=i by lia];exact e1
   obtain⟨f1,f2⟩:=S.fk x SA;obtain⟨m,hn,hl⟩:=I1.loc;obtain⟨u,ru,lk⟩:=hl j x v hN B4 (.inr (.inl f2));refine⟨u,ru,?_⟩;rcases lk with⟨k,_⟩ | ⟨_,c,ec,hc⟩
   ·have k:X.env.scope.names.lookup x=some .local:=k;rw[f2] at k;cases k
   ·obtain⟨c',e'⟩:=S.has _ (k8 f1) rfl;have:=S.cell e';rw[ec] at this;cases this;refine .inr ⟨?_,c,e',hc⟩;rcases e3 with z | z | z
    ·obtain⟨k0,ek,q | ⟨_,q⟩⟩:=vv (show (scope.names.map λ(n,k)=>if (k == NameKind.free && X.env.scope.kind == .function && X.env.kindOf n == some .cell) then(n,NameKind.cell) else(n,k)).lookup x=some .local from z)
     ·rw[f1] at ek;cases ek;cases q
     ·cases q
    ·exact .inl z
    ·exact .inr z
 ·obtain⟨v,z⟩:=I1.cell x c (S.cell e);exact⟨v,z⟩
 ·show upd H D (.lst []) C=none;rw[au (Ne.symm mS)];exact I.az.fresh hC
 ·exact I1.fu x c (S.cell e)
 ·unfold gH
  show _=N.length;have:=S.le;simp only[List.length_append,List.length_replicate,List.length_map,List.length_drop] at hlen ⊢;lia
end
noncomputable def k9(X:Cx)(ifs:List Expr)(t:TT):Prop :=
 ∀(pins:List (Addr×Obj)) (s:Shared) (σ:St) (H:Hp) (Q:Bool->Hp->Prop),Inv X pins σ H s->t σ H Q->
  wpAny (model X.prog X.w) X.A (forIn ifs true λc r=>if r=true then do let ok ← isTrue c X.env (eval c X.env);pure (ForInStep.yield ok) else pure (ForInStep.yield r)) (TP X pins σ Q) X.xe s
noncomputable def B5:TT:=λ_ H Q=>Q true H
theorem vA{X:Cx}:k9 X [] B5:=λpins s σ H Q I h=>wpAny_tests_nil ⟨H,I,h⟩
theorem JD{X:Cx}{c:Expr}{t:TT}(hc:PT X c t):k9 X [c] t:=λpins s σ H Q I h=>wpAny_tests_one (hc pins s σ H Q I h)
noncomputable def jZ(wi:TI)(g:TG)(tt:TT)(te:TE)(nt:Nat)(fv:List Nat):TE:=λσ H Q=>wi σ H λJ H1=>∀D,H1 D=none->∃W:Nat->Nat->List V->St->Hp->Prop,
 (∃m,W 0 m [] (gH σ nt fv) (upd H1 D (.lst [])))/\∀i m ys aD H2,W i m ys aD H2->H2 D=some (.lst ys)/\ys.length<sizeLine/\
  ((J.stop i H2/\Q (.ref D) H2)\/(J.go i H2/\∀x H3,J.jx i H2 x H3->g x aD H3 λbU H4=>tt bU H4 λb H5=>if b=true then te bU H5 λv H6=>H6 D=some (.lst ys)/\∃m',m' < m/\W (i+1) m' (ys++[v]) bU (upd H6 D (.lst (ys++[v])))
   else ∃m',m' < m/\W (i+1) m' ys bU H5))
section
variable{X:Cx}{tg iter elt:Expr}{ifs:List Expr}{scope:Scope}{cl:List (Str×Addr)}{N:List Str}{nt:Nat}{fv:List Nat}{pos:Pos}{wi:TI}{g:TG}{tt:TT}{te:TE}
theorem JE{pins:List (Addr×Obj)}{σ:St}{s2:Shared}{H2:Hp}{it:Addr}{fp:List Addr}{tn:Nat->Heap->Prop}{J:It}{Q:VK}{RR:Value->Addr->Result->Shared->Prop}{E:Value->Shared->Prop}
  (S:dX X scope cl N nt fv) (hc:X.calm=true)
  (hg:∀C s H fp,PG (cL X scope cl N C s H fp) tg g) (ht:∀C s H fp,k9 (cL X scope cl N C s H fp) ifs tt) (he:∀C s H fp,PE (cL X scope cl N C s H fp) elt te)
  (I2:Inv X pins σ H2 s2) (T:Turn X.prog X.w X.K tg J fp it tn) (gX:tn 0 s2.heap) (f2:∀b∈fp,iz X pins H2 b)
  (hq:∀D,H2 D=none->∃W:Nat->Nat->List V->St->Hp->Prop,
   (∃m,W 0 m [] (gH σ nt fv) (upd H2 D (.lst [])))/\∀i m ys aD H2,W i m ys aD H2->H2 D=some (.lst ys)/\ys.length<sizeLine/\
    ((J.stop i H2/\Q (.ref D) H2)\/(J.go i H2/\∀x H3,J.jx i H2 x H3->g x aD H3 λbU H4=>tt bU H4 λb H5=>if b=true then te bU H5 λv H6=>H6 D=some (.lst ys)/\∃m',m' < m/\W (i+1) m' (ys++[v]) bU (upd H6 D (.lst (ys++[v])))
     else ∃m',m' < m/\W (i+1) m' ys bU H5)))
  (B6:∀(D C:Addr) (s':Shared) (H':Hp) (m':Str->Option Value),Inv X pins σ H' s'->s'.heap.Ns C m'->s2.heap.objs.size<=C->H' C=none->Q (.ref D) H'->RR (.ref D) C (.ok .next) s') :
  wpAny (model X.prog X.w) X.A (newList []) (λacc cH=>wpAny (model X.prog X.w) X.A (newFunctionEnv scope X.env.globals cl [] X.env.qual none .none (some X.env)) (λo9 i6 =>
   codeAny (model X.prog X.w) X.A (.compStart (.ListComp elt [⟨tg,iter,ifs,0⟩] scope pos) 0 (.ref it) acc { o9 with scope:=relabel scope X.env }) (RR acc o9.locals) i6) E cH) E s2:=by
 refine wpAny_newObj_type (wpAny_newFunctionEnv S.iC (by intro y hy;simp at hy) (λcT mT j0=>?_) S.kind)
 dsimp only at mT j0 ⊢;generalize mU:s2.heap.push { cls:=.type "list",dict:=none,data:=.seq ([]:List Value).toArray }=HH at mT j0 ⊢;have hC:HH.objs.size=s2.heap.objs.size+1:=by rw[← mU,Heap.size_push]
 have mS:s2.heap.objs.size≠HH.objs.size:=by rw[hC];exact Nat.ne_of_lt (Nat.lt_succ_self _)
 have k_:s2.heap.objs.size<=HH.objs.size:=by rw[hC];exact Nat.le_succ _
 have old:∀b o,s2.heap.get? b=some o->cT.get? b=some o:=λb o e=>by
  have hb:b<s2.heap.objs.size:=Heap.lt_size e;exact j0.extBut b o (by rw[hC];exact Nat.ne_of_lt (Nat.lt_succ_of_lt hb)) (Heap.get?_push_of_some _ (mU▸Heap.get?_push_of_some _ e))
 have gk:cT.get? s2.heap.objs.size=some { cls:=.type "list",data:=.seq #[] }:=j0.extBut _ _ mS (Heap.get?_push_of_some _ (mU▸Heap.get?_push_size _ rfl));have bO:∀b∈fp,b<s2.heap.objs.size:=λb hb=>by
  obtain⟨o,e,_⟩:=T.obj 0 _ gX b hb;exact Heap.lt_size e
 have hD:H2 s2.heap.objs.size=none:=I2.az.fresh (Nat.le_refl _);obtain⟨W,⟨m0,w0⟩,turn⟩:=hq _ hD;have kX:tn 0 cT:=T.keep _ _ _ gX λb _ o e=>old b o e;have I3:=S.inv I2 f2 bO (h1:=cT) (tk:=s2.toks+([]:List (Str×Value)).length) (D:=s2.heap.objs.size) (C:=HH.objs.size) (Nat.le_refl _) k_ mS old gk (by simpa using mT)
 -- what stays true of the iterator's objects
 have nD:∀b∈fp,b≠s2.heap.objs.size:=λb hb=>Nat.ne_of_lt (bO b hb);have iS:∀ {H':Hp},(∀b∈fp,H' b=none)->∀b∈fp,iz (cL X scope cl N HH.objs.size s2 H2 fp) [] H' b:=λ{H'} hn b hb=>by
  have ok:=S.ok I2 f2 bO k_;refine⟨hn b hb,(ok.kK b hb).1,ok.kL b hb,.inl hb,(ok.kK b hb).2,λp hp=>absurd (show p∈([]:List (Addr×Obj)) from hp) (by simp)⟩
 have loop:∀cH:Shared,cH = { s2 with heap:=cT,toks:=s2.toks+([]:List (Str×Value)).length }->
   codeAny (model X.prog X.w) X.A (.compLoop (.ListComp elt [⟨tg,iter,ifs,0⟩] scope pos) 0 (.ref it) (.ref s2.heap.objs.size) (compEnvC scope cl HH.objs.size X.env)) (RR (.ref s2.heap.objs.size) HH.objs.size) cH:=by
  rintro cH rfl;refine Sy (λn s'=>∃i ys aR H',Inv (cL X scope cl N HH.objs.size s2 H2 fp) [] aR H' s'/\tn i s'.heap/\(∀b∈fp,H' b=none)/\W i n ys aR H') ?_ m0
   ⟨0,[],_,_,I3,kX,λb hb=>by rw[au (nD b hb)];exact(f2 b hb).1,w0⟩
  rintro n s3 ⟨i,ys,gh,H3,J3,t3,gY,w3⟩;obtain⟨eD,B7,B8⟩:=turn i n ys gh H3 w3;rcases B8 with⟨stop,qn⟩ | ⟨go,step⟩
  ·refine aN (T.done (cL X scope cl N HH.objs.size s2 H2 fp) rfl rfl rfl hc i [] s3 gh H3 (λ_ _=>False) J3 (iS gY) t3 stop) λr s4 ⟨hr,I4⟩=>?_;subst hr;have I5:Inv X pins σ H3 s4:=I2.kM (ch:=fp) I4.os I4.base I4.az I4.bare λb hb=>⟨(f2 b hb).2.2.2.1,(f2 b hb).2.1,(f2 b hb).2.2.2.2.1,(f2 b hb).2.2.2.2.2⟩;obtain⟨m,hn,_⟩:=I4.loc;exact B6 _ _ s4 H3 m I5 hn k_ I4.free qn
  ·refine aN (T.item (cL X scope cl N HH.objs.size s2 H2 fp) rfl rfl rfl hc i [] s3 gh H3 (λ_ _=>False) J3 (iS gY) t3 go) λr s4 ⟨u,hr,h4⟩=>?_;subst hr;refine aN h4 λ_ s5 ⟨x,H5,I5,r5,y5,iT,qB⟩=>?_;have qC:=I5.pinned (iS qB) (T.obj _ _ iT);refine aN (hg _ _ _ _ _ s5 gh H5 x u _ qC r5 (step x H5 y5)) λ_ s6 ⟨gi,H6,I6,q6⟩=>?_;have qX:∀ {fB:St} {H7:Hp} {s7:Shared},Inv (cL X scope cl N HH.objs.size s2 H2 fp) ([]++oM fp s5.heap) fB H7 s7->tn (i+1) s7.heap/\∀b∈fp,H7 b=none:=λ{fB H7 s7} I7=>by
    refine⟨T.keep _ _ _ iT λb hb o e=>(I7.pin (b,o) (List.mem_append_right _ (List.mem_append_right _ (oN hb e)))).1,λb hb=>?_⟩;obtain⟨o,e,d⟩:=T.obj _ _ iT b hb;exact(I7.pin (b,o) (List.mem_append_right _ (List.mem_append_right _ (oN hb e)))).2.1
   refine aN (ht _ _ _ _ _ s6 gi H6 _ I6 q6) λb s7 ⟨H7,I7,q7⟩=>?_;cases b with
   | false =>
    obtain⟨m',hm,w7⟩:=q7;obtain⟨t7,n7⟩:=qX I7;exact⟨m',hm,i+1,ys,gi,H7,I7.mC,t7,n7,w7⟩
   | true =>
    refine aN (he _ _ _ _ _ s7 gi H7 _ I7 q7) λu8 s8 ⟨v8,H8,I8,r8,B9,m',hm,w8⟩=>?_;refine aN (jW (X:=cL X scope cl N HH.objs.size s2 H2 fp) _ s8 gi H8 (.ref s2.heap.objs.size) [v8] (.ref s2.heap.objs.size) [u8] (λ_ H9=>∃m',m' < n/\W (i+1) m' (ys++[v8]) gi H9) I8 rfl (.cons r8 .nil)
     ⟨s2.heap.objs.size,ys,v8,rfl,rfl,B9,B7,m',hm,w8⟩) λ_ s9 ⟨_,H9,I9,_,m9,B_,w9⟩=>?_
    obtain⟨t9,n9⟩:=qX I9;exact⟨m9,B_,i+1,ys++[v8],gi,H9,I9.mC,t9,n9,w9⟩
 exact codeAny_compStart_list (loop _ rfl) (T.self _ 0 _ _ _ kX (loop _ rfl))
theorem vB(S:dX X scope cl N nt fv)(hc:X.calm=true)(hi:PI X tg iter wi)
  (hg:∀C s H fp,PG (cL X scope cl N C s H fp) tg g) (ht:∀C s H fp,k9 (cL X scope cl N C s H fp) ifs tt) (he:∀C s H fp,PE (cL X scope cl N C s H fp) elt te)
  (hs:∀x,foldedSetIterable iter X.env x=pure x:=by intro _;rfl):PE X (.ListComp elt [⟨tg,iter,ifs,0⟩] scope pos) (jZ wi g tt te nt fv):=by
 intro pins s σ H Q I h;rw[eval_ListComp];refine wpAny_comprehension_free (use:=none) rfl hs S.i7 S.kind S.names (aN (hi pins s σ H _ I h) λxv s1 h1=>aN h1 λqw s2 h2=>?_);obtain⟨it,fp,tn,J,H2,rfl,I2,T,gX,f2,hq⟩:=h2;refine JE (RR:=λacc C=>compPost (model X.prog X.w) X.A X.xe none (EP X pins σ Q) acc C) S hc hg ht he I2 T gX f2 hq λD C s' H' m' I' hn hC fC q=>?_;refine⟨m',hn,λh' eU=>⟨.ref D,H',?_,rfl,q⟩⟩;have eV:=I2.jQ hC fC;exact I'.turned (t':=s'.toks) (it:=C) (λb o hb e=>eU.extBut b o hb e) fC eV.2.1 eV.2.2.2.1 eV.2.2.2.2.1 eV.2.2.2.2.2
theorem SD{i:Nat}{y:Str}{py JF:Pos}(hN:X.N.Nodup)(gI:X.N[i]? = some y)(hy:Loc X.env.scope y)(S:dX X scope cl N nt fv)(hc:X.calm=true)(hi:PI X tg iter wi)
  (hg:∀C s H fp,PG (cL X scope cl N C s H fp) tg g) (ht:∀C s H fp,k9 (cL X scope cl N C s H fp) ifs tt) (he:∀C s H fp,PE (cL X scope cl N C s H fp) elt te)
  (qY:swapsWith (.ListComp elt [⟨tg,iter,ifs,0⟩] scope pos) (some (.Name y py)) JF.line X.env=pure true:=by rfl)
  (hs:∀x,foldedSetIterable iter X.env x=pure x:=by intro _;rfl) (hf:X.fn y=true\/X.env.scope.names.lookup y=some .local:=by first | exact .inl rfl | exact .inr rfl | assumption) :
  PS X (.Assign [.Name y py] (.ListComp elt [⟨tg,iter,ifs,0⟩] scope pos) JF) (qu (jZ wi g tt te nt fv) (kQ i)):=by
 intro pins s σ H D' I h;rw[exec_Assign_Name_used _ _ _ _ qY];refine wpAny_bind (wpAny_standAt (wpAny_bind ?_))
 show wpAny _ _ (do let _ ← comprehension (.ListComp elt [⟨tg,iter,ifs,0⟩] scope pos) scope X.env _ (newList []) false (eval iter X.env) (some (assign (.Name y py) X.env))) _ _ s
 refine wpAny_bind (wpAny_mono (wpAny_comprehension_free (use:=some (assign (.Name y py) X.env)) (Q:=λ_ s'=>SP X pins D' .next s') rfl hs S.i7 S.kind S.names
  (aN (hi pins s σ H _ I h) λxv s1 h1=>aN h1 λqw s2 h2=>?_)) (λ_ s' hq=>wpAny_pure (wpAny_pure hq)) λ_ _ e=>e)
 obtain⟨it,fp,tn,J,H2,rfl,I2,T,gX,f2,hq⟩:=h2;refine JE (RR:=λacc C=>compPost (model X.prog X.w) X.A X.xe (some (assign (.Name y py) X.env)) (λ_ s'=>SP X pins D' .next s') acc C) (Q:=λx H1=>kQ i x σ H1 D'.nx) S hc hg ht he I2 T gX f2 hq λD C s' H' m' I' hn hC fC q=>?_;have eV:=I2.jQ hC fC
 show wpAny _ _ (assign (.Name y py) X.env (.ref D)) _ _ _;refine wpAny_assign_Name (H_ I' hN gI hy (v:=.ref D) rfl (λoW SE ⟨a,SG,ha⟩=>?_) hf);have SH:C≠a:=by
  rcases ha with z | z
  ·rw[z];exact eV.2.1
  ·exact λe=>eV.2.2.2.2.1 y a z e.symm
 refine⟨m',hn.sameBut SG SH,λh' eU=>⟨_,H',?_,q⟩⟩;exact SE.turned (t':=oW.toks) (it:=C) (λb o hb e=>eU.extBut b o hb e) fC eV.2.1 eV.2.2.2.1 eV.2.2.2.2.1 eV.2.2.2.2.2
end
noncomputable def qZ(K:PySem.W.Frag)(a:Addr):It :=
 ⟨λi H=>∃xs x,aH K H a xs/\xs[i]? = some x,λi H v H'=>∃T x,H T=none/\v = .ref T/\(∀xs,aH K H a xs->xs[i]? = some x)/\H' = upd H T (.tup [.int i,x]),λi H=>∃xs,aH K H a xs/\xs.length<=i⟩
theorem SI{P:Program}{w:World}{K:PySem.W.Frag}{elts:List Expr}{x1}{tp:Pos}(a e it:Addr)(Ca:e≠it) :
  Turn P w K (.Tuple elts x1 tp) (qZ K a) [e,it] e (λi h=>(∃old,IsEnum h e it (i:Nat) old)/\h.IsListIter it a i) where
 mem:=by simp
 obj:=λi h st b hb=>by
  obtain⟨⟨old,he⟩,o,e1,c,d⟩:=st;rcases List.mem_cons.mp hb with z | hb
  ·rw[z];exact⟨_,he,λv z=>by
    have z':Data.fields _=Data.cell v:=z;cases z'⟩
  ·have e2:b=it:=by simpa using hb
   rw[e2];exact⟨o,e1,λv z=>by rw[d] at z;cases z⟩
 keep:=λi h h' st k=>by
  obtain⟨⟨old,he⟩,hi⟩:=st;exact⟨⟨old,k e (by simp) _ he⟩,hi.at λo q=>k it (by simp) o q⟩
 item:=by
  intro X hP hw hK hc i pins s σ H E I hf st hg;subst hP hw hK;obtain⟨xs,x,hq,hx⟩:=hg;obtain⟨aA,rv,p,hz⟩:=I.list hq;obtain⟨u,hu,ru⟩:=rv.get hx;obtain⟨⟨old,he⟩,hit⟩:=st;obtain⟨f0,f1,f2,f3,f4,f5⟩:=hf e (by simp)
  obtain⟨g0,g1,g2,g3,g4,g5⟩:=hf it (by simp)
  have JG:e<s.heap.objs.size:=Heap.lt_size he;have SJ:it<s.heap.objs.size:=by obtain⟨_,z,_⟩:=hit;exact Heap.lt_size z
  refine wpAny_pyNext_enum_item he hit p.isList (x:=u) (by simpa using hu) Ca λh' ho mV hT hsz hk=>?_
  refine⟨_,rfl,?_⟩;refine wpAny_letOwnedTupleGo_enum ho λo_ e_ eU=>?_
  replace eU:Heap.SameBut e h' o_:=eU
  -- two records have turned,a tuple is new
  have I1:Inv X pins σ H { s with heap:=(s.heap),toks:=s.toks+1 }:=I.tok _;have kk:∀b o,b∉[e,it]->s.heap.get? b=some o->o_.get? b=some o:=λb o hb q=>by
   have h1:b≠e:=λz=>hb (by simp[z])
   have h2:b≠it:=λz=>hb (by simp[z])
   exact eU.extBut b o h1 (hk b o h1 h2 q)
  have qp:∀b v,H b=some v->b∉[e,it]:=λb v q hb=>by
   rcases List.mem_cons.mp hb with z | hb
   ·rw[z,f0] at q;cases q
   ·have e2:b=it:=by simpa using hb
    rw[e2,g0] at q;cases q
  have JH:H s.heap.objs.size=none:=I.az.fresh (Nat.le_refl _);have q8:∀b v,H b=some v->b≠s.heap.objs.size:=λb v q z=>by rw[z,JH] at q;cases q
  have SK:o_.get? s.heap.objs.size=some { cls:=.type "tuple",data:=.seq #[.int (i:Nat) s.toks,u] }:=eU.extBut _ _ (Nat.ne_of_gt JG) hT;have acG:∃o,o_.get? e=some o:=⟨_,e_⟩;have acH:∃o,o_.get? it=some o:=by
   obtain⟨o,q,_⟩:=mV;exact⟨o,eU.extBut _ _ (Ne.symm Ca) q⟩
  have I2:Inv X pins σ (upd H s.heap.objs.size (.tup [.int i,x])) { s with heap:=o_,toks:=s.toks+1 }:=by
   refine I.step (g':=s.gens) (d':=s.drawn) (ch:=[e,it]) (λb hb=>?_) (λb o _ _ hc q _=>kk b o hc q) (λb o _ _ hc q _=>⟨o.slots,kk b o hc q⟩) (λb o _ q n=>?_) (λb o hc q=>⟨o,kk b o hc q⟩)
    (λb ys q=>by rw[au (q8 b _ q)];exact q) (λb o v q=>by rw[au (q8 b _ q)];exact q) (λb ps q=>⟨#[],by rw[au (q8 b _ q),q];simp⟩) (λm hm=>?_) (λb v q=>?_) I.bare
   ·rcases List.mem_cons.mp hb with z | hb
    ·rw[z];exact⟨f3,f1,f4,f5⟩
    ·have e2:b=it:=by simpa using hb
     rw[e2];exact⟨g3,g1,g4,g5⟩
   ·rw[au (Nat.ne_of_lt (Heap.lt_size q))];exact n
   ·obtain⟨o,es,ep,q,r⟩:=hm;exact⟨o,es,ep,kk _ o (by
     intro hb;rcases List.mem_cons.mp hb with z | hb
     ·exact f1 z.symm
     ·exact g1 (by simpa using hb:X.env.locals=it).symm) q,r⟩
   ·by_cases hb:b=s.heap.objs.size
    ·subst hb;rw[aB] at q;cases q;refine⟨by show 2<=sizeLine;decide,[.int (i:Nat) s.toks,u],.cons ⟨_,rfl⟩ (.cons ru .nil),_,SK,rfl,_,rfl⟩
    ·rw[au hb] at q;refine(I.az b v q).d8 (λc o uS z=>kk c o ?_ z) (λc z=>by rw[au (q8 c _ z)];exact z) (λc ys z=>by rw[au (q8 c _ z)];exact z)
     rcases uS with z2 | z2
     ·rw[z2];exact qp b v q
     ·exact qp c _ z2
  refine⟨.ref s.heap.objs.size,_,I2,rfl,⟨_,x,JH,rfl,λys hy=>by rw[I.Im hy hq];exact hx,rfl⟩,⟨⟨u,?_⟩,?_⟩,λb hb=>?_⟩
  ·have z:((i+1:Nat):Int)=(i:Int)+1:=by lia
   rw[z];exact e_
  ·exact mV.at λo q=>eU.extBut _ _ (Ne.symm Ca) q
  ·have bO:b<s.heap.objs.size:=by
    rcases List.mem_cons.mp hb with z | hb
    ·rw[z];exact JG
    ·rw[show b=it by simpa using hb];exact SJ
   rw[au (Nat.ne_of_lt bO)];exact(hf b hb).1
 done:=by
  intro X hP hw hK hc i pins s σ H E I hf st hg;subst hP hw hK;obtain⟨xs,hq,hx⟩:=hg;obtain⟨aA,rv,p,hz⟩:=I.list hq;obtain⟨⟨old,he⟩,hit⟩:=st;obtain⟨g0,g1,g2,g3,g4,g5⟩:=hf it (by simp)
  have hl:=rv.length;exact wpAny_pyNext_enum_end (I.ok.hd hc) he hit p.isList (by simp;lia) λh' eb=>⟨rfl,I.turned (t':=s.toks) (λb o hb e=>eb b o hb e) g0 g1 g3 g4 g5⟩
 self:=λ_ _ _ _ _ st h=>by
  obtain⟨⟨old,he⟩,_⟩:=st;exact wpAny_pyIter_enum he h
section
variable{X:Cx}
noncomputable def vC(K:PySem.W.Frag)(ta:TA):TI:=λσ H R=>ta σ H λvs H1=>∃a,vs = [.ref a]/\(∃xs,aH K H1 a xs)/\R (qZ K a) H1
theorem Cb{l:Expr}{ta:TA}{p pos tp:Pos}{elts:List Expr}{x1}(hg:Gl X "enumerate")(hm:X.mg "enumerate" = none)(hl:PA X [l] ta)(hs:starEach [l] X.env = [(false,eval l X.env)]:=by rfl) :
  PI X (.Tuple elts x1 tp) (.Call (.Name "enumerate" p) [l] [] pos) (vC X.K ta):=by
 intro pins s σ H R I h;refine Call_ (kN I hg hm boot_enumerate (PyProof.Rows.callWith_type1 (aN (hl pos pins s σ H _ I h) λus s1 ⟨vs,H1,I1,r1,q1⟩=>?_) hs rfl));obtain⟨a,e,⟨xs,hq⟩,q⟩:=q1;subst e;obtain⟨u,rfl,ru⟩:=vals1 r1;cases ru;obtain⟨aA,rv,p,hz⟩:=I1.list hq;refine call_enumerate_list p.isList λh' he hit hsz hk=>?_;have I2:Inv X pins σ H1 { s1 with heap:=h' }:=I1.kept (t':=s1.toks) hk;refine wpAny_pyIter_enum he ?_;have n1:H1 (s1.heap.objs.size+1)=none:=I1.az.fresh (Nat.le_succ _);have n0:H1 s1.heap.objs.size=none:=I1.az.fresh (Nat.le_refl _);refine⟨s1.heap.objs.size+1,[s1.heap.objs.size+1,s1.heap.objs.size],_,_,H1,rfl,I2,SI a _ _ (Nat.succ_ne_self _),⟨⟨_,he⟩,hit⟩,λb hb=>?_,q⟩;rcases List.mem_cons.mp hb with z | hb
 ·rw[z];exact I1.jQ (Nat.le_succ _) n1
 ·rw[show b=s1.heap.objs.size by simpa using hb];exact I1.jQ (Nat.le_refl _) n0
theorem SM{K:PySem.W.Frag}{a:Addr}{xs:List V}{g:TG}{tb:TS}{D:Ends}{σ:St}{H:Hp}(Pv:Nat->St->Hp->Prop)(h0:Pv 0 σ H)(hl:∀i σ H,i<=xs.length->Pv i σ H->aH K H a xs)
  (hs:∀i x σ H T,xs[i]? = some x->Pv i σ H->H T=none->g (.ref T) σ (upd H T (.tup [.int i,x])) λaD H2=>tb { D with nx:=Pv (i+1),ct:=Pv (i+1),bk:=D.nx } aD H2) (hd:∀σ H,Pv xs.length σ H->D.nx σ H) :
  ∃W:Nat->Nat->St->Hp->Prop,(∃m,W 0 m σ H)/\∀i m σ H,W i m σ H->
   ((qZ K a).stop i H/\D.nx σ H)\/((qZ K a).go i H/\∃N:St->Hp->Prop,(∀aR H',N aR H'->∃m',m' < m/\W (i+1) m' aR H')/\∀x H',(qZ K a).jx i H x H'->g x σ H' λaD H2=>tb { D with nx:=N,ct:=N,bk:=D.nx } aD H2):=by
 refine⟨λi m σ H=>m=xs.length - i/\i<=xs.length/\Pv i σ H,⟨xs.length,by simp,Nat.zero_le _,h0⟩,?_⟩
 rintro i m σ H ⟨rfl,hi,p⟩;have q:=hl i σ H hi p;by_cases bO:i<xs.length
 ·refine .inr ⟨⟨xs,xs[i],q,by simp[bO]⟩,Pv (i+1),λaR H' p'=>⟨xs.length - (i+1),by lia,rfl,bO,p'⟩,λx H' y=>?_⟩
  obtain⟨T,z,hT,e,y,e2⟩:=y;subst e e2;exact hs i z σ H T (y xs q) p hT
 ·have e:i=xs.length:=by lia
  subst e;exact .inl ⟨⟨xs,q,Nat.le_refl _⟩,hd σ H p⟩
theorem SN(hc:X.calm=true):fP X (.builtin "sum") (λxs H Q=>∃(p:Addr) (ns:List Int),xs = [.ref p]/\aH X.K H p (ns.map V.int)/\Q (.int ns.sum) H):=by
 intro pins s σ H xs us Q I r h;obtain⟨p,ns,rfl,hq,q⟩:=h;obtain⟨u,rfl,ru⟩:=vals1 r;cases ru;obtain⟨aA,rv,pl,hz⟩:=I.list hq;have hi:IntsAre aA ns:=intsAre_of rv;obtain⟨xs,hx⟩:=hi.allInts.items;have gJ:s.heap.IsList p (intItems xs):=hx▸pl.isList;refine sum_intListG (I.ok.hd hc) gJ λh' tk t' hk=>?_;have e1:ns=xs.toList.map (·.1):=by
  rw[← nums_intItems,← hx];exact(show numsOf aA.toArray.toList=ns from hi.numsOf).symm
 have e2:preSum (numAt xs) xs.size=ns.sum:=by
  rw[preSum_eq,List.take_of_length_le (by simp),e1]
 rw[e2];exact⟨.int ns.sum,H,I.kept hk,⟨t',rfl⟩,q⟩
theorem SO:fP X (.builtin "sorted") (λxs H Q=>∃(p:Addr) (ns:List Int),xs = [.ref p]/\aH X.K H p (ns.map V.int)/\ns.length<64/\
  ∀(l:Addr) (iD:List Int),H l=none->iD.Perm ns->iD.Pairwise (·<=·)->Q (.ref l) (upd H l (.lst (iD.map V.int)))):=by
 intro pins s σ H xs us Q I r h;obtain⟨p,ns,rfl,hq,i8,q⟩:=h;obtain⟨u,rfl,ru⟩:=vals1 r;cases ru;obtain⟨aA,rv,pl,hz⟩:=I.list hq;have hi:IntsAre aA ns:=intsAre_of rv;have hlen:=hi.length;refine sorted_ints pl.isList hi (by lia) λout iD a1 a2 a3=>?_
 obtain⟨e,he⟩:=sortedAll_at s.heap aA out;have hn:H (s.heap.objs.size+1)=none:=I.az.fresh (Nat.le_succ _);refine⟨.ref (s.heap.objs.size+1),upd H (s.heap.objs.size+1) (.lst (iD.map V.int)),I.laid (t':=s.toks) (λb o q=>sortedAll_old q) (Nat.le_succ _) ?_,rfl,q _ iD hn a2 a3⟩;refine⟨?_,out.toList,e,vt a1,by simpa using he⟩
 rw[List.length_map,a2.length_eq];exact Nat.le_trans (Nat.le_of_lt i8) (by decide)
theorem JI(hc:X.calm=true):fP X (.builtin "min") (λxs H Q=>∃(p:Addr) (ns:List Int),xs = [.ref p]/\aH X.K H p (ns.map V.int)/\0<ns.length/\∀M,M∈ns->(∀a,a∈ns->M<=a)->Q (.int M) H):=by
 intro pins s σ H xs us Q I r h;obtain⟨p,ns,rfl,hq,h0,q⟩:=h;obtain⟨u,rfl,ru⟩:=vals1 r;cases ru;obtain⟨aA,rv,pl,hz⟩:=I.list hq;have hi:IntsAre aA ns:=intsAre_of rv;obtain⟨m,F⟩:=I.fr;refine min_list_N (I.ok.hd hc) F (AB (h:=s.heap)) pl.isList hi h0 λh' M t tk F' N' h1 h2=>?_;have kk:∀b o,b≠X.env.locals->s.heap.get? b=some o->h'.get? b=some o:=λb o hb e=>by
  cases q:X.base.get? b with
  | some z =>
   have:=F.keep b z q;rw[e] at this;cases this;exact F'.keep b _ q
  | none=>exact(N' (b,o) (HY hb q e)).1
 have nl:∀b v,H b=some v->b≠X.env.locals:=λb v e z=>by rw[z,I.free] at e;cases e
 have I':Inv X pins σ H { s with heap:=h',toks:=tk }:=by
  refine I.step (g':=s.gens) (d':=s.drawn) (ch:=[]) (λ_ z=>nomatch z) (λb o hb _ _ e _=>kk b o hb e) (λb o hb _ _ e _=>⟨o.slots,kk b o hb e⟩) (λ_ _ _ _ n=>n) (λb o _ e=>?_) (λ_ _ e=>e) (λ_ _ _ e=>e)
   (λb ps e=>⟨#[],by rw[e];simp⟩) (λm' hm=>?_) (λb v e=>(I.az b v e).d8 (λc o hc e'=>kk c o ?_ e') (λ_ e=>e) (λ_ _ e=>e)) I.bare
  ·by_cases hb:b=X.env.locals
   ·obtain⟨o',_,_,z,_⟩:=F'.ns;exact⟨o',by rw[hb];exact z⟩
   ·exact⟨o,kk b o hb e⟩
  ·have:m' = m:=by
    obtain⟨o1,Cc,JJ,g1,d1,k1,z1⟩:=hm;obtain⟨o2,JK,JL,g2,d2,k2,z2⟩:=F.ns;rw[g1] at g2;cases g2;rw[d1] at d2;cases d2
    funext x
    rw[← z1 x,← z2 x]
   rw[this];exact F'.ns
  ·rcases hc with z | z
   ·rw[z];exact nl b v e
   ·exact nl c _ z
 exact⟨.int M,H,I',⟨t,rfl⟩,q M h1 h2⟩
theorem fD.SQ{pins:List (Addr×Obj)}{σ:St}{H:Hp}{s:Shared}{x:V}{u t:Value}(I:Inv X pins σ H s)(rx:RelV x u)(ty:fD X.K H x t):∃Hh:Heap->Prop,PySem.W.KitX X.K u t Hh/\Hh s.heap/\u≠.builtin "__main__.__loader__#opaque" := by
 cases ty with
 | aG=>cases (show u=Value.none from rx);exact⟨_,PySem.W.kitx_none,True.intro,λz=>nomatch z⟩
 | bl y=>cases (show u=Value.bool y from rx);exact⟨_,PySem.W.kitx_bool,True.intro,λz=>nomatch z⟩
 | int i=>obtain⟨t,q⟩:=(show ∃t,u=Value.int i t from rx);cases q;exact⟨_,PySem.W.kitx_int,True.intro,λz=>nomatch z⟩
 | str y=>obtain⟨t,q⟩:=(show ∃t,u=Value.str y t from rx);cases q;exact⟨_,PySem.W.kitx_str,True.intro,λz=>nomatch z⟩
 | kJ y=>obtain⟨t,q⟩:=(show ∃t,u=Value.float y t from rx);cases q;exact⟨_,PySem.W.kitx_float,True.intro,λz=>nomatch z⟩
 | @lst a xs ea =>
  cases (show u=Value.ref a from rx);obtain⟨_,_,n,_,h1⟩:=(show bW X.prog X.w H s.heap a (.lst xs) from I.az a _ ea);exact⟨_,PySem.W.kitx_list,⟨_,h1,rfl⟩,λz=>nomatch z⟩
 | @eG a ob xs ea =>
  cases (show u=Value.ref a from rx);obtain⟨_,_,_,n,_,h1⟩:=(show bW X.prog X.w H s.heap a (.eG ob (.lst xs)) from I.az a _ ea);exact⟨_,PySem.W.kitx_list,⟨_,h1,rfl⟩,λz=>nomatch z⟩
 | @tup a xs ea =>
  cases (show u=Value.ref a from rx);obtain⟨_,_,_,p⟩:=(show bW X.prog X.w H s.heap a (.tup xs) from I.az a _ ea);obtain⟨o,h1,h2,_⟩:=p;exact⟨_,PySem.W.kitx_tuple,⟨o,h1,h2⟩,λz=>nomatch z⟩
 | @dK a aq ea =>
  cases (show u=Value.ref a from rx);obtain⟨_,_,vs,_,p⟩:=(show bW X.prog X.w H s.heap a (.dK aq) from I.az a _ ea);obtain⟨o,es,ep,h1,h2,_⟩:=p;exact⟨_,PySem.W.kitx_dict,⟨o,h1,h2.1⟩,λz=>nomatch z⟩
 | @dT a aq ea =>
  cases (show u=Value.ref a from rx);obtain⟨_,_,xs,_,o,es,ep,h1,h2,_⟩:=(show bW X.prog X.w H s.heap a (.dT aq) from I.az a _ ea);exact⟨_,PySem.W.kitx_dict,⟨o,h1,h2.1⟩,λz=>nomatch z⟩
 | @ins a C dx fs ea cl ha hn u7 hm =>
  cases (show u=Value.ref a from rx);obtain⟨mA,O,_⟩:=qJ I.az ea;obtain⟨od,J,_⟩:=O.look;exact⟨_,PySem.W.kitx_own (cl.get _) cl.hd ha hn u7 hm,J,λz=>nomatch z⟩
theorem jC:fP X (.builtin "isinstance") (λxs H Q=>∃x T t b,xs = [x,.ty T]/\fD X.K H x t/\PySem.W.kitOne X.K t (.type T)=some b/\Q (.bl b) H):=by
 intro pins s σ H xs us Q I r h;obtain⟨x,T,t,b,rfl,ty,e,q⟩:=h;obtain⟨u,v,rfl,ru,rv⟩:=vals2 r;cases (show v=Value.type T from rv);exact RQ I ru ty e λtk=>⟨.bl b,H,I.tok _,rfl,q⟩
theorem JM:∀ {Ts:List String} {us:List Value},Vals (Ts.map V.ty) us->us=Ts.map Value.type
 | [],_,.nil=>rfl
 | _::_,_,.cons r t=>by
  have r:_=Value.type _:=r;rw[r,JM t];rfl
theorem SR:fP X (.builtin "isinstance") (λxs H Q=>∃(x:V) (p:Addr) (Ts:List String) (t:Value) (b:Bool),xs = [x,.ref p]/\H p=some (.tup (Ts.map V.ty))/\fD X.K H x t/\PySem.W.kitAny X.K t (Ts.map Value.type)=some b/\Q (.bl b) H):=by
 intro pins s σ H xs us Q I r h;obtain⟨x,p,Ts,t,b,rfl,hp,ty,e,q⟩:=h;obtain⟨u,v,rfl,ru,rv⟩:=vals2 r;cases (show v=Value.ref p from rv);obtain⟨Hh,Z,hh,ne⟩:=fD.SQ I ru ty;obtain⟨_,aA,rt,o,ho,hc,n,hd⟩:=I.az p _ hp;have ei:=JM rt;obtain⟨oc,od,dt,sl⟩:=o;simp only at hc hd;subst hc hd ei;exact PySem.W.kia_tup Z I.bC hh ho e ne λtk=>⟨.bl b,H,I.tok _,rfl,q⟩
end
noncomputable def AllP{α:Type}(P:α->Prop):List α->Prop
 | []=>True
 | a::r=>P a/\AllP P r
theorem AllP.mem{α:Type}{P:α->Prop}:∀ {l:List α},AllP P l->∀a∈l,P a
 | _::_,h,a,hm=>by
  rcases List.mem_cons.mp hm with rfl | hm
  ·exact h.1
  ·exact AllP.mem h.2 a hm
theorem dX.of{X:Cx}{scope:Scope}{cl:List (Str×Addr)}{N:List Str}{nt:Nat}{fv:List Nat}(i7:closureFor scope X.env=pure cl)(kind:scope.kind = .function)
  (iC:(scope.names.all λy=>y.2 != .cell)=true) (names:(scope.names.all λy=>y.2 != .local || scope.names.lookup y.1 == some .local)=true)
  (sub:AllP (λp:Str×Addr=>X.env.cells.lookup p.1=some p.2) cl) (has:(scope.names.all λy=>y.2 != .free || (cl.lookup y.1).isSome)=true)
  (free:fv.map (λj=>X.N[j]?)=(N.drop nt).map some) (fk:((N.drop nt).all λy=>scope.names.lookup y == some .free && X.env.scope.names.lookup y == some .cell)=true) (le:nt<=N.length) (nd:N.Nodup) :
  dX X scope cl N nt fv where
 i7:=i7
 kind:=kind
 iC:=λy hy=>by have:=List.all_eq_true.mp iC y hy;simpa using this
 names:=λy hy hl=>by have:=List.all_eq_true.mp names y hy;simp[hl] at this;exact this
 sub:=sub.mem
 has:=λy hy hl=>by
  have:=List.all_eq_true.mp has y hy;rw[hl] at this;exact Option.isSome_iff_exists.mp (by simpa only[bne_self_eq_false,Bool.false_or] using this)
 free:=free
 fk:=λy hy=>by have:=List.all_eq_true.mp fk y hy;simpa using this
 le:=le
 nd:=nd
theorem JN{CX:fE}{P:Program}{w:World}{K:PySem.W.Frag}{mg:Str->Option Value}{base:Heap}{N:List Str}{qual:Str}{scope:Scope}{f:Addr}{cd:Value}{A:Around}{outer:List Env}{s:Shared}{H:Hp}{E:XK} :
  (fQ CX P w K mg base N qual scope f cd A outer s H E).K=K:=rfl
theorem JO{X:Cx}{E:Value->Shared->Prop}:(X.gF E).K=X.K:=rfl
theorem JP{X:Cx}{scope:Scope}{cl:List (Str×Addr)}{N:List Str}{C:Addr}{s:Shared}{H:Hp}{fp:List Addr}:(cL X scope cl N C s H fp).K=X.K:=rfl
structure Zn(H:Hp)(a:Addr)(ts:List Addr)(z:List (Int×Int)):Prop where
 l:H a=some (.lst (ts.map V.ref))
 n:ts.length=z.length
 t:∀(i:Nat) (t:Addr) (p:Int×Int),ts[i]? = some t->z[i]? = some p->H t=some (.tup [.int p.1,.int p.2])
theorem Zn.same{H H':Hp}{a:Addr}{ts:List Addr}{z:List (Int×Int)}(h:Zn H a ts z)(e:ah H H'):Zn H' a ts z:=⟨e _ _ h.l,h.n,λi t p h1 h2=>e _ _ (h.t i t p h1 h2)⟩
theorem Zn.at{H:Hp}{a:Addr}{ts:List Addr}{z:List (Int×Int)}(h:Zn H a ts z){i:Nat}{x:V}(e:(ts.map V.ref)[i]? = some x):∃t p,x = .ref t/\z[i]? = some p/\H t=some (.tup [.int p.1,.int p.2]):=by
 rw[List.getElem?_map] at e;cases q:ts[i]? with
 | none=>rw[q] at e;cases e
 | some t =>
  rw[q] at e;have hi:i<z.length:=by rw[← h.n];exact(List.getElem?_eq_some_iff.mp q).1
  exact⟨t,z[i],(Option.some.inj e).symm,List.getElem?_eq_getElem hi,h.t i t _ q (List.getElem?_eq_getElem hi)⟩
noncomputable def mix(c k:Int):Int:=((c % 1000000000000000+1)*48271+k*k*16807+k*7919) % 2147483647*69621 % 2147483629
noncomputable def iE(ns:List Int)(k:Int):Int:=ns.getD k.toNat 0
noncomputable def cU:Sp:=λvs H Q _=>∃c k:Int,vs = [.int c,.int k]/\0<=k/\k<100000/\Q (.int (mix c k)) H
noncomputable def pe(K:PySem.W.Frag):Sp:=λvs H Q _=>∃(a:Addr) (ns:List Int) (k:Int),vs = [.ref a,.int k]/\aH K H a (ns.map V.int)/\ns.length<=63/\0<=k/\Q (.int (iE ns k)) H
section
variable{K:PySem.W.Frag}{ta:TA}{tl:TE}{g:TG}{tb:TS}{D:Ends}{σ:St}{H:Hp}
theorem SS(n:Nat)(dY:∀Q:List V->Hp->Prop,Q [.int (n:Int)] H->ta σ H Q)(hn:n<1000000000)(Pv:Nat->St->Hp->Prop)(h0:Pv 0 σ H)
  (hs:∀i σ H,i<n->Pv i σ H->g (.int (i:Int)) σ H λaD H2=>tb { D with nx:=Pv (i+1),ct:=Pv (i+1),bk:=D.nx } aD H2) (hd:∀σ H,Pv n σ H->D.nx σ H):iA (qy ta) g tb D σ H:=by
 refine dY _ ⟨n,rfl,by lia,by lia,?_⟩
 have e:((n:Int)).toNat=n:=by lia
 rw[e];refine AW Pv h0 (λi σ H hi p=>?_) hd;have e2:(0:Int)+(i:Int)=i:=by lia
 rw[e2];exact hs i σ H hi p
theorem SV(lo hi:Int)(dY:∀Q:List V->Hp->Prop,Q [.int lo,.int hi] H->ta σ H Q)(b1 : -1000000000000<lo)(b2:lo<1000000000000)(b3 : -1000000000000<hi)(b4:hi<1000000000000)(Pv:Nat->St->Hp->Prop)(h0:Pv 0 σ H)
  (hs:∀i σ H,i<(hi - lo).toNat->Pv i σ H->g (.int (lo+(i:Int))) σ H λaD H2=>tb { D with nx:=Pv (i+1),ct:=Pv (i+1),bk:=D.nx } aD H2) (hd:∀σ H,Pv (hi - lo).toNat σ H->D.nx σ H):iA (qz ta) g tb D σ H :=
 dY _ ⟨lo,hi,rfl,⟨by lia,by lia,by lia,by lia⟩,AW Pv h0 hs hd⟩
theorem SW(a:Addr)(xs:List V)(j5:∀Q:VK,Q (.ref a) H->tl σ H Q)(cE:aH K H a xs)(Pv:Nat->St->Hp->Prop)(h0:Pv 0 σ H)(hl:∀i σ H,i<=xs.length->Pv i σ H->aH K H a xs)
  (hs:∀i x σ H,xs[i]? = some x->Pv i σ H->g x σ H λaD H2=>tb { D with nx:=Pv (i+1),ct:=Pv (i+1),bk:=D.nx } aD H2) (hd:∀σ H,Pv xs.length σ H->D.nx σ H):iA (oK K tl) g tb D σ H :=
 j5 _ ⟨a,rfl,⟨xs,cE⟩,Iv Pv h0 hl hs hd⟩
theorem SX(a:Addr)(xs:List V)(dY:∀Q:List V->Hp->Prop,Q [.ref a] H->ta σ H Q)(cE:aH K H a xs)(Pv:Nat->St->Hp->Prop)(h0:Pv 0 σ H)(hl:∀i σ H,i<=xs.length->Pv i σ H->aH K H a xs)
  (hs:∀i x σ H T,xs[i]? = some x->Pv i σ H->H T=none->g (.ref T) σ (upd H T (.tup [.int i,x])) λaD H2=>tb { D with nx:=Pv (i+1),ct:=Pv (i+1),bk:=D.nx } aD H2) (hd:∀σ H,Pv xs.length σ H->D.nx σ H):iA (vC K ta) g tb D σ H :=
 dY _ ⟨a,rfl,⟨xs,cE⟩,SM Pv h0 hl hs hd⟩
variable{tt:TT}{te:TE}{nt:Nat}{fv:List Nat}{Q:VK}
noncomputable def NX(n i:Nat)(P:Prop):Prop:=∃m',m' < n - i/\m' = n - (i+1)/\i+1<=n/\P
theorem NX.of{n i:Nat}{P:Prop}(hi:i<n)(p:P):NX n i P:=⟨n - (i+1),by lia,rfl,hi,p⟩
theorem SY(lo hi:Int)(dY:∀Q:List V->Hp->Prop,Q [.int lo,.int hi] H->ta σ H Q)(b1 : -1000000000000<lo)(b2:lo<1000000000000)(b3 : -1000000000000<hi)(b4:hi<1000000000000)
  (Pv:Addr->Nat->List V->St->Hp->Prop) (h0:∀D,H D=none->Pv D 0 [] (gH σ nt fv) (upd H D (.lst []))) (hD:∀D i ys σ H,Pv D i ys σ H->H D=some (.lst ys)/\ys.length<sizeLine)
  (hs:∀D i ys aD H2,i<(hi - lo).toNat->Pv D i ys aD H2->g (.int (lo+(i:Int))) aD H2 λbU H4=>tt bU H4 λb H5=>if b=true then te bU H5 λv H6=>H6 D=some (.lst ys)/\NX (hi - lo).toNat i (Pv D (i+1) (ys++[v]) bU (upd H6 D (.lst (ys++[v])))) else NX (hi - lo).toNat i (Pv D (i+1) ys bU H5))
  (hd:∀D ys aD H2,Pv D (hi - lo).toNat ys aD H2->Q (.ref D) H2):jZ (qz ta) g tt te nt fv σ H Q:=by
 refine dY _ ⟨lo,hi,rfl,⟨by lia,by lia,by lia,by lia⟩,λD mW=>?_⟩
 refine⟨λi m ys aD H2=>m=(hi - lo).toNat - i/\i<=(hi - lo).toNat/\Pv D i ys aD H2,⟨_,rfl,Nat.zero_le _,h0 D mW⟩,?_⟩;rintro i m ys aD H2 ⟨rfl,gI,p⟩;obtain⟨d1,d2⟩:=hD D i ys aD H2 p;refine⟨d1,d2,?_⟩;by_cases bO:i<(hi - lo).toNat
 ·refine .inr ⟨bO,λx H3 y=>?_⟩;obtain⟨e1,e2⟩:=y;subst e1 e2;exact hs D i ys aD _ bO p
 ·have e:i=(hi - lo).toNat:=by lia
  subst e;exact .inl ⟨Nat.le_refl _,hd D ys aD H2 p⟩
theorem S0(a:Addr)(xs:List V)(j5:∀Q:VK,Q (.ref a) H->tl σ H Q)(cE:aH K H a xs)
  (Pv:Addr->Nat->List V->St->Hp->Prop) (h0:∀D,H D=none->Pv D 0 [] (gH σ nt fv) (upd H D (.lst []))) (hD:∀D i ys σ H,Pv D i ys σ H->H D=some (.lst ys)/\ys.length<sizeLine/\aH K H a xs)
  (hs:∀D i x ys aD H2,xs[i]? = some x->Pv D i ys aD H2->g x aD H2 λbU H4=>tt bU H4 λb H5=>if b=true then te bU H5 λv H6=>H6 D=some (.lst ys)/\NX xs.length i (Pv D (i+1) (ys++[v]) bU (upd H6 D (.lst (ys++[v])))) else NX xs.length i (Pv D (i+1) ys bU H5))
  (hd:∀D ys aD H2,Pv D xs.length ys aD H2->Q (.ref D) H2):jZ (oK K tl) g tt te nt fv σ H Q:=by
 refine j5 _ ⟨a,rfl,⟨xs,cE⟩,λD mW=>?_⟩;refine⟨λi m ys aD H2=>m=xs.length - i/\i<=xs.length/\Pv D i ys aD H2,⟨_,rfl,Nat.zero_le _,h0 D mW⟩,?_⟩;rintro i m ys aD H2 ⟨rfl,gI,p⟩;obtain⟨d1,d2,d3⟩:=hD D i ys aD H2 p;refine⟨d1,d2,?_⟩;by_cases bO:i<xs.length
 ·refine .inr ⟨⟨xs,xs[i],d3,by simp[bO]⟩,λx H3 y=>?_⟩
  obtain⟨e1,e2⟩:=y;subst e1;exact hs D i x ys aD _ (e2 xs d3) p
 ·have e:i=xs.length:=by lia
  subst e;exact .inl ⟨⟨xs,d3,Nat.le_refl _⟩,hd D ys aD H2 p⟩
end
theorem g7{ns:List Int}{k:Int}(h0:0<=k)(h:k<(ns.length:Int)):gZ (ns.map V.int) k=some (.int (ns.getD k.toNat 0)):=by
 have hk:k.toNat<ns.length:=by lia
 unfold gZ iW;rw[if_pos h0,if_pos (by simpa using h)]
 simp[List.getD_eq_getElem?_getD,List.getElem?_eq_getElem hk]
theorem JQ{ns:List Int}(h:0<ns.length):gZ (ns.map V.int) (-1)=some (.int (ns.getD (ns.length - 1) 0)):=by
 have hk:ns.length - 1<ns.length:=by lia
 unfold gZ iW;rw[if_neg (by decide),if_pos (by simp;lia)]
 have e:(-1+((ns.map V.int).length:Int)).toNat=ns.length - 1:=by simp;lia
 rw[e];simp[List.getD_eq_getElem?_getD,List.getElem?_eq_getElem hk]
theorem q9(a b:String):(Str.ofString a=Str.ofString b)=(a=b):=by
 refine propext ⟨λh=>?_,λh=>by rw[h]⟩
 rw[Str.ofString_eq_toList,Str.ofString_eq_toList] at h;have h:a.toList.map Char.toNat=b.toList.map Char.toNat:=by
  injection h with h;exact Array.toList_inj.mpr h |> λz=>by simpa using h
 have inj:∀(x y:List Char),x.map Char.toNat=y.map Char.toNat->x=y:=by
  intro x
  induction x with
  | nil=>intro y h;cases y with | nil=>rfl | cons c r=>simp at h
  | cons c r ih =>
   intro y h;cases y with
   | nil=>simp at h
   | cons d q =>
    simp only[List.map_cons,List.cons.injEq] at h;rw[ih q h.2,Char.toNat_inj.mp h.1]
 exact String.ext (inj _ _ h)
theorem gK(a b:String):(Str.ofString a == Str.ofString b)=(a == b):=by
 by_cases h:a=b
 ·subst h;simp
 ·have h2:¬ Str.ofString a=Str.ofString b:=by rw[q9];exact h
  rw[beq_eq_false_iff_ne.mpr h,beq_eq_false_iff_ne.mpr h2]
structure lg(z:List (Int×Int)):Prop where
 l1:1<=z.length
 l5:z.length<=5
 r:∀p∈z,1<=p.1/\p.1<=40/\1<=p.2/\p.2<=60
 s2:2<=(z.map (·.1)).sum
 vD:(z.map (·.1)).sum<=120
noncomputable def counts(z:List (Int×Int)):List Int:=z.flatMap λp=>List.replicate p.1.toNat p.2
structure SwOk(sw:List Int)(n:Int):Prop where
 len:(sw.length:Int)=n
 two:2<=n
 z:sw.getD 0 0=0
 pos:∀i:Nat,1<=i->i<sw.length->1<=sw.getD i 0/\sw.getD i 0<=1000000000
 up:∀i:Nat,1<=i->i<sw.length->sw.getD (i - 1) 0<=sw.getD i 0
 no:∀a b:Nat,1<=a->1<=b->a+b<sw.length->sw.getD (a+b) 0<=sw.getD a 0+sw.getD b 0
noncomputable def dg(s:Int):Nat->List Int->List (Int×Int)
 | _,[]=>[]
 | r,c::cs=>(List.range (c - s).toNat).map (λ(k:Nat)=>((r:Int),(k:Int)))++dg s (r+1) cs
noncomputable def dJ(rc:List Int)(s:Int):List (Int×Int):=dg s 0 rc
noncomputable def kT(p:Int×Int):List Key:=[.inl p.1,.inl p.2]
noncomputable def g8:Nat->List (Int×Int)->List (List Key×V)->List (List Key×V)
 | _,[],acc=>acc
 | i,p::r,acc=>g8 (i+1) r (putK acc (kT p) (.int i))
noncomputable def Cd(z:List (Int×Int)):List (List Key×V):=g8 0 z []
theorem JR(s:Int):∀(xs ys:List Int) (r:Nat),dg s r (xs++ys)=dg s r xs++dg s (r+xs.length) ys
 | [],ys,r=>by simp[dg]
 | x::xs,ys,r=>by
  rw[List.cons_append,dg,dg,JR s xs ys (r+1),List.append_assoc,List.length_cons];congr 3;lia
theorem JS:∀(xs ys:List (Int×Int)) (i:Nat) (acc:List (List Key×V)),g8 i (xs++ys) acc=g8 (i+xs.length) ys (g8 i xs acc)
 | [],ys,i,acc=>by simp[g8]
 | x::xs,ys,i,acc=>by
  rw[List.cons_append,g8,g8,JS xs ys (i+1),List.length_cons];congr 1;lia
theorem JT:∀(xs:List (Int×Int)) (i:Nat) (acc:List (List Key×V)),(g8 i xs acc).length<=acc.length+xs.length
 | [],i,acc=>by simp[g8]
 | x::xs,i,acc=>by
  rw[g8];have h1:=JT xs (i+1) (putK acc (kT x) (.int i));have h2:=BE acc (kT x) (.int i);rw[List.length_cons];lia
theorem Ce(x y:List (Int×Int)):counts (x++y)=counts x++counts y:=by simp[counts]
theorem q_:∀(z:List (Int×Int)),(∀p∈z,1<=p.1)->((counts z).length:Int)=(z.map (·.1)).sum
 | [],_=>rfl
 | p::z,h=>by
  have ih:=q_ z λp hp=>h p (List.mem_cons_of_mem _ hp);have h1:=h p List.mem_cons_self;simp only[counts,List.flatMap_cons,List.length_append,List.length_replicate,List.map_cons,List.sum_cons] at ih ⊢;lia
theorem JU:∀(l:List Int),(∀x∈l,0<=x)->0<=l.sum
 | [],_=>Int.le_refl 0
 | x::l,h=>by
  have:=JU l λy hy=>h y (List.mem_cons_of_mem _ hy);have:=h x List.mem_cons_self;rw[List.sum_cons];lia
theorem JV{z:List (Int×Int)}(ok:lg z)(i:Nat):(counts (z.take i)).length<=120:=by
 have h0:=q_ z λp hp=>(ok.r p hp).1;have e:z=z.take i++z.drop i:=(List.take_append_drop i z).symm;have e2:(counts z).length=(counts (z.take i)).length+(counts (z.drop i)).length:=by
  rw[← List.length_append,← Ce,List.take_append_drop]
 have:=ok.vD;lia
theorem Cf{z:List (Int×Int)}{c:Int}(h:c∈counts z):∃p∈z,c=p.2:=by
 obtain⟨p,hp,hc⟩:=List.mem_flatMap.mp h;exact⟨p,hp,(List.mem_replicate.mp hc).2⟩
theorem rm{s:Int}(hs:0<=s):∀(rc:List Int) (r:Nat),(∀c∈rc,0<=c/\c<=1000)->(dg s r rc).length<=1000*rc.length
 | [],_,_=>by simp[dg]
 | c::rc,r,h=>by
  have ih:=rm hs rc (r+1) λc hc=>h c (List.mem_cons_of_mem _ hc);have h1:=h c List.mem_cons_self;simp only[dg,List.length_append,List.length_map,List.length_range,List.length_cons];lia
theorem S2{s:Int}(hs:0<=s){rc:List Int}(h:∀c∈rc,0<=c/\c<=1000)(i:Nat):(dg s 0 (rc.take i)).length<=1000*rc.length:=by
 have h1:=rm hs (rc.take i) 0 λc hc=>h c (List.mem_of_mem_take hc);rw[List.length_take] at h1;have h2:1000*min i rc.length<=1000*rc.length:=Nat.mul_le_mul_left _ (Nat.min_le_right _ _);exact Nat.le_trans h1 h2
theorem mX:sizeLine=16777216:=by decide
theorem vE(n:Nat)(c:Int):(List.replicate n [V.int c]).flatten=(List.replicate n c).map V.int:=by
 induction n with
 | zero=>rfl
 | succ n ih=>rw[List.replicate_succ,List.flatten_cons,ih,List.replicate_succ,List.map_cons];rfl
theorem S3{α:Type}{l:List α}{i:Nat}{x:α}(h:l[i]? = some x):i<l.length:=(List.getElem?_eq_some_iff.mp h).1
theorem take_succ_get{α:Type}{l:List α}{i:Nat}{x:α}(h:l[i]? = some x):l.take (i+1)=l.take i++[x]:=by
 rw[List.take_add_one,h];rfl
theorem j6{α β:Type}{f:α->β}{l:List α}{i:Nat}{y:β}(h:(l.map f)[i]? = some y):∃x,l[i]? = some x/\y=f x:=by
 rw[List.getElem?_map] at h;cases e:l[i]? with
 | none=>rw[e] at h;cases h
 | some x=>rw[e] at h;exact⟨x,rfl,(Option.some.inj h).symm⟩
theorem get_mem{α:Type}{l:List α}{i:Nat}{x:α}(h:l[i]? = some x):x∈l:=List.mem_of_getElem? h
theorem iF{α:Type}{l:List α}{i:Nat}{x:α}(h:l[i]? = some x):i<l.length:=(List.getElem?_eq_some_iff.mp h).1
theorem ah.put{H:Hp}{a:Addr}{o:HO}(h:H a=none):ah H (upd H a o):=λb u e=>by rw[au (bK e h)];exact e
theorem ah.put2{H H':Hp}{a:Addr}{o:HO}(s:ah H H')(h:H a=none):ah H (upd H' a o):=λb u e=>by rw[au (bK e h)];exact s b u e
theorem ah.JW{K:PySem.W.Frag}{H H':Hp}{a:Addr}{xs:List V}(e:ah H H')(h:bA K H a xs):bA K H' a xs:=by
 rcases h with(h | ⟨o,h⟩) | h
 ·exact .inl (.inl (e _ _ h))
 ·exact .inl (.inr ⟨o,e _ _ h⟩)
 ·exact .inr h
theorem Zn.sq{K:PySem.W.Frag}{H:Hp}{a:Addr}{ts:List Addr}{z:List (Int×Int)}(h:Zn H a ts z):aH K H a (ts.map V.ref):=aH.of h.l
section
variable{X:Cx}{K:PySem.W.Frag}
theorem JX(h:X.K=K):jB X (oZ K):=h▸cQ
end
section
variable{K:PySem.W.Frag}{ta:TA}{tl:TE}{g:TG}{tb:TS}{D:Ends}{σ:St}{H:Hp}
theorem rl(a:Addr)(xs:List V)(Pv:Nat->St->Hp->Prop)(j5:∀Q:VK,Q (.ref a) H->tl σ H Q)(cE:aH K H a xs)(h0:Pv 0 σ H)(hl:∀i σ H,i<=xs.length->Pv i σ H->aH K H a xs)
  (hs:∀i x σ H (N:St->Hp->Prop),(∀σ H,Pv (i+1) σ H->N σ H)->xs[i]? = some x->Pv i σ H->g x σ H λaD H2=>tb { D with nx:=N,ct:=N,bk:=D.nx } aD H2) (hd:∀σ H,Pv xs.length σ H->D.nx σ H):iA (oK K tl) g tb D σ H :=
 SW a xs j5 cE Pv h0 hl (λi x σ H hx p=>hs i x σ H _ (λ_ _ z=>z) hx p) hd
theorem Cg(n:Nat)(Pv:Nat->St->Hp->Prop)(dY:∀Q:List V->Hp->Prop,Q [.int (n:Int)] H->ta σ H Q)(hn:n<1000000000)(h0:Pv 0 σ H)
  (hs:∀i σ H (N:St->Hp->Prop),(∀σ H,Pv (i+1) σ H->N σ H)->i<n->Pv i σ H->g (.int (i:Int)) σ H λaD H2=>tb { D with nx:=N,ct:=N,bk:=D.nx } aD H2) (hd:∀σ H,Pv n σ H->D.nx σ H):iA (qy ta) g tb D σ H :=
 SS n dY hn Pv h0 (λi σ H hx p=>hs i σ H _ (λ_ _ z=>z) hx p) hd
theorem lq(lo hi:Int)(Pv:Nat->St->Hp->Prop)(dY:∀Q:List V->Hp->Prop,Q [.int lo,.int hi] H->ta σ H Q)(b1 : -1000000000000<lo)(b2:lo<1000000000000)(b3 : -1000000000000<hi)(b4:hi<1000000000000)(h0:Pv 0 σ H)
  (hs:∀i σ H (N:St->Hp->Prop),(∀σ H,Pv (i+1) σ H->N σ H)->i<(hi - lo).toNat->Pv i σ H->g (.int (lo+(i:Int))) σ H λaD H2=>tb { D with nx:=N,ct:=N,bk:=D.nx } aD H2) (hd:∀σ H,Pv (hi - lo).toNat σ H->D.nx σ H):iA (qz ta) g tb D σ H :=
 SV lo hi dY b1 b2 b3 b4 Pv h0 (λi σ H hx p=>hs i σ H _ (λ_ _ z=>z) hx p) hd
theorem JY(n:Int)(Pv:Nat->St->Hp->Prop)(dY:∀Q:List V->Hp->Prop,Q [.int n] H->ta σ H Q)(h0' : -1000000000000<n)(hn:n<1000000000000)(h0:Pv 0 σ H)
  (hs:∀i σ H (N:St->Hp->Prop),(∀σ H,Pv (i+1) σ H->N σ H)->i<n.toNat->Pv i σ H->g (.int (i:Int)) σ H λaD H2=>tb { D with nx:=N,ct:=N,bk:=D.nx } aD H2) (hd:∀σ H,Pv n.toNat σ H->D.nx σ H):iA (qy ta) g tb D σ H:=by
 refine dY _ ⟨n,rfl,by lia,by lia,?_⟩
 refine AW Pv h0 (λi σ H hi p=>?_) hd;have e2:(0:Int)+(i:Int)=i:=by lia
 rw[e2];exact hs i σ H _ (λ_ _ z=>z) hi p
theorem re(a:Addr)(xs:List V)(Pv:Nat->St->Hp->Prop)(dY:∀Q:List V->Hp->Prop,Q [.ref a] H->ta σ H Q)(cE:aH K H a xs)(h0:Pv 0 σ H)(hl:∀i σ H,i<=xs.length->Pv i σ H->aH K H a xs)
  (hs:∀i x σ H T (N:St->Hp->Prop),(∀σ H,Pv (i+1) σ H->N σ H)->xs[i]? = some x->Pv i σ H->H T=none->g (.ref T) σ (upd H T (.tup [.int i,x])) λaD H2=>tb { D with nx:=N,ct:=N,bk:=D.nx } aD H2) (hd:∀σ H,Pv xs.length σ H->D.nx σ H):iA (vC K ta) g tb D σ H :=
 SX a xs dY cE Pv h0 hl (λi x σ H T hx p hT=>hs i x σ H T _ (λ_ _ z=>z) hx p hT) hd
noncomputable def mY(K:PySem.W.Frag)(a:Addr)(g:TG)(tb:TS)(D:Ends)(σ:St)(H:Hp):Prop:=(∃xs,aH K H a xs)/\∃W:Nat->Nat->St->Hp->Prop,(∃m,W 0 m σ H)/\∀i m σ H,W i m σ H->
 ((kR K a).stop i H/\D.nx σ H)\/((kR K a).go i H/\∃N:St->Hp->Prop,(∀aR H',N aR H'->∃m',m' < m/\W (i+1) m' aR H')/\∀x H',(kR K a).jx i H x H'->g x σ H' λaD H2=>tb { D with nx:=N,ct:=N,bk:=D.nx } aD H2)
theorem vF(h:tl σ H λx H1=>∃a,x = .ref a/\mY K a g tb D σ H1):iA (oK K tl) g tb D σ H:=h
theorem mY.by(a:Addr)(xs:List V)(Pv:Nat->St->Hp->Prop)(cE:aH K H a xs)(h0:Pv 0 σ H)(hl:∀i σ H,i<=xs.length->Pv i σ H->aH K H a xs)
  (hs:∀i x σ H (N:St->Hp->Prop),(∀σ H,Pv (i+1) σ H->N σ H)->xs[i]? = some x->Pv i σ H->g x σ H λaD H2=>tb { D with nx:=N,ct:=N,bk:=D.nx } aD H2) (hd:∀σ H,Pv xs.length σ H->D.nx σ H):mY K a g tb D σ H :=
 ⟨⟨xs,cE⟩,Iv Pv h0 hl (λi x σ H hx p=>hs i x σ H _ (λ_ _ z=>z) hx p) hd⟩
variable{tt:TT}{te:TE}{nt:Nat}{fv:List Nat}{Q:VK}
theorem JZ(lo hi:Int)(Pv:Addr->Nat->List V->St->Hp->Prop)(dY:∀Q:List V->Hp->Prop,Q [.int lo,.int hi] H->ta σ H Q)(b1 : -1000000000000<lo)(b2:lo<1000000000000)(b3 : -1000000000000<hi)(b4:hi<1000000000000)
  (h0:∀D,H D=none->Pv D 0 [] (gH σ nt fv) (upd H D (.lst []))) (hD:∀D i ys σ H,Pv D i ys σ H->H D=some (.lst ys)/\ys.length<sizeLine)
  (hs:∀D i ys aD H2 (N:List V->St->Hp->Prop),(∀ys σ H,Pv D (i+1) ys σ H->N ys σ H)->i<(hi - lo).toNat->Pv D i ys aD H2->g (.int (lo+(i:Int))) aD H2 λbU H4=>tt bU H4 λb H5=>if b=true then te bU H5 λv H6=>H6 D=some (.lst ys)/\N (ys++[v]) bU (upd H6 D (.lst (ys++[v]))) else N ys bU H5)
  (hd:∀D ys aD H2,Pv D (hi - lo).toNat ys aD H2->Q (.ref D) H2):jZ (qz ta) g tt te nt fv σ H Q :=
 SY lo hi dY b1 b2 b3 b4 Pv h0 hD (λD i ys aD H2 hi p=>hs D i ys aD H2 _ (λ_ _ _ z=>NX.of hi z) hi p) hd
theorem J0(a:Addr)(xs:List V)(Pv:Addr->Nat->List V->St->Hp->Prop)(j5:∀Q:VK,Q (.ref a) H->tl σ H Q)(cE:aH K H a xs)
  (h0:∀D,H D=none->Pv D 0 [] (gH σ nt fv) (upd H D (.lst []))) (hD:∀D i ys σ H,Pv D i ys σ H->H D=some (.lst ys)/\ys.length<sizeLine/\aH K H a xs)
  (hs:∀D i x ys aD H2 (N:List V->St->Hp->Prop),(∀ys σ H,Pv D (i+1) ys σ H->N ys σ H)->xs[i]? = some x->Pv D i ys aD H2->g x aD H2 λbU H4=>tt bU H4 λb H5=>if b=true then te bU H5 λv H6=>H6 D=some (.lst ys)/\N (ys++[v]) bU (upd H6 D (.lst (ys++[v]))) else N ys bU H5)
  (hd:∀D ys aD H2,Pv D xs.length ys aD H2->Q (.ref D) H2):jZ (oK K tl) g tt te nt fv σ H Q :=
 S0 a xs j5 cE Pv h0 hD (λD i x ys aD H2 hx p=>hs D i x ys aD H2 _ (λ_ _ _ z=>NX.of (List.getElem?_eq_some_iff.mp hx).1 z) hx p) hd
end
theorem j7{K:PySem.W.Frag}{H:Hp}{σ:St}{t:Addr}{x y:V}{n i j:Nat}{Q:St->Hp->Prop}(h:bA K H t [x,y])(hn:2=n)(q:Q ((σ.set i (some x)).set j (some y)) H):qt K n (qq (kQ i) (qq (kQ j) uY)) (.ref t) σ H Q :=
 ⟨t,[x,y],rfl,h,hn,x,[y],rfl,y,[],rfl,rfl,q⟩
theorem lenZ{ts:List Addr}{z:List (Int×Int)}(h:ts.length=z.length):(ts.map V.ref).length=z.length:=by simpa using h
theorem Zn.snoc{H:Hp}{l p:Addr}{ts:List Addr}{z:List (Int×Int)}(h:Zn H l ts z)(hp:H p=none)(a b:Int):Zn (upd (upd H p (.tup [.int a,.int b])) l (.lst (ts.map V.ref++[V.ref p]))) l (ts++[p]) (z++[(a,b)]):=by
 have jD:l≠p:=bK h.l hp;refine⟨by rw[aB,List.map_append];rfl,by simp[h.n],λi t q e1 e2=>?_⟩
 have hn:=h.n;by_cases hi:i<ts.length
 ·rw[List.getElem?_append_left hi] at e1;rw[List.getElem?_append_left (by lia)] at e2
  have ht:=h.t i t q e1 e2;rw[au (fZ ht h.l (by intro z;cases z)),au (bK ht hp)]
  exact ht
 ·rw[List.getElem?_append_right (by lia)] at e1
  rw[List.getElem?_append_right (by lia)] at e2
  have jE:i - ts.length=0:=by
   have:=S3 e1;simp at this;lia
  rw[jE] at e1;rw[← hn,jE] at e2;simp at e1 e2;subst e1 e2;rw[au jD.symm,aB]
noncomputable def Ci(t:TS):TS:=λD σ H=>∃M:St->Hp->Prop,t { D with nx:=M } σ H/\∀iy H1,M iy H1->D.nx iy H1
theorem lz{X:Cx}{st:Stmt}{t:TS}(h:PS X st t):PS X st (Ci t):=by
 rintro pins s σ H D I ⟨M,hM,k⟩;refine aN (h pins s σ H _ I hM) λf s1 q=>?_;cases f with
 | next=>obtain⟨iy,H1,I1,q⟩:=q;exact⟨iy,H1,I1,k _ _ q⟩
 | brk=>exact q
 | cont=>exact q
 | ret u=>exact q
noncomputable def S4(K:PySem.W.Frag):Sp:=λvs H Q _=>∃(a:Addr) (ts:List Addr) (z:List (Int×Int)),vs = [.ref a]/\Zn H a ts z/\lg z/\∀H',ah H H'->Q .aG H'
noncomputable def S5(K:PySem.W.Frag):Sp:=λvs H Q _=>∃(a:Addr) (ts:List Addr) (z:List (Int×Int)) (aW cj:Int),vs = [.ref a,.int aW,.int cj]/\Zn H a ts z/\lg z/\1<=aW/\aW<=1000000000/\0<=cj/\cj<aW/\
 (∀p∈z,aW % p.2=0)/\Q .aG H
noncomputable def S6(K:PySem.W.Frag):Sp:=λvs H Q _=>∃(a:Addr) (sw:List Int) (n:Int),vs = [.ref a,.int n]/\aH K H a (sw.map V.int)/\SwOk sw n/\n<=1000/\Q .aG H
noncomputable def S7(K:PySem.W.Frag):Sp:=λvs H Q _=>∃(a:Addr) (sw:List Int) (n:Int),vs = [.ref a]/\aH K H a (sw.map V.int)/\SwOk sw n/\n<=1000/\Q .aG H
noncomputable def J5(K:PySem.W.Frag):Sp:=λvs H Q _=>∃(a:Addr) (ts:List Addr) (z:List (Int×Int)),vs = [.ref a]/\Zn H a ts z/\lg z/\
 ∀l H',ah H H'->H l=none->H' l=some (.lst ((counts z).map V.int))->Q (.ref l) H'
noncomputable def S8(K:PySem.W.Frag):Sp:=λvs H Q _=>∃(a:Addr) (rc:List Int) (s:Int),vs = [.ref a,.int s]/\aH K H a (rc.map V.int)/\rc.length<=1000/\(∀c∈rc,0<=c/\c<=1000)/\0<=s/\s<=1000/\
 ∀l ts H',ah H H'->H l=none->(∀t∈ts,H t=none)->Zn H' l ts (dJ rc s)->Q (.ref l) H'
noncomputable def S9(K:PySem.W.Frag):Sp:=λvs H Q _=>∃(a:Addr) (ts:List Addr) (z:List (Int×Int)),vs = [.ref a]/\Zn H a ts z/\z.length<=1000000/\
 ∀d H',ah H H'->H d=none->H' d=some (.dT (Cd z))->Q (.ref d) H'
structure Pl where
 rc:List Int
 aW:Int
 cj:Int
 sw:List Int
 nc:List (Int×Int)
structure CP(K:PySem.W.Frag)(C:Addr):Prop where
 cl:eg K C
 n1:bM K C "ring_cells"
 n2:bM K C "lap"
 n3:bM K C "skew"
 n4:bM K C "swing"
 n5:bM K C "number_cells"
 n6:bM K C "cell_numbers"
noncomputable def pq(a1:Addr)(aW cj:Int)(a2 a3 a4:Addr):List (Str×V):=[("ring_cells",.ref a1),("lap",.int aW),("skew",.int cj),("swing",.ref a2),("number_cells",.ref a3),("cell_numbers",.ref a4)]
structure j8(K:PySem.W.Frag)(C:Addr)(H:Hp)(p:Addr)(P:Pl)(dx a1 a2 a3 a4:Addr)(ts:List Addr)(fs:List (Str×V)):Prop where
 cp:CP K C
 o:H p=some (.ins C dx fs)
 f1:fs.lookup ("ring_cells" : Str)=some (.ref a1)
 f2:fs.lookup ("lap" : Str)=some (.int P.aW)
 f3:fs.lookup ("skew" : Str)=some (.int P.cj)
 f4:fs.lookup ("swing" : Str)=some (.ref a2)
 f5:fs.lookup ("number_cells" : Str)=some (.ref a3)
 f6:fs.lookup ("cell_numbers" : Str)=some (.ref a4)
 m1:fs.lookup ("rings" : Str)=none
 m2:fs.lookup ("total" : Str)=none
 m3:fs.lookup ("cells_of" : Str)=none
 m4:fs.lookup ("beats_of" : Str)=none
 m5:fs.lookup ("lap_beats" : Str)=none
 m6:fs.lookup ("begins" : Str)=none
 m7:fs.lookup ("swing_of" : Str)=none
 m8:fs.lookup ("has_cell" : Str)=none
 m9:fs.lookup ("cell_at" : Str)=none
 mZ:fs.lookup ("number_of" : Str)=none
 m_:fs.lookup ("laid" : Str)=none
 rc:H a1=some (.lst (P.rc.map V.int))
 sw:H a2=some (.lst (P.sw.map V.int))
 nc:Zn H a3 ts P.nc
 cn:H a4=some (.dT (Cd P.nc))
theorem j8.lit{K:PySem.W.Frag}{C:Addr}{H:Hp}{p:Addr}{P:Pl}{dx a1 a2 a3 a4:Addr}{ts:List Addr}(cp:CP K C)(o:H p=some (.ins C dx (pq a1 P.aW P.cj a2 a3 a4)))(rc:H a1=some (.lst (P.rc.map V.int)))(sw:H a2=some (.lst (P.sw.map V.int)))
  (nc:Zn H a3 ts P.nc) (cn:H a4=some (.dT (Cd P.nc))):j8 K C H p P dx a1 a2 a3 a4 ts (pq a1 P.aW P.cj a2 a3 a4):=by
 refine⟨cp,o,?_,?_,?_,?_,?_,?_,?_,?_,?_,?_,?_,?_,?_,?_,?_,?_,?_,rc,sw,nc,cn⟩ <;> simp[pq,List.lookup_cons,gK]
noncomputable def dI(K:PySem.W.Frag)(C:Addr)(H:Hp)(p:Addr)(P:Pl)(fp:List Addr):Prop:=∃dx a1 a2 a3 a4 ts fs,fp=a1::a2::a3::a4::ts/\j8 K C H p P dx a1 a2 a3 a4 ts fs
theorem Zn.keep{H H':Hp}{a:Addr}{ts:List Addr}{z:List (Int×Int)}(h:Zn H a ts z)(ha:H' a=H a)(ht:∀t∈ts,H' t=H t):Zn H' a ts z :=
 ⟨ha.trans h.l,h.n,λi t p e1 e2=>(ht t (List.mem_of_getElem? e1)).trans (h.t i t p e1 e2)⟩
theorem Zn.has{H:Hp}{a:Addr}{ts:List Addr}{z:List (Int×Int)}(h:Zn H a ts z){t:Addr}(ht:t∈ts):∃o,H t=some o:=by
 obtain⟨i,hi,rfl⟩:=List.mem_iff_getElem.mp ht;have hz:i<z.length:=by rw[← h.n];exact hi
 exact⟨_,h.t i _ _ (List.getElem?_eq_getElem hi) (List.getElem?_eq_getElem hz)⟩
section
variable{K:PySem.W.Frag}{C:Addr}{H H':Hp}{p x:Addr}{P:Pl}{fp:List Addr}
theorem j8.move{dx a1 a2 a3 a4:Addr}{ts:List Addr}{fs:List (Str×V)}(h:j8 K C H p P dx a1 a2 a3 a4 ts fs)(ho:H' p=H p)(h1:H' a1=H a1)(h2:H' a2=H a2)(h3:H' a3=H a3)(h4:H' a4=H a4)(ht:∀t∈ts,H' t=H t):j8 K C H' p P dx a1 a2 a3 a4 ts fs :=
 { h with o:=ho.trans h.o,rc:=h1.trans h.rc,sw:=h2.trans h.sw,nc:=h.nc.keep h3 ht,cn:=h4.trans h.cn }
theorem dI.keep(h:dI K C H p P fp)(hp:H' p=H p)(e:∀b∈fp,H' b=H b):dI K C H' p P fp:=by
 obtain⟨dx,a1,a2,a3,a4,ts,fs,rfl,h⟩:=h;exact⟨dx,a1,a2,a3,a4,ts,fs,rfl,h.move hp (e a1 (by simp)) (e a2 (by simp)) (e a3 (by simp)) (e a4 (by simp)) λt ht=>e t (by simp[ht])⟩
theorem dI.has(h:dI K C H p P fp){b:Addr}(hb:b∈fp):∃o,H b=some o:=by
 obtain⟨S_,a1,a2,a3,a4,ts,fs,rfl,h⟩:=h;simp only[List.mem_cons] at hb;rcases hb with rfl | rfl | rfl | rfl | hb
 ·exact⟨_,h.rc⟩
 ·exact⟨_,h.sw⟩
 ·exact⟨_,h.nc.l⟩
 ·exact⟨_,h.cn⟩
 ·exact h.nc.has hb
theorem dI.here(h:dI K C H p P fp):∃o,H p=some o:=by
 obtain⟨S_,a1,a2,a3,a4,ts,fs,rfl,h⟩:=h;exact⟨_,h.o⟩
theorem dI.same(h:dI K C H p P fp)(s:ah H H'):dI K C H' p P fp:=by
 refine h.keep ?_ λb hb=>?_
 ·obtain⟨o,e⟩:=h.here;rw[e];exact s _ _ e
 ·obtain⟨o,e⟩:=h.has hb;rw[e];exact s _ _ e
noncomputable def SameBut(x:Addr)(H H':Hp):Prop:=∀b o,H b=some o->b≠x->H' b=some o
theorem SameBut.put{o:HO}(s:SameBut x H H'):SameBut x H (upd H' x o):=λb u e h=>by rw[au h];exact s b u e h
theorem SameBut.step{H1 H2:Hp}(s:SameBut x H H1)(t:ah H1 H2):SameBut x H H2:=λb u e h=>t _ _ (s b u e h)
theorem SameBut.of(s:ah H H'):SameBut x H H':=λb u e _=>s _ _ e
end
theorem Tc(ns:List Int)(lo hi:Option Int):∃ms:List Int,oX (ns.map V.int) lo hi=ms.map V.int/\ms.length<=ns.length:=by
 refine⟨(ns.drop (_H.e8 (ns.map V.int).length 0 lo)).take (_H.e8 (ns.map V.int).length (ns.map V.int).length hi - _H.e8 (ns.map V.int).length 0 lo),?_,?_⟩
 ·unfold oX;rw[List.map_take,List.map_drop]
 ·rw[List.length_take,List.length_drop];lia
noncomputable def Td(K:PySem.W.Frag):Sp:=λvs H Q _=>∃(C p dx za sa:Addr) (fF:List Addr) (z:List (Int×Int)) (aW cj:Int) (sw:List Int),vs = [.ref p,.ref za,.int aW,.int cj,.ref sa]/\CP K C/\H p=some (.ins C dx [])/\Zn H za fF z/\lg z/\
 1<=aW/\aW<=1000000000/\0<=cj/\cj<aW/\(∀p∈z,aW % p.2=0)/\aH K H sa (sw.map V.int)/\SwOk sw (z.map (·.1)).sum/\
 ∀H' dx a1 a2 a3 a4 ts,SameBut p H H'->(∀b∈a1::a2::a3::a4::ts,H b=none)->H' p=some (.ins C dx (pq a1 aW cj a2 a3 a4))->j8 K C H' p ⟨counts z,aW,cj,sw,dJ (counts z) 0⟩ dx a1 a2 a3 a4 ts (pq a1 aW cj a2 a3 a4)->Q .aG H'
noncomputable def Te(K:PySem.W.Frag):Sp:=λvs H Q _=>∃(C p:Addr) (P:Pl) (fp:List Addr),vs = [.ref p]/\dI K C H p P fp/\Q (.int P.rc.length) H
noncomputable def Tf(K:PySem.W.Frag):Sp:=λvs H Q _=>∃(C p:Addr) (P:Pl) (fp:List Addr),vs = [.ref p]/\dI K C H p P fp/\Q (.int P.nc.length) H
noncomputable def Tg(K:PySem.W.Frag):Sp:=λvs H Q _=>∃(C p:Addr) (P:Pl) (fp:List Addr) (r c:Int),vs = [.ref p,.int r,.int c]/\dI K C H p P fp/\Q (.bl (decide (0<=r/\r<P.rc.length/\0<=c/\c<P.rc.getD r.toNat 0))) H
inductive Dt where
 | aG | bl (b:Bool) | int (i:Int) | str (s:Str) | tup (xs:List Dt) | lst (xs:List Dt)
inductive Rep (H:Hp):Nat->V->Dt->Prop where
 | aG {n:Nat}:Rep H n .aG .aG
 | bl {n:Nat} (b:Bool):Rep H n (.bl b) (.bl b)
 | int {n:Nat} (i:Int):Rep H n (.int i) (.int i)
 | str {n:Nat} (s:Str):Rep H n (.str s) (.str s)
 | tup {n:Nat} {a:Addr} {xs:List V} {ds:List Dt} (h:H a=some (.tup xs)) (l:xs.length=ds.length) (hl:ds.length<=1000000) (r:∀(i:Nat) (x:V) (d:Dt),xs[i]? = some x->ds[i]? = some d->Rep H n x d):Rep H (n+1) (.ref a) (.tup ds)
 | lst {n:Nat} {a:Addr} {xs:List V} {ds:List Dt} (h:H a=some (.lst xs)) (l:xs.length=ds.length) (hl:ds.length<=1000000) (r:∀(i:Nat) (x:V) (d:Dt),xs[i]? = some x->ds[i]? = some d->Rep H n x d):Rep H (n+1) (.ref a) (.lst ds)
theorem Rep.same{H H':Hp}(s:ah H H'){n:Nat}{v:V}{d:Dt}(h:Rep H n v d):Rep H' n v d:=by
 induction h with
 | aG=>exact .aG
 | bl b=>exact .bl b
 | int i=>exact .int i
 | str x=>exact .str x
 | tup h l hl _ ih=>exact .tup (s _ _ h) l hl ih
 | lst h l hl _ ih=>exact .lst (s _ _ h) l hl ih
noncomputable def J6:Nat->Sp
 | 0=>λ_ _ _ _=>False
 | n+1=>λvs H Q _=>∃(v1 v2:V) (d:Dt),vs = [v1,v2]/\Rep H n v1 d/\Rep H n v2 d/\∀H',ah H H'->Q (.bl true) H'
noncomputable def Ti(K:PySem.W.Frag):Sp:=J6 5
noncomputable def ng(a b:Int):List (Int×Int) :=
 if mix b 9 % 8=0 then [(2+mix a 9 % 2,1+mix b 8 % 60)]
 else(2+mix a 2 % 2,1+mix b 0 % 8)::(List.range ((if mix a 1 % 9=0 then 5 else 1+mix a 0 % 3) - 1).toNat).map λ(k:Nat)=>(1+mix a (2+(1+(k:Int))) % 3,1+mix b (1+(k:Int)) % 8)
noncomputable def dB(z:List (Int×Int)):Int:=z.foldl (λp x=>p*x.2) 1
noncomputable def ni(z:List (Int×Int))(c:Int):Int:=dB z*(1+mix c 1 % (if mix c 0 % 9=0 then 1000000000 / dB z else 900))
noncomputable def c7(c s0:Int):Nat->Int
 | 0=>s0
 | i+1=>c7 c s0 i - mix c (2+(i:Int)+2) % (c7 c s0 i+1) / 2
noncomputable def ez(c s0:Int):Nat->Int
 | 0=>0
 | i+1=>ez c s0 i+c7 c s0 i
theorem nj(c:Int){s0:Int}(h:1<=s0):∀i,1<=c7 c s0 i/\c7 c s0 i<=s0
 | 0=>⟨h,Int.le_refl _⟩
 | i+1=>by
  have ih:=nj c h i;have h1:=Int.emod_nonneg (mix c (2+(i:Int)+2)) (show c7 c s0 i+1≠0 by lia)
  have h2:=Int.emod_lt_of_pos (mix c (2+(i:Int)+2)) (show 0<c7 c s0 i+1 by lia)
  rw[c7];generalize mix c (2+(i:Int)+2) % (c7 c s0 i+1)=m at h1 h2 ⊢;lia
theorem Tj(c:Int){s0:Int}(h:1<=s0)(i:Nat):c7 c s0 (i+1)<=c7 c s0 i:=by
 have ih:=nj c h i;have h1:=Int.emod_nonneg (mix c (2+(i:Int)+2)) (show c7 c s0 i+1≠0 by lia)
 rw[c7];generalize mix c (2+(i:Int)+2) % (c7 c s0 i+1)=m at h1 ⊢;lia
theorem Tn(c:Int){s0:Int}(h:1<=s0)(i:Nat):∀j,c7 c s0 (i+j)<=c7 c s0 j
 | 0=>by
  rw[Nat.add_zero];exact(nj c h i).2
 | j+1=>by
  have:∀k,c7 c s0 (j+1+k)<=c7 c s0 (j+1):=by
   intro k
   induction k with
   | zero=>exact Int.le_refl _
   | succ k ih=>exact Int.le_trans (Tj c h (j+1+k)) ih
  rw[Nat.add_comm i (j+1)];exact this i
theorem J7(c:Int){s0:Int}(h:1<=s0)(a:Nat):∀b,ez c s0 (a+b)<=ez c s0 a+ez c s0 b
 | 0=>by simp[ez]
 | b+1=>by
  have ih:=J7 c h a b;have:=Tn c h a b;rw[← Nat.add_assoc,ez,ez];lia
theorem J8(c:Int){s0:Int}(h:1<=s0):∀i:Nat,(i:Int)<=ez c s0 i/\ez c s0 i<=s0*(i:Int)
 | 0=>by simp[ez]
 | i+1=>by
  have ih:=J8 c h i;have h2:=nj c h i;have e:s0*((i+1:Nat):Int)=s0*(i:Int)+s0:=by
   rw[show ((i+1:Nat):Int)=(i:Int)+1 by lia,Int.mul_add,Int.mul_one]
  rw[ez,e];lia
theorem range_getD{f:Nat->Int}{n i:Nat}(h:i<n):((List.range n).map f).getD i 0=f i:=by
 simp[List.getD_eq_getElem?_getD,h]
theorem J9(c:Int){s0:Int}(h:1<=s0)(h7:s0<=10000000){n:Nat}(h2:2<=n)(acI:n<=100):SwOk ((List.range n).map (ez c s0)) (n:Int):=by
 refine⟨by simp,by lia,by rw[range_getD (by lia)];rfl,λi h1 hi=>?_,λi h1 hi=>?_,λa b ha hb vG=>?_⟩
 ·rw[List.length_map,List.length_range] at hi;rw[range_getD hi];have:=J8 c h i;have e:s0*(i:Int)<=10000000*(i:Int):=Int.mul_le_mul_of_nonneg_right h7 (by lia)
  lia
 ·rw[List.length_map,List.length_range] at hi;rw[range_getD hi,range_getD (by lia)]
  obtain⟨j,rfl⟩:∃j,i=j+1:=⟨i - 1,by lia⟩
  have:=nj c h j;rw[ez];show ez c s0 j<=_;lia
 ·rw[List.length_map,List.length_range] at vG;rw[range_getD vG,range_getD (by lia),range_getD (by lia)]
  exact J7 c h a b
theorem To{L:Int}(h:1<=L)(h8:L<=100000000){ns:List Int}(hb:∀x∈ns,L<=x/\x<=2*L)(hp:ns.Pairwise (·<=·))(h1:1<=ns.length):SwOk (0::ns) ((ns.length+1:Nat):Int):=by
 have at_:∀i:Nat,1<=i->i<(0::ns).length->∃hi:i - 1<ns.length,(0::ns).getD i 0=ns[i - 1]:=λi h1 hi=>by
  obtain⟨j,rfl⟩:∃j,i=j+1:=⟨i - 1,by lia⟩
  have hj:j<ns.length:=by simpa using hi
  exact⟨hj,by simp[List.getD_eq_getElem?_getD,List.getElem?_eq_getElem hj]⟩
 refine⟨by simp,by lia,rfl,λi h1 hi=>?_,λi h1 hi=>?_,λa b ha j9 vG=>?_⟩
 ·obtain⟨hj,e⟩:=at_ i h1 hi;have:=hb _ (List.getElem_mem hj);rw[e];lia
 ·obtain⟨hj,e⟩:=at_ i h1 hi;rw[e];by_cases h2:i=1
  ·subst h2;have:=hb _ (List.getElem_mem hj)
   show (0:Int)<=_;lia
  ·obtain⟨Tp,e2⟩:=at_ (i - 1) (by lia) (by lia)
   rw[e2];exact List.pairwise_iff_getElem.mp hp _ _ Tp hj (by lia)
 ·obtain⟨h1,e1⟩:=at_ (a+b) (by lia) vG
  obtain⟨h2,e2⟩:=at_ a ha (by lia)
  obtain⟨h3,e3⟩:=at_ b j9 (by lia)
  have:=hb _ (List.getElem_mem h1);have:=hb _ (List.getElem_mem h2);have:=hb _ (List.getElem_mem h3);rw[e1,e2,e3];lia
structure ZL(z:List (Int×Int)):Prop where
 ok:lg z
 pr:dB z<=32768
 sm:(z.map (·.1)).sum<=15
theorem prodF(z:List (Int×Int)):∀p:Int,z.foldl (λp x=>p*x.2) p=p*dB z:=by
 induction z with
 | nil=>intro p;simp[dB]
 | cons x z ih =>
  intro p;rw[dB,List.foldl_cons,List.foldl_cons,ih,ih (1*x.2),Int.one_mul,Int.mul_assoc]
theorem Cj(x:Int×Int)(z:List (Int×Int)):dB (x::z)=x.2*dB z:=by
 rw[dB,List.foldl_cons,prodF,Int.one_mul]
theorem Tq(x:Int×Int)(z:List (Int×Int)):dB (z++[x])=dB z*x.2:=by
 rw[dB,List.foldl_append];rfl
theorem vH{m:Int}(hm:1<=m):∀z:List (Int×Int),(∀p∈z,1<=p.2/\p.2<=m)->1<=dB z/\dB z<=m ^ z.length
 | [],_=>by simp[dB]
 | x::z,h=>by
  have ih:=vH hm z λp hp=>h p (List.mem_cons_of_mem _ hp);have hx:=h x List.mem_cons_self;rw[Cj,List.length_cons,Int.pow_succ,Int.mul_comm (m ^ z.length)];constructor
  ·have:=Int.mul_le_mul hx.1 ih.1 (by decide) (by lia)
   lia
  ·exact Int.mul_le_mul hx.2 ih.2 (by lia) (by lia)
theorem J_{x:Int×Int}:∀ {z:List (Int×Int)},x∈z->x.2 ∣ dB z
 | y::z,h=>by
  rw[Cj];rcases List.mem_cons.mp h with rfl | h
  ·exact Int.dvd_mul_right _ _
  ·exact Int.dvd_trans (J_ h) (Int.dvd_mul_left _ _)
theorem Ka{m:Int}(hm:1<=m){a b:Nat}(h:a<=b):m ^ a<=m ^ b:=by
 induction h with
 | refl=>exact Int.le_refl _
 | @step b h ih =>
  rw[Int.pow_succ];have h1:1<=m ^ b:=by
   clear ih h
   induction b with
   | zero=>simp
   | succ b ih =>
    rw[Int.pow_succ];have:=Int.mul_le_mul ih hm (by decide) (by lia)
    lia
  have:=Int.mul_le_mul (Int.le_refl (m ^ b)) hm (by decide) (by lia)
  lia
theorem Kc{f:Nat->Int}{lo hi:Int}(h:∀k,lo<=f k/\f k<=hi):∀n:Nat,lo*n<=((List.range n).map f).sum/\((List.range n).map f).sum<=hi*n
 | 0=>by simp
 | n+1=>by
  have ih:=Kc h n;have:=h n;rw[List.range_succ,List.map_append,List.sum_append];simp only[List.map_cons,List.map_nil,List.sum_cons,List.sum_nil];have e1:lo*((n+1:Nat):Int)=lo*n+lo:=by rw[show ((n+1:Nat):Int)=(n:Int)+1 by lia,Int.mul_add,Int.mul_one]
  have e2:hi*((n+1:Nat):Int)=hi*n+hi:=by rw[show ((n+1:Nat):Int)=(n:Int)+1 by lia,Int.mul_add,Int.mul_one]
  rw[e1,e2];lia
theorem Tr(a b:Int):ZL (ng a b):=by
 unfold ng;by_cases h:mix b 9 % 8=0
 ·rw[if_pos h];have h1:0<=mix a 9 % 2/\mix a 9 % 2<2:=⟨Int.emod_nonneg _ (by decide),Int.emod_lt_of_pos _ (by decide)⟩
  have h2:0<=mix b 8 % 60/\mix b 8 % 60<60:=⟨Int.emod_nonneg _ (by decide),Int.emod_lt_of_pos _ (by decide)⟩
  refine⟨⟨by simp,by simp,?_,?_,?_⟩,?_,?_⟩
  ·intro p hp;rw[List.mem_singleton.mp hp];dsimp only;lia
  ·simp;lia
  ·simp;lia
  ·rw[Cj];simp[dB];lia
  ·simp;lia
 ·rw[if_neg h];generalize hm:(if mix a 1 % 9=0 then(5:Int) else 1+mix a 0 % 3)=m
  have j_:1<=m/\m<=5:=by
   have h1:0<=mix a 0 % 3/\mix a 0 % 3<3:=⟨Int.emod_nonneg _ (by decide),Int.emod_lt_of_pos _ (by decide)⟩
   rw[← hm];split <;> lia
  have h1:0<=mix a 2 % 2/\mix a 2 % 2<2:=⟨Int.emod_nonneg _ (by decide),Int.emod_lt_of_pos _ (by decide)⟩
  have h2:0<=mix b 0 % 8/\mix b 0 % 8<8:=⟨Int.emod_nonneg _ (by decide),Int.emod_lt_of_pos _ (by decide)⟩
  have h3:∀k:Nat,0<=mix a (2+(1+(k:Int))) % 3/\mix a (2+(1+(k:Int))) % 3<3:=λk=>⟨Int.emod_nonneg _ (by decide),Int.emod_lt_of_pos _ (by decide)⟩
  have h4:∀k:Nat,0<=mix b (1+(k:Int)) % 8/\mix b (1+(k:Int)) % 8<8:=λk=>⟨Int.emod_nonneg _ (by decide),Int.emod_lt_of_pos _ (by decide)⟩
  have vq:∀p∈((2+mix a 2 % 2,1+mix b 0 % 8)::(List.range (m - 1).toNat).map λ(k:Nat)=>(1+mix a (2+(1+(k:Int))) % 3,1+mix b (1+(k:Int)) % 8)),1<=p.1/\p.1<=3/\1<=p.2/\p.2<=8:=by
   intro p hp;rcases List.mem_cons.mp hp with rfl | hp
   ·dsimp only;lia
   ·obtain⟨k,_,rfl⟩:=List.mem_map.mp hp;have:=h3 k;have:=h4 k;dsimp only;lia
  have hlen:((2+mix a 2 % 2,1+mix b 0 % 8)::(List.range (m - 1).toNat).map λ(k:Nat)=>(1+mix a (2+(1+(k:Int))) % 3,1+mix b (1+(k:Int)) % 8)).length=m.toNat:=by
   simp;lia
  have acJ:=Kc (f:=λ(k:Nat)=>1+mix a (2+(1+(k:Int))) % 3) (lo:=1) (hi:=3) (λk=>by have:=h3 k;lia) (m - 1).toNat
  have hs:(((2+mix a 2 % 2,1+mix b 0 % 8)::(List.range (m - 1).toNat).map λ(k:Nat)=>(1+mix a (2+(1+(k:Int))) % 3,1+mix b (1+(k:Int)) % 8)).map (·.1)).sum=2+mix a 2 % 2+((List.range (m - 1).toNat).map λ(k:Nat)=>1+mix a (2+(1+(k:Int))) % 3).sum:=by
   rw[List.map_cons,List.sum_cons,List.map_map];rfl
  refine⟨⟨by rw[hlen];lia,by rw[hlen];lia,λp hp=>?_,?_,?_⟩,?_,?_⟩
  ·have:=vq p hp;lia
  ·rw[hs];lia
  ·rw[hs];lia
  ·have hb:=(vH (m:=8) (by decide) _ λp hp=>(vq p hp).2.2).2
   rw[hlen] at hb;have:=Ka (m:=8) (by decide) (show m.toNat<=5 by lia)
   have e:(8:Int) ^ 5=32768:=by decide
   lia
  ·rw[hs];lia
theorem Tt{z:List (Int×Int)}(h:ZL z)(c:Int):1<=ni z c/\ni z c<=1000000000/\∀p∈z,ni z c % p.2=0:=by
 have hb:=vH (m:=60) (by decide) z λp hp=>(h.ok.r p hp).2.2
 have hp:=h.pr;refine⟨?_,?_,λp hp=>Int.emod_eq_zero_of_dvd (Int.dvd_trans (J_ hp) (Int.dvd_mul_right _ _))⟩
 all_goals
  unfold ni;generalize hm:(if mix c 0 % 9=0 then 1000000000 / dB z else 900)=m
  have j_:1<=m/\dB z*m<=1000000000:=by
   rw[← hm];split
   ·constructor
    ·exact(Int.le_ediv_iff_mul_le (by lia)).mpr (by lia)
    ·exact Int.mul_ediv_self_le (by lia)
   ·exact⟨by decide,by lia⟩
  have h1:=Int.emod_nonneg (mix c 1) (show m≠0 by lia)
  have h2:=Int.emod_lt_of_pos (mix c 1) (show 0<m by lia)
  generalize mix c 1 % m=x at h1 h2
  first
  | (have:=Int.mul_le_mul hb.1 (show 1<=1+x by lia) (by decide) (by lia);lia)
  | (have:=Int.mul_le_mul (Int.le_refl (dB z)) (show 1+x<=m by lia) (by lia) (by lia);lia)
noncomputable def Tu(K:PySem.W.Frag):Sp:=λvs H Q _=>∃(a b:Int),vs = [.int a,.int b]/\∀l ts H',ah H H'->H l=none->(∀t∈ts,H t=none)->Zn H' l ts (ng a b)->Q (.ref l) H'
noncomputable def Tv(K:PySem.W.Frag):Sp:=J5 K
noncomputable def Tw(K:PySem.W.Frag):Sp:=λvs H Q _=>∃(a:Addr) (ts:List Addr) (z:List (Int×Int)) (c:Int),vs = [.ref a,.int c]/\Zn H a ts z/\lg z/\Q (.int (ni z c)) H
noncomputable def Tz(K:PySem.W.Frag):Sp:=λvs H Q _=>∃(m c:Int),vs = [.int m,.int c]/\2<=m/\m<=60/\∀l sw H',ah H H'->H l=none->H' l=some (.lst (sw.map V.int))->SwOk sw m->Q (.ref l) H'
theorem ite_no{c A B:Prop}[Decidable c](h:¬ c)(b:B):if c then A else B:=by rw[if_neg h];exact b
theorem ite_yes{c A B:Prop}[Decidable c](h:c)(a:A):if c then A else B:=by rw[if_pos h];exact a
theorem Kd{K:PySem.W.Frag}{x y:V}{H:Hp}{Q:VK}(h:qM K x y H Q):Bl K x y H Q:=.inl h
theorem Ke{K:PySem.W.Frag}{x y:V}{H:Hp}{Q:VK}(h:oZ K x y H Q):Bl K x y H Q:=.inr (.inl h)
noncomputable def gM(H:Hp)(n:Nat):List V->List Dt->Prop
 | [],[]=>True
 | v::vs,d::ds=>Rep H n v d/\gM H n vs ds
 | _,_=>False
theorem gM.len{H:Hp}{n:Nat}:∀ {vs:List V} {ds:List Dt},gM H n vs ds->vs.length=ds.length
 | [],[],_=>rfl
 | _::_,_::_,h=>by rw[List.length_cons,List.length_cons,gM.len h.2]
theorem gM.at{H:Hp}{n:Nat}:∀ {vs:List V} {ds:List Dt} {i:Nat} {x:V} {d:Dt},gM H n vs ds->vs[i]? = some x->ds[i]? = some d->Rep H n x d
 | _::_,_::_,0,_,_,h,e1,e2=>by simp at e1 e2;subst e1 e2;exact h.1
 | _::_,_::_,i+1,_,_,h,e1,e2=>gM.at (i:=i) h.2 (by simpa using e1) (by simpa using e2)
theorem Rep.nq{H:Hp}{n:Nat}{a:Addr}{xs:List V}{ds:List Dt}(h:H a=some (.tup xs))(r:gM H n xs ds)(hl:ds.length<=1000000:=by simp):Rep H (n+1) (.ref a) (.tup ds):=.tup h r.len hl λ_ _ _ e1 e2=>r.at e1 e2
theorem Rep.pA{H:Hp}{n:Nat}{a:Addr}{xs:List V}{ds:List Dt}(h:H a=some (.lst xs))(r:gM H n xs ds)(hl:ds.length<=1000000:=by simp):Rep H (n+1) (.ref a) (.lst ds):=.lst h r.len hl λ_ _ _ e1 e2=>r.at e1 e2
structure Kf(K:PySem.W.Frag)(C:Addr)(m:Str)(f:Addr):Prop where
 ga:PySem.W.specialIn K (.ref C) "__getattribute__" = some (some (.builtin "type.__getattribute__"))
 rd:PySem.W.readsIn K C (.type "type")=true
 at_:PySem.W.findCls K (.ref C) (.type "type") m=some (.val (.ref f))
 kp:PySem.W.keepIn K (.ref f)=true
section
variable{X:Cx}{CX:fE}{k:Nat}{f C:Addr}{fd:FuncData}{ps:List Str}{sp:Sp}{aV:List V}{ds:List Value}{E:XK}{x m:Str}{p pos apos:Pos}{e:Expr}{es:List Expr}{t:TA}
theorem TF{pl:Sem Bool}(hg:Gl X x)(hm:X.mg x=some (.ref C))(c:Kf X.K C m f)(F:aU X.prog X.w X.K X.mg X.base CX k f fd ps sp)(hr:bR k X.A)(hb:Binds X.K fd ps ds)(hd:Vals aV ds)(hx:Passes CX X E)(ha:PA X (e::es) t)
  (bX:starEach (e::es) X.env=(false,eval e X.env)::starEach es X.env:=by rfl) (cZ:(backTo pos (starEach es X.env)).any (·.1)=false:=by rfl) (c_:(x == ("__debug__" : Str))=false:=by decide)
  (ht:eval (.Call (.Attribute (.Name x p) m apos) (e::es) [] pos) X.env=(do
   let ov ← eval (.Name x p) X.env
   standAt apos.atName
   let (f,first) ← holding [ov] (getMethod ov m pl)
   callWith pos f first (backTo pos (starEach (e::es) X.env)) (backToKw pos (keywordEach [] X.env))):=by rfl) :
  PE X (.Call (.Attribute (.Name x p) m apos) (e::es) [] pos) (qK sp aV E t):=by
 intro pins s σ H Q I h;refine PySem.W.methodCall_KW (pl:=pl) (iR I hg hm ?_ c_) ht;refine PySem.W.method_cls I.bC c.ga (PySem.W.cls_value I.bC c.rd c.at_ rfl ?_);have I':=I.tok (s.toks+1);refine PySem.W.callWith_K (first:=[]) (h₀:=X.base) I.ok.mod.ig c.kp (aN (ha pos pins _ σ H _ I' h) λus s2 ⟨vs,H2,I2,r,q2⟩=>⟨I2.bC,?_⟩) bX cZ
 exact vc (us:=us) (vs:=vs) F hr hb hd hx I2 r q2
end
section
variable{X:Cx}
end
section
variable{X:Cx}{pins:List (Addr×Obj)}{σ:St}{H:Hp}{s:Shared}
end
section
variable{X:Cx}
end
section
variable{K:PySem.W.Frag}{ta:TA}{g:TG}{D:Ends}{σ:St}{H:Hp}{tt:TT}{te:TE}{nt:Nat}{fv:List Nat}{Q:VK}
theorem TJ(a:Addr)(xs:List V)(Pv:Addr->Nat->List V->St->Hp->Prop)(dY:∀Q:List V->Hp->Prop,Q [.ref a] H->ta σ H Q)(cE:aH K H a xs)
  (h0:∀D,H D=none->Pv D 0 [] (gH σ nt fv) (upd H D (.lst []))) (hD:∀D i ys σ H,Pv D i ys σ H->H D=some (.lst ys)/\ys.length<sizeLine/\aH K H a xs)
  (hs:∀D i x ys aD H2 T (N:List V->St->Hp->Prop),(∀ys σ H,Pv D (i+1) ys σ H->N ys σ H)->xs[i]? = some x->Pv D i ys aD H2->H2 T=none->g (.ref T) aD (upd H2 T (.tup [.int i,x])) λbU H4=>tt bU H4 λb H5=>if b=true then te bU H5 λv H6=>H6 D=some (.lst ys)/\N (ys++[v]) bU (upd H6 D (.lst (ys++[v]))) else N ys bU H5)
  (hd:∀D ys aD H2,Pv D xs.length ys aD H2->Q (.ref D) H2):jZ (vC K ta) g tt te nt fv σ H Q:=by
 refine dY _ ⟨a,rfl,⟨xs,cE⟩,λD mW=>?_⟩;refine⟨λi m ys aD H2=>m=xs.length - i/\i<=xs.length/\Pv D i ys aD H2,⟨_,rfl,Nat.zero_le _,h0 D mW⟩,?_⟩;rintro i m ys aD H2 ⟨rfl,gI,p⟩;obtain⟨d1,d2,d3⟩:=hD D i ys aD H2 p;refine⟨d1,d2,?_⟩;by_cases bO:i<xs.length
 ·refine .inr ⟨⟨xs,xs[i],d3,by simp[bO]⟩,λx H3 y=>?_⟩
  obtain⟨T,z,hT,e1,e2,e3⟩:=y;subst e1 e3;exact hs D i z ys aD H2 T (λys σ H=>NX xs.length i (Pv D (i+1) ys σ H)) (λ_ _ _ q=>NX.of bO q) (e2 xs d3) p hT
 ·have e:i=xs.length:=by lia
  subst e;exact .inl ⟨⟨xs,d3,Nat.le_refl _⟩,hd D ys aD H2 p⟩
end
theorem TL{X:Cx}{K:PySem.W.Frag}{pos:Pos}{es:List Expr}{k n:Nat}{t:kP}(hK:X.K=K)(hc:X.calm=true)(h:oJ X es t)(hn:(assignEach es X.env).length=n:=by rfl)(bX:(assignEach es X.env).findIdx? (·.1)=none:=by rfl):PG X (.Tuple es k pos) (qt K n t):=hK▸jw hc h hn bX
noncomputable def rq(cs:List Addr)(m:Str)(sp:Sp)(aV:List V)(E:XK)(ta:TE)(t:TA):TE:=λσ H Q=>ta σ H λx H1=>∃C a dx fs,x = .ref a/\H1 a=some (.ins C dx fs)/\C∈cs/\fs.lookup m=none/\t σ H1 λvs H2=>sp (x::(vs++aV)) H2 Q E
section
variable{X:Cx}{CX:fE}{k:Nat}{f:Addr}{cs:List Addr}{fd:FuncData}{ps:List Str}{sp:Sp}{aV:List V}{ds:List Value}{E:XK}{m:Str}{pos apos:Pos}{o e:Expr}{es:List Expr}{ta:TE}{t:TA}
theorem Kg{pl:Sem Bool}(ho:PE X o ta)(hc:∀C∈cs,eg X.K C/\Meth X.K C m f)(F:aU X.prog X.w X.K X.mg X.base CX k f fd ps sp)(hr:bR k X.A)(hb:Binds X.K fd ps ds)(hd:Vals aV ds)(hx:Passes CX X E)(ha:PA X (e::es) t)
  (bX:starEach (e::es) X.env=(false,eval e X.env)::starEach es X.env:=by rfl) (cZ:(backTo pos (starEach es X.env)).any (·.1)=false:=by rfl)
  (rz:eval (.Call (.Attribute o m apos) (e::es) [] pos) X.env=(do
   let ov ← eval o X.env
   standAt apos.atName
   let (f,first) ← holding [ov] (getMethod ov m pl)
   callWith pos f first (backTo pos (starEach (e::es) X.env)) (backToKw pos (keywordEach [] X.env))):=by rfl):PE X (.Call (.Attribute o m apos) (e::es) [] pos) (rq cs m sp aV E ta t):=by
 intro pins s σ H Q I h;refine PySem.W.methodCall_KW (pl:=pl) (aN (ho pins s σ H _ I h) λu s1 hz=>?_) rz;obtain⟨x,H1,I1,rx,C,a,dx,fs,ex,ea,hC,hl,q⟩:=hz;subst ex;cases (show u=Value.ref a from rx);obtain⟨c1,c2⟩:=hc C hC;refine A9 I1 ea c1 c2 hl (PySem.W.callWith_K (first:=[.ref a]) (h₀:=X.base) I.ok.mod.ig c2.kp (aN (ha pos pins s1 σ H1 _ I1 q) λus s2 hw=>?_) bX cZ)
 obtain⟨vs,H2,I2,r,q2⟩:=hw;exact⟨I2.bC,vc (us:=.ref a::us) (vs:=.ref a::vs) F hr hb hd hx I2 (.cons rfl r) q2⟩
theorem TM{pl:Sem Bool}(ho:PE X o ta)(hc:∀C∈cs,eg X.K C/\Meth X.K C m f)(F:aU X.prog X.w X.K X.mg X.base CX k f fd ps sp)(hr:bR k X.A)(hb:Binds X.K fd ps ds)(hd:Vals aV ds)(hx:Passes CX X E)
  (rz:eval (.Call (.Attribute o m apos) [] [] pos) X.env=(do
   let ov ← eval o X.env
   standAt apos.atName
   let (f,first) ← holding [ov] (getMethod ov m pl)
   callWith pos f first (backTo pos (starEach [] X.env)) (backToKw pos (keywordEach [] X.env))):=by rfl):PE X (.Call (.Attribute o m apos) [] [] pos) (rq cs m sp aV E ta u9):=by
 intro pins s σ H Q I h;refine PySem.W.methodCall_KW (pl:=pl) (aN (ho pins s σ H _ I h) λu s1 hz=>?_) rz;obtain⟨x,H1,I1,rx,C,a,dx,fs,ex,ea,hC,hl,q⟩:=hz;subst ex;cases (show u=Value.ref a from rx);obtain⟨c1,c2⟩:=hc C hC;refine A9 I1 ea c1 c2 hl (PySem.W.callWith_K0 (first:=[.ref a]) I1.bC c2.kp ?_)
 exact vc (us:=[.ref a]) (vs:=[.ref a]) F hr hb hd hx I1 (.cons rfl .nil) q
end
theorem Kh{p q:Int×Int}(h:kT p=kT q):p=q:=by
 unfold kT at h;simp only[List.cons.injEq,Sum.inl.injEq,and_true] at h;exact Prod.ext h.1 h.2
theorem Kl{s:Int}:∀ {rc:List Int} {r:Nat} {q:Int×Int},q∈dg s r rc↔∃j:Nat,j<rc.length/\q.1=((r+j:Nat):Int)/\0<=q.2/\q.2<rc.getD j 0 - s
 | [],r,q=>by simp[dg]
 | c::rc,r,q=>by
  rw[dg,List.mem_append,Kl (rc:=rc) (r:=r+1)];constructor
  ·rintro(h | ⟨j,h1,h2,h3,h4⟩)
   ·obtain⟨k,hk,rfl⟩:=List.mem_map.mp h;rw[List.mem_range] at hk;exact⟨0,by simp,by simp,by dsimp only;lia,by simp only[List.getD_cons_zero];lia⟩
   ·exact⟨j+1,by simpa using h1,by rw[h2];congr 1;lia,h3,by simpa using h4⟩
  ·rintro⟨j,h1,h2,h3,h4⟩;cases j with
   | zero =>
    left;refine List.mem_map.mpr ⟨q.2.toNat,List.mem_range.mpr ?_,?_⟩
    ·simp only[List.getD_cons_zero] at h4;lia
    ·refine Prod.ext ?_ ?_
     ·rw[h2];simp
     ·dsimp only;lia
   | succ j =>
    right;exact⟨j,by simpa using h1,by rw[h2];congr 1;lia,h3,by simpa using h4⟩
theorem Km{s:Int}:∀(rc:List Int) (r:Nat),(dg s r rc).Nodup
 | [],r=>List.nodup_nil
 | c::rc,r=>by
  rw[dg,List.nodup_append];refine⟨?_,Km rc (r+1),?_⟩
  ·rw[List.nodup_iff_pairwise_ne,List.pairwise_map];refine List.Pairwise.imp ?_ (List.nodup_iff_pairwise_ne.mp List.nodup_range);intro a b h e;simp at e;lia
  ·intro x hx y hy e;subst e;obtain⟨k,_,rfl⟩:=List.mem_map.mp hx;obtain⟨j,_,h2,_⟩:=Kl.mp hy;simp at h2;lia
noncomputable def i9(s:Int)(rc:List Int)(r:Nat):Int:=((rc.take r).map (· - s)).sum
theorem TN{s:Int}{rc:List Int}(h:∀c∈rc,s<=c)(r:Nat):0<=i9 s rc r:=by
 refine JU _ λx hx=>?_;obtain⟨c,hc,rfl⟩:=List.mem_map.mp hx;have:=h c (List.mem_of_mem_take hc);lia
theorem Kn{s:Int}:∀(rc:List Int) (r0 r:Nat) (k:Int),(∀c∈rc,s<=c)->r<rc.length->0<=k->k<rc.getD r 0 - s->(dg s r0 rc)[(i9 s rc r+k).toNat]? = some (((r0+r:Nat):Int),k)
 | [],_,_,_,_,h,_,_=>by simp at h
 | c::rc,r0,0,k,hc,h,h0,h1=>by
  have h1:k<c - s:=by simpa using h1
  rw[dg,List.getElem?_append_left (by simp[i9];lia)]
  have e:(i9 s (c::rc) 0+k).toNat=k.toNat:=by simp[i9]
  rw[e,List.getElem?_map,List.getElem?_range (by lia)]
  simp;lia
 | c::rc,r0,r+1,k,hc,h,h0,h1=>by
  have mq:∀c∈rc,s<=c:=λc z=>hc c (List.mem_cons_of_mem _ z);have ih:=Kn rc (r0+1) r k mq (by simpa using h) h0 (by simpa using h1)
  have hs:=hc c List.mem_cons_self;have on:=TN mq r;have e:i9 s (c::rc) (r+1)=(c - s)+i9 s rc r:=by simp[i9]
  rw[dg,List.getElem?_append_right (by simp;lia)]
  have e2:(i9 s (c::rc) (r+1)+k).toNat - ((List.range (c - s).toNat).map λ(k:Nat)=>((r0:Int),(k:Int))).length=(i9 s rc r+k).toNat:=by
   simp;lia
  rw[e2,ih];congr 2;lia
theorem TQ{s:Int}{rc:List Int}(hc:∀c∈rc,s<=c){r:Nat}{k:Int}(h:r<rc.length)(h0:0<=k)(h1:k<rc.getD r 0 - s):(dJ rc s)[(i9 s rc r+k).toNat]? = some ((r:Int),k):=by
 have:=Kn rc 0 r k hc h h0 h1;rwa [Nat.zero_add] at this
noncomputable def gO(aq:List (List Key×V)):Nat->List (Int×Int)->List Int
 | _,[]=>[]
 | i,q::z=>if (fR aq (kT q)).isSome=true then(i:Int)::gO aq (i+1) z else gO aq (i+1) z
theorem Ck(aq:List (List Key×V)):∀(z:List (Int×Int)) (i:Nat) (q:Int×Int),gO aq i (z++[q])=gO aq i z++(if (fR aq (kT q)).isSome=true then [((i+z.length:Nat):Int)] else [])
 | [],i,q=>by simp[gO]
 | x::z,i,q=>by
  rw[List.cons_append,gO,gO,Ck aq z (i+1) q];have e:i+1+z.length=i+(x::z).length:=by simp;lia
  rw[e];split <;> simp
theorem Cm(aq:List (List Key×V)):∀(z:List (Int×Int)) (i:Nat),(gO aq i z).length<=z.length
 | [],i=>by simp[gO]
 | x::z,i=>by
  have:=Cm aq z (i+1);rw[gO];split <;> simp <;> lia
noncomputable def TR(K:PySem.W.Frag):Sp:=λvs H Q _=>∃(a:Addr) (rc:List Int) (s:Int),vs = [.int s,.ref a]/\aH K H a (rc.map V.int)/\0<rc.length/\0<=s/\(∀c∈rc,s<c)/\Q .aG H
noncomputable def cy(z:List (Int×Int)):List (List Key×V):=z.map λq=>(kT q,V.bl true)
theorem rA{z:List (Int×Int)}{q:Int×Int}(h:q∉z):fR (cy z) (kT q)=none:=by
 induction z with
 | nil=>rfl
 | cons x z ih =>
  rw[cy,List.map_cons,qP,← cy,ih λm=>h (List.mem_cons_of_mem _ m)];intro e;exact h (Kh e▸List.mem_cons_self)
theorem Cn{z:List (Int×Int)}{q:Int×Int}(h:q∈z):fR (cy z) (kT q)=some (.bl true):=by
 induction z with
 | nil=>cases h
 | cons x z ih =>
  by_cases e:x=q
  ·subst e;rw[cy,List.map_cons,vh rfl]
  ·rw[cy,List.map_cons,qP (λz=>e (Kh z)),← cy];exact ih ((List.mem_cons.mp h).resolve_left λz=>e z.symm)
noncomputable def TU(K:PySem.W.Frag)(cs:List Addr):Sp:=λvs H Q _=>∃(C p ba:Addr) (P:Pl) (fp iG:List Addr) (bz:List (Int×Int)),vs = [.ref p,.ref ba]/\C∈cs/\dI K C H p P fp/\Zn H ba iG bz/\bz.length<=1000000/\bz.Nodup/\
 (∀q∈bz,0<=q.1/\q.1<P.rc.length/\0<=q.2/\q.2<P.rc.getD q.1.toNat 0)/\∀d H',ah H H'->H d=none->H' d=some (.dT (cy bz))->Q (.ref d) H'
noncomputable def TV(K:PySem.W.Frag):Sp:=λvs H Q _=>∃(a d:Addr) (ts:List Addr) (z:List (Int×Int)) (aq:List (List Key×V)),vs = [.ref a,.ref d]/\Zn H a ts z/\z.length<=1000000/\H d=some (.dT aq)/\
 ∀l H',ah H H'->H l=none->H' l=some (.lst ((gO aq 0 z).map V.int))->Q (.ref l) H'
noncomputable def Co(K:PySem.W.Frag)(C:Addr)(H:Hp)(p:Addr)(P:Pl)(fp:List Addr)(mv:Addr)(ms:List V):Prop :=
 ∃dx a1 a2 a3 a4 ts fs,fp=a1::a2::a3::a4::ts/\j8 K C H p P dx a1 a2 a3 a4 ts fs/\bM K C "moves"/\fs.lookup ("moves" : Str)=some (.ref mv)/\H mv=some (.lst ms)
theorem Co.TX{K:PySem.W.Frag}{C:Addr}{H:Hp}{p:Addr}{P:Pl}{fp:List Addr}{mv:Addr}{ms:List V}(h:Co K C H p P fp mv ms):dI K C H p P fp:=by
 obtain⟨dx,a1,a2,a3,a4,ts,fs,e,h,_⟩:=h;exact⟨dx,a1,a2,a3,a4,ts,fs,e,h⟩
noncomputable def pairD(p:Int×Int):Dt:=.tup [.int p.1,.int p.2]
theorem Zn.rep{H:Hp}{a:Addr}{ts:List Addr}{z:List (Int×Int)}(h:Zn H a ts z)(hl:z.length<=1000000){n:Nat}:Rep H (n+2) (.ref a) (.lst (z.map pairD)):=by
 refine .lst h.l (by simp[h.n]) (by simpa using hl) λi x d e1 e2=>?_
 obtain⟨t,p,rfl,hp,ht⟩:=h.at e1;rw[List.getElem?_map,hp] at e2;cases e2;exact Rep.nq ht ⟨.int _,.int _,trivial⟩
section
variable{K:PySem.W.Frag}{C:Addr}{H H':Hp}{p:Addr}{P:Pl}{fp:List Addr}{mv:Addr}{ms:List V}
end
noncomputable def f2(o:Obj):Option Value:=match o.data with
 | .fields vs=>vs[2]?
 | _=>none
noncomputable def Dk(h h':Heap):Prop:=∀(b:Nat) (o:Obj),h.objs[b]? = some o->∃o':Obj,h'.objs[b]? = some o'/\o'.dict=o.dict/\f2 o' = f2 o
theorem Dk.refl(h:Heap):Dk h h:=λ_ o e=>⟨o,e,rfl,rfl⟩
theorem Dk.push{h h':Heap}(k:Dk h h')(o:Obj):Dk h (h'.push o):=λb ob e=>by
 obtain⟨o',e',d⟩:=k b ob e;refine⟨o',?_,d⟩
 show (h'.objs.push o)[b]? = some o';rw[Array.getElem?_push];have:b<h'.objs.size:=(Array.getElem?_eq_some_iff.mp e').1;rw[if_neg (by lia)];exact e'
theorem Dk.upd{h h':Heap}(k:Dk h h'){a:Addr}{f:Obj->Obj}(hf:∀o,(f o).dict=o.dict/\f2 (f o)=f2 o):Dk h (h'.update a f):=λb ob e=>by
 obtain⟨o',e',d⟩:=k b ob e;by_cases hb:a=b
 ·subst hb;exact⟨f o',by show (h'.objs.modify a f)[a]? = _;rw[Array.getElem?_modify,if_pos rfl,e'];rfl,(hf o').1.trans d.1,(hf o').2.trans d.2⟩
 ·exact⟨o',by show (h'.objs.modify a f)[b]? = _;rw[Array.getElem?_modify,if_neg hb];exact e',d⟩
theorem Ko{h:Heap}{a:Addr}{o:Obj}(e:h.get? a=some o):h.objs[a]? = some o:=by
 unfold Heap.get? at e;split at e
 ·cases e
 ·exact e
theorem Dk.at{h h':Heap}(k:Dk h h'){a:Addr}{o o':Obj}(e:h.get? a=some o)(e':h'.get? a=some o'):o'.dict=o.dict/\f2 o' = f2 o:=by
 obtain⟨o2,q,d⟩:=k a o (Ko e);have:=Ko e';rw[q] at this;cases this;exact d
noncomputable def KD{α:Type}:Sem α->Prop
 | .pure _=>True
 | .raise _=>True
 | .unsupported _=>True
 | .finish _=>True
 | .rule _ k=>KD (k ())
 | .at _ k=>KD (k ())
 | .load _ _ k=>∀o,KD (k o)
 | .update _ _ f k=>(∀o,(f o).dict=o.dict/\f2 (f o)=f2 o)/\KD (k ())
 | .alloc _ k=>∀a,KD (k a)
 | .loadIfAlive _ k=>∀o,KD (k o)
 | .point _ k=>KD (k ())
 | .register _ _=>True
 | .fresh k=>∀t,KD (k t)
 | .ask k=>∀x,KD (k x)
 | .choose _ _ k=>∀n,KD (k n)
 | .os _ _ k=>∀r,KD (k r)
 | .call .. => False
 | .handled _ k=>∀x,KD (k x)
 | .newGen _ k=>∀n,KD (k n)
 | .genState _ k=>∀x,KD (k x)
 | .resume .. => False
 | .yield .. => True
 | .stack k=>∀x,KD (k x)
 | .fork .. => True
 | .thread k=>∀n,KD (k n)
 | .await .. => True
theorem KD.wp{α:Type}{M:Model}{Γ:PySem.Ctx}{Q:α->Pos->Shared->Prop}{E:Value->Pos->Shared->Prop}{h0:Heap}(t:Sem α):KD t->∀p (s:Shared),Dk h0 s.heap->Sem.wp M Γ t Q E p s->
  Sem.wp M Γ t (λa p s'=>Q a p s'/\Dk h0 s'.heap) (λe p s'=>E e p s'/\Dk h0 s'.heap) p s:=by
 induction t with
 | pure a=>exact λ_ p s d h=>by rw[Sem.wp] at h ⊢;exact⟨h,d⟩
 | raise e=>exact λ_ p s d h=>by rw[Sem.wp] at h ⊢;exact⟨h,d⟩
 | unsupported _=>exact λ_ p s d h=>by rw[Sem.wp] at h;exact h.elim
 | finish _=>exact λ_ p s d h=>by rw[Sem.wp] at h;exact h.elim
 | rule _ k ih=>exact λq p s d h=>by rw[Sem.wp] at h ⊢;exact ih () q p s d h
 | «at» _ k ih=>exact λq p s d h=>by rw[Sem.wp] at h ⊢;exact ih () q _ s d h
 | load a _ k ih=>exact λq p s d h=>by rw[Sem.wp] at h ⊢;obtain⟨o,e,h⟩:=h;exact⟨o,e,ih o (q o) p s d h⟩
 | update a _ f k ih=>exact λq p s d h=>by rw[Sem.wp] at h ⊢;exact⟨h.1,ih () q.2 p _ (d.upd q.1) h.2⟩
 | alloc o k ih=>exact λq p s d h=>by rw[Sem.wp] at h ⊢;exact ih _ (q _) p _ (d.push o) h
 | loadIfAlive a k ih=>exact λq p s d h=>by rw[Sem.wp] at h ⊢;exact ih _ (q _) p s d h
 | point _ k ih=>exact λq p s d h=>by rw[Sem.wp] at h ⊢;exact ih () q p s d h
 | register _ k ih=>exact λq p s d h=>by rw[Sem.wp] at h;exact h.elim
 | fresh k ih=>exact λq p s d h=>by rw[Sem.wp] at h ⊢;exact ih _ (q _) p _ d h
 | ask k ih=>exact λq p s d h=>by rw[Sem.wp] at h ⊢;exact ih _ (q _) p _ d h
 | choose src n k ih=>exact λq p s d h=>by rw[Sem.wp] at h ⊢;exact⟨h.1,ih _ (q _) p _ d h.2⟩
 | os r _ k ih=>exact λq p s d h=>by rw[Sem.wp] at h ⊢;exact ih _ (q _) p _ d h
 | call c hd g l k ih=>exact λq p s d h=>False.elim q
 | handled own k ih=>exact λq p s d h=>by rw[Sem.wp] at h ⊢;exact ih _ (q _) p _ d h
 | newGen c k ih=>exact λq p s d h=>by rw[Sem.wp] at h ⊢;exact ih _ (q _) p _ d h
 | genState g k ih=>exact λq p s d h=>by rw[Sem.wp] at h ⊢;obtain⟨o,e,h⟩:=h;exact⟨o,e,ih _ (q _) p s d h⟩
 | resume g r l k ih=>exact λq p s d h=>False.elim q
 | yield v g l k ih=>exact λq p s d h=>by rw[Sem.wp] at h;exact h.elim
 | stack k ih=>exact λq p s d h=>by rw[Sem.wp] at h ⊢;exact ih _ (q _) p _ d h
 | fork c k ih=>exact λq p s d h=>by rw[Sem.wp] at h;exact h.elim
 | thread k ih=>exact λq p s d h=>by rw[Sem.wp] at h ⊢;exact ih _ (q _) p _ d h
 | await a t d l k ih=>exact λq p s d h=>by rw[Sem.wp] at h;exact h.elim
theorem KD.any{α:Type}{M:Model}{A:Around}{t:Sem α}{Q:α->Shared->Prop}{E:Value->Shared->Prop}{s:Shared}(k:KD t)(h:wpAny M A t Q E s):wpAny M A t (λa s'=>Q a s'/\Dk s.heap s'.heap) (λe s'=>E e s'/\Dk s.heap s'.heap) s :=
 λΓ p TY=>k.wp (h0:=s.heap) t p s (Dk.refl _) (h Γ p TY)
theorem KD.bind{α β:Type}{f:α->Sem β}(hf:∀a,KD (f a)):∀(m:Sem α),KD m->KD (m >>= f):=by
 intro m
 show KD m->KD (Sem.bind m f)
 induction m with
 | pure a=>exact λ_=>hf a
 | raise e=>exact λ_=>trivial
 | unsupported _=>exact λ_=>trivial
 | finish _=>exact λ_=>trivial
 | rule _ k ih=>exact λq=>ih () q
 | «at» _ k ih=>exact λq=>ih () q
 | load a _ k ih=>exact λq o=>ih o (q o)
 | update a _ f k ih=>exact λq=>⟨q.1,ih () q.2⟩
 | alloc o k ih=>exact λq a=>ih a (q a)
 | loadIfAlive a k ih=>exact λq o=>ih o (q o)
 | point _ k ih=>exact λq=>ih () q
 | register _ k ih=>exact λq=>trivial
 | fresh k ih=>exact λq a=>ih a (q a)
 | ask k ih=>exact λq a=>ih a (q a)
 | choose src n k ih=>exact λq a=>ih a (q a)
 | os r _ k ih=>exact λq a=>ih a (q a)
 | call c hd g l k ih=>exact λq=>q
 | handled own k ih=>exact λq a=>ih a (q a)
 | newGen c k ih=>exact λq a=>ih a (q a)
 | genState g k ih=>exact λq a=>ih a (q a)
 | resume g r l k ih=>exact λq=>q
 | yield v g l k ih=>exact λq=>trivial
 | stack k ih=>exact λq a=>ih a (q a)
 | fork c k ih=>exact λq=>trivial
 | thread k ih=>exact λq a=>ih a (q a)
 | await a t d l k ih=>exact λq=>trivial
theorem KD.ite{α:Type}{c:Prop}[Decidable c]{a b:Sem α}(ha:KD a)(hb:KD b):KD (if c then a else b):=by split <;> assumption
theorem Cp{i:Nat}(hi:i≠2)(v:Value)(o:Obj):(Obj.mapFields (·.setIfInBounds i v) o).dict=o.dict/\f2 (Obj.mapFields (·.setIfInBounds i v) o)=f2 o:=by
 obtain⟨c,d,dt,sl⟩:=o;cases dt <;> first | exact⟨rfl,rfl⟩ | (refine⟨rfl,?_⟩;show (Array.setIfInBounds _ i v)[2]? = _;rw[Array.getElem?_setIfInBounds_ne hi];rfl)
theorem KD.then{α β:Type}{m:Sem α}{f:α->Sem β}(hm:KD m)(hf:∀a,KD (f a)):KD (m >>= f):=KD.bind hf m hm
theorem vI(v:Value)(i:Nat):KD (field v i):=by
 unfold field fieldsOf load;repeat' first | exact trivial | exact λ_=>trivial | assumption | exact⟨Cp (by assumption) _,trivial⟩ | exact⟨λ_=>⟨rfl,rfl⟩,trivial⟩ | refine KD.ite ?_ ?_ | refine KD.then ?_ λ_=>?_ | split
theorem Cq(v:Value){i:Nat}(hi:i≠2)(x:Value):KD (setField v i x):=by
 unfold setField updateField load update;repeat' first | exact trivial | exact λ_=>trivial | assumption | exact⟨Cp (by assumption) _,trivial⟩ | exact⟨λ_=>⟨rfl,rfl⟩,trivial⟩ | refine KD.ite ?_ ?_ | refine KD.then ?_ λ_=>?_ | split
theorem rB(e:Value)(f:Option Addr):KD (setFlight e f):=by
 have h1:=vI e 1;unfold setFlight;refine KD.then h1 λtb=>KD.ite ?_ ?_
 ·exact Cq _ (by decide) _
 ·trivial
theorem Kq:∀l,KD (readyFrames l)
 | []=>trivial
 | env::outer=>by
  have ih:=Kq outer;have hf:=λv i=>vI v i;unfold readyFrames;split
  ·refine KD.then (λ_=>trivial) λo=>?_
   refine KD.ite trivial ?_;refine KD.then ?_ λi=>KD.then ?_ λb=>?_
   ·unfold behindIsImport;refine KD.ite trivial (KD.ite trivial ?_);exact KD.then (hf _ _) λ_=>(trivial:KD (.pure _))
   ·unfold keptBack underTheClaimsCaller stack;split
    ·refine KD.ite trivial ?_;refine KD.then ?_ λ_=>(trivial:KD (.pure _));exact λ_=>trivial
    ·trivial
   ·refine KD.then (m:=update _ _) ⟨λ_=>⟨rfl,rfl⟩,trivial⟩ λ_=>?_
    exact ih
  ·trivial
theorem TZ(env:Env):KD (PySem.frameOf env):=by
 unfold PySem.frameOf;refine KD.then ?_ λl=>?_
 ·unfold frameEnvs stack;exact λ_=>trivial
 ·refine KD.then ?_ λa=>?_
  ·unfold frameObject;split
   ·trivial
   ·refine KD.then (Kq _) λ_=>?_
    trivial
  ·split <;> trivial
theorem T3(ty:String)(vs:List Value):KD (newFields ty vs):=by
 unfold newFields newObj newObjAsIs alloc;repeat' first | exact trivial | exact λ_=>trivial | assumption | exact⟨Cp (by assumption) _,trivial⟩ | exact⟨λ_=>⟨rfl,rfl⟩,trivial⟩ | refine KD.ite ?_ ?_ | refine KD.then ?_ λ_=>?_ | split
theorem T4(f:Addr)(b:Bool):KD (entryPlaceOf f b):=by
 unfold entryPlaceOf;refine KD.then (m:=stack) (λ_=>trivial) λl=>?_
 split <;> trivial
theorem vJ(e:Value)(env:Env):KD (noteFrame e env):=by
 have last:∀head f,KD (do setField e 1 (← EntryCells.newEntry head (← PySem.frameOf env) .none (rawInt f) .none (← entryPlaceOf f (head != .none)))):=λhead f =>
  KD.then (TZ _) λa=>KD.then (T4 _ _) λp=>KD.then (T3 _ _) λx=>Cq _ (by decide) _
 unfold noteFrame;split
 ·refine KD.then (vI _ _) λhead=>?_
  refine KD.ite ?_ ?_
  ·refine KD.then (vI _ _) λx=>?_
   refine KD.ite trivial ?_;refine KD.then (Cq _ (by decide) _) λ_=>?_
   exact last _ _
  ·exact last _ _
 ·trivial
theorem Cr(env:Env)(e:Value):KD (leaving env e):=KD.then (vJ _ _) λ_=>rB _ _
noncomputable def cI(h:Heap)(a:Addr)(od:Option Addr):Prop:=∃oe,h.get? a=some oe/\oe.dict=od.map (· / 2)/\∀k,od=some k->k % 2=0->f2 oe=some .none
theorem cI.dk{h h':Heap}{a:Addr}{od:Option Addr}(x:cI h a od)(k:Dk h h')(th:∃o,h'.get? a=some o):cI h' a od :=
 let ⟨_,e,d,c⟩:=x;let ⟨o',e'⟩:=th;⟨o',e',(k.at e e').1.trans d,λj z y=>(k.at e e').2.trans (c j z y)⟩
section
variable{M:Model}{A:Around}{E:Value->Shared->Prop}{s:Shared}{base:Heap}{env:Env}{l outer:List Env}{L e:Addr}{cls a0:Value}{od:Option Addr}{Q:Unit->Shared->Prop}
theorem T5(dD:A.frames=some (env::outer))(hf:env.frame=some L)(kg:Heap.FlyingW base (env::outer) e cls a0 s.heap)(hd:cI s.heap e od)
  (hQ:∀h',Heap.FlyingW base outer e cls a0 h'->s.heap.UpToSlots h'->cI h' e od->Q () { s with heap:=h' }):wpAny M A (leaving env (.ref e)) Q E s:=by
 refine wpAny_mono ((Cr env (.ref e)).any (wpAny_leaves_onW (E:=E) (Q:=λ_ s2=>∃h',Heap.FlyingW base outer e cls a0 h'/\s.heap.UpToSlots h'/\s2 = { s with heap:=h' }) dD hf kg λh' x1 x2=>⟨h',x1,x2,rfl⟩)) (λu s2 z=>?_) λ_ _ z=>z.1;obtain⟨⟨h',x1,x2,rfl⟩,k⟩:=z;obtain⟨o,q,_⟩:=x1.there;exact hQ h' x1 x2 (hd.dk k ⟨o,q⟩)
theorem Cs(dD:A.frames=some (env::outer))(hf:env.frame=some L)(kg:Heap.FlyingW base (env::outer) e cls a0 s.heap)(hd:cI s.heap e od)
  (hQ:∀h',Heap.HeldW base (env::outer) e cls a0 L h'->s.heap.UpToSlots h'->cI h' e od->Q () { s with heap:=h' }):wpAny M A (noteFrame (.ref e) env) Q E s:=by
 refine wpAny_mono ((vJ (.ref e) env).any (wpAny_looks_onW (E:=E) (Q:=λ_ s2=>∃h',Heap.HeldW base (env::outer) e cls a0 L h'/\s.heap.UpToSlots h'/\s2 = { s with heap:=h' }) dD hf kg λh' x1 x2=>⟨h',x1,x2,rfl⟩)) (λu s2 z=>?_) λ_ _ z=>z.1;obtain⟨⟨h',x1,x2,rfl⟩,k⟩:=z;obtain⟨o,q,_⟩:=x1.there;exact hQ h' x1 x2 (hd.dk k ⟨o,q⟩)
theorem Kr(hh:Heap.HeldW base l e cls a0 L s.heap)(hd:cI s.heap e od)
  (hQ:∀h',Heap.FlyingW base l e cls a0 h'->s.heap.UpToSlots h'->cI h' e od->Q () { s with heap:=h' }):wpAny M A (setFlight (.ref e) none) Q E s:=by
 refine wpAny_mono ((rB (.ref e) none).any (wpAny_landsW (E:=E) (Q:=λ_ s2=>∃h',Heap.FlyingW base l e cls a0 h'/\s.heap.UpToSlots h'/\s2 = { s with heap:=h' }) hh λh' x1 x2=>⟨h',x1,x2,rfl⟩)) (λu s2 z=>?_) λ_ _ z=>z.1;obtain⟨⟨h',x1,x2,rfl⟩,k⟩:=z;obtain⟨o,q,_⟩:=x1.there;exact hQ h' x1 x2 (hd.dk k ⟨o,q⟩)
theorem Ks(hh:Heap.FlyingW base l e cls a0 s.heap)(hd:cI s.heap e od)
  (hQ:∀h',Heap.FlyingW base l e cls a0 h'->s.heap.UpToSlots h'->cI h' e od->Q () { s with heap:=h' }):wpAny M A (setFlight (.ref e) none) Q E s:=by
 refine wpAny_mono ((rB (.ref e) none).any (lands_againW (E:=E) (Q:=λ_ s2=>∃h',Heap.FlyingW base l e cls a0 h'/\s.heap.UpToSlots h'/\s2 = { s with heap:=h' }) hh λh' x1 x2=>⟨h',x1,x2,rfl⟩)) (λu s2 z=>?_) λ_ _ z=>z.1;obtain⟨⟨h',x1,x2,rfl⟩,k⟩:=z;obtain⟨o,q,_⟩:=x1.there;exact hQ h' x1 x2 (hd.dk k ⟨o,q⟩)
theorem T6{oe:Obj}{vs:Array Value}(dD:A.frames=some (env::outer))(hf:env.frame=some L)(lB:base.StaysIn s.heap)(hl:s.heap.FunFrames base (env::outer))(he:s.heap.get? e=some oe)(kh:base.get? e=none)
  (i_:oe.data = .fields vs) (h1:vs[1]? = some .none) (h0:vs[0]? = some a0) (hd:cI s.heap e od)
  (hQ:∀h',Heap.FlyingW base outer e oe.cls a0 h'->s.heap.UpToSlots h'->cI h' e od->Q () { s with heap:=h' }):wpAny M A (leaving env (.ref e)) Q E s:=by
 refine wpAny_mono ((Cr env (.ref e)).any (wpAny_leaving_firstW (E:=E) (Q:=λ_ s2=>∃h',Heap.LeftW base (env::outer) e oe.cls a0 s.heap h'/\s2 = { s with heap:=h' }) dD hl hf he lB kh i_ h1 h0 λh' x=>⟨h',x,rfl⟩)) (λu s2 z=>?_) λ_ _ z=>z.1;obtain⟨⟨h',⟨k1,⟨_,_,k2⟩,k3,k4⟩,rfl⟩,k⟩:=z;have fl:Heap.FlyingW base outer e oe.cls a0 h':=⟨k1,kh,k2,k3⟩;obtain⟨o,q,_⟩:=fl.there;exact hQ h' fl k4 (hd.dk k ⟨o,q⟩)
end
theorem bQ.there{P:Program}{w:World}{H:Hp}{h:Heap}{a:Addr}{o:HO}(x:bQ P w H h)(e:H a=some o):∃u,h.get? a=some u:=by
 have x:=x a o e;cases o with
 | lst xs=>obtain⟨_,_,_,_,e⟩:=x;exact⟨_,e⟩
 | tup xs=>obtain⟨_,_,_,ob,e,_⟩:=x;exact⟨_,e⟩
 | dK aq=>obtain⟨_,_,_,_,o,_,_,e,_⟩:=x;exact⟨_,e⟩
 | dT aq=>obtain⟨_,_,_,_,o,_,_,e,_⟩:=x;exact⟨_,e⟩
 | set S n=>obtain⟨o,_,_,_,e,_⟩:=x;exact⟨_,e⟩
 | ins C dx fs=>obtain⟨_,_,_,e,_⟩:=x;exact⟨_,e⟩
 | own y=>obtain⟨_,e⟩:=x;exact⟨_,e⟩
 | xd fs=>obtain⟨_,⟨_,_,_,e,_⟩,_⟩:=x;exact⟨_,e⟩
 | uK lo hi=>obtain⟨_,_,_,e⟩:=x;exact⟨_,e⟩
 | eG ob u=>obtain⟨e,_⟩:=x;exact⟨_,e⟩
 | dm ps=>exact⟨_,(show h.get? a=some _ from x)⟩
 | met f y=>exact⟨_,(show h.get? a=some _ from x)⟩
 | ext φ=>obtain⟨_,⟨_,e⟩,_⟩:=x;exact⟨_,e⟩
structure Cut(base B:Heap)(outer:List Env)(H H':Hp)(h:Heap):Prop where
 stays:base.StaysIn B
 k1:∀b o,h.get? b=some o->H b=none->b∉aX outer->B.get? b=some o
 k2:∀b u,H' b=some u->∃o,B.get? b=some o
 k3:∀b o,h.get? b=some o->b∉aX outer->∃o',B.get? b=some o'
noncomputable def eB(P:Program)(w:World)(base:Heap):fE:=λouter H s E e s' =>
 ∃a C a0 H' B od,e = .ref a/\s'.os=s.os/\AllBare s'.gens/\Un (aX outer) [] H H' s.heap s'.heap/\bQ P w H' s'.heap/\H' a=none/\s.heap.get? a=none/\
  Cut base B outer H H' s.heap/\Heap.FlyingW B outer a (.ref C) a0 s'.heap/\cI s'.heap a od/\E (.ref C) od H'
section
variable{P:Program}{w:World}{K:PySem.W.Frag}{mg:Str->Option Value}{base B:Heap}{N:List Str}{qual:Str}{scope:Scope}{f:Addr}{cd:Value}{A:Around}{outer:List Env}{aK sc s':Shared}{cF Hc H':Hp}{E:XK}
 {pins:List (Addr×Obj)} {σ:St} {a C:Addr} {a0:Value} {h':Heap} {od:Option Addr}
theorem Ct:aX (envOfC qual scope aK.heap.objs.size f cd::outer)=aK.heap.objs.size::aX outer:=rfl
theorem T7(I:Inv (fQ (eB P w base) P w K mg base N qual scope f cd A outer aK cF E) pins σ Hc sc)(u:Un (aX (envOfC qual scope aK.heap.objs.size f cd::outer)) [] Hc H' sc.heap s'.heap)(ho:s'.os=sc.os)(hg:AllBare s'.gens)(az:bQ P w H' s'.heap)
  (na:H' a=none) (nh:sc.heap.get? a=none) (c:Cut base B (envOfC qual scope aK.heap.objs.size f cd::outer) Hc H' sc.heap) (kB:B.StaysIn s'.heap) (cC:Heap.FlyingW B outer a (.ref C) a0 h') (up:s'.heap.UpToSlots h') (hd:cI h' a od) (hE:E (.ref C) od H') :
  eB P w base outer cF aK E (.ref a) { s' with heap:=h' }:=by
 have J:=I.kM ho u az hg (λ_ z=>nomatch z);have bs:Un (aX outer) [] cF Hc aK.heap sc.heap:=I.base;have g9:Un (aX outer) [] cF H' aK.heap s'.heap:=J.base;have nl:∀b o,aK.heap.get? b=some o->b∉aX outer->b∉aX (envOfC qual scope aK.heap.objs.size f cd::outer):=λb o q n z=>by
  rw[Ct] at z;rcases List.mem_cons.mp z with e | z
  ·exact absurd (Heap.lt_size q) (by rw[e];exact Nat.lt_irrefl _)
  ·exact n z
 have k1:∀b o,aK.heap.get? b=some o->cF b=none->b∉aX outer->B.get? b=some o:=λb o q n hb =>
  c.k1 b o (bs.keep b o q n hb (by simp)) (bs.free b o q n (by simp)) (nl b o q hb)
 have k3:∀b o,aK.heap.get? b=some o->b∉aX outer->∃o',B.get? b=some o':=λb o q hb =>
  let ⟨o1,q1⟩:=bs.there b o q (by simp);c.k3 b o1 q1 (nl b o q hb)
 have sl:∀b o,aK.heap.get? b=some o->cF b=none->b∈aX outer->∃sl,h'.get? b=some { o with slots:=sl }:=λb o q n hb=>by
  obtain⟨sl,q1⟩:=g9.slot b o q n hb (by simp)
  obtain⟨_,o2,q2,nf⟩:=I.ok.dP.mem hb;have q2:aK.heap.get? b=some o2:=q2;rw[q] at q2;cases q2;obtain⟨rD,q3⟩:=up b _ q1 nf;exact⟨rD,q3⟩
 refine⟨a,C,a0,H',B,od,rfl,J.os,hg,⟨λb o q n hb _=>cC.1 _ _ (k1 b o q n hb),λb o q n hb _=>sl b o q n hb,g9.free,λb o q _=>?_,g9.eZ,g9.d9,g9.eK⟩,λb v e=>?_,na,?_,⟨c.stays,k1,c.k2,k3⟩,cC,hd,hE⟩
 ·by_cases hb:b∈aX outer
  ·obtain⟨sl,q1⟩:=sl b o q (I.ok.fL b hb) hb;exact⟨_,q1⟩
  ·obtain⟨o',q1⟩:=k3 b o q hb;exact⟨o',cC.1 _ _ q1⟩
 ·refine(az b v e).d8 (λd z hd q=>?_) (λ_ q=>q) λ_ _ q=>q;have tr:∃v',H' d=some v':=by
   rcases hd with rfl | hd
   ·exact⟨_,e⟩
   ·exact⟨_,hd⟩
  obtain⟨v',e'⟩:=tr;obtain⟨o,q1⟩:=c.k2 d v' e';have:=kB d o q1;rw[q] at this;cases this;exact cC.1 _ _ q1
 ·cases q:aK.heap.get? a with
  | none=>rfl
  | some o =>
   obtain⟨o1,q1⟩:=bs.there a o q (by simp)
   rw[nh] at q1;cases q1
theorem T8:Passes (eB P w base) (fQ (eB P w base) P w K mg base N qual scope f cd A outer aK cF E) E:=by
 intro pins σ H s e s' I hx;obtain⟨a,C,a0,H',B,od,rfl,ho,hg,u,az,na,nh,c,cC,hd,hE⟩:=hx
 show wpAny _ _ (leaving _ _) _ _ _;exact T5 I.ok.frames rfl cC hd λh' x1 x2 x3=>T7 I u ho hg az na nh c cC.1 x1 x2 x3 hE
end
noncomputable def Ku(C:Addr)(E:XK)(t:TA):TS:=λ_ σ H=>t σ H λvs H1=>vs.length<=sizeLine/\E (.ref C) none H1
section
variable{X:Cx}{E:XK}{x:Str}{C:Addr}{bm:List Value}{newId eW B:String}{np bG pos:Pos}{fc:Expr}{rest:List Expr}{t:TA}
end
theorem rE{base B:Heap}{l:List Env}{H H':Hp}{h h1 h':Heap}(u:Un (aX l) [] H H' h h1)(c:Cut base B l H H' h)(kB:B.StaysIn h')(up:h1.UpToSlots h')(ff:∀b∈aX l,H b=none/\∀o,h.get? b=some o->∀vs,o.data≠.fields vs) :
  Un (aX l) [] H H' h h':=by
 have sl:∀b o,h.get? b=some o->H b=none->b∈aX l->∃sl,h'.get? b=some { o with slots:=sl }:=λb o q n hb=>by
  obtain⟨sl,q1⟩:=u.slot b o q n hb (by simp)
  obtain⟨rD,q3⟩:=up b _ q1 ((ff b hb).2 o q);exact⟨rD,q3⟩
 refine⟨λb o q n hb _=>kB _ _ (c.k1 b o q n hb),λb o q n hb _=>sl b o q n hb,u.free,λb o q _=>?_,u.eZ,u.d9,u.eK⟩;by_cases hb:b∈aX l
 ·obtain⟨sl,q1⟩:=sl b o q (ff b hb).1 hb;exact⟨_,q1⟩
 ·obtain⟨o',q1⟩:=c.k3 b o q hb;exact⟨o',kB _ _ q1⟩
theorem rF{P:Program}{w:World}{base B:Heap}{l:List Env}{H H':Hp}{h h1 h':Heap}(az:bQ P w H' h1)(c:Cut base B l H H' h)(k1:B.StaysIn h1)(kB:B.StaysIn h'):bQ P w H' h':=λb v e=>by
 refine(az b v e).d8 (λd z hd q=>?_) (λ_ q=>q) λ_ _ q=>q;have tr:∃v',H' d=some v':=by
  rcases hd with rfl | hd
  ·exact⟨_,e⟩
  ·exact⟨_,hd⟩
 obtain⟨v',e'⟩:=tr;obtain⟨o,q1⟩:=c.k2 d v' e';have:=k1 d o q1;rw[q] at this;cases this;exact kB _ _ q1
section
variable{X:Cx}{pins:List (Addr×Obj)}{σ:St}{H H':Hp}{s s':Shared}{a C:Addr}{h':Heap}{E:XK}
theorem Inv.ff(I:Inv X pins σ H s):∀b∈aX X.stack,H b=none/\∀o,s.heap.get? b=some o->∀vs,o.data≠.fields vs:=λb hb =>
 ⟨I.qm b hb,λo q=>by
  obtain⟨_,o2,q2,nf⟩:=I.stack.mem hb;rw[q] at q2;cases q2;exact nf⟩
noncomputable def Cx.within(X:Cx)(e:Value):Cx:={ X with A:=X.A.mark (some e),calm:=false,xe:=λ_ _=>False }
theorem Inv.within(I:Inv X pins σ H s)(e:Value):Inv (X.within e) pins σ H s :=
 ⟨⟨I.ok.mod,I.ok.kind,I.ok.glob,I.ok.blt,I.ok.above,I.ok.inj,I.ok.has,I.ok.l_,(λz=>nomatch z),I.ok.frames,I.ok.oH,I.ok.kK,I.ok.bs,I.ok.eN,I.ok.mh,I.ok.kL,I.ok.dP,I.ok.fL⟩,
  I.os,I.bare,I.base,I.loc,I.cell,I.free,I.fu,I.pin,I.az,I.len⟩
theorem Inv.out{e:Value}(I:Inv (X.within e) pins σ H s)(ok:X.Ok):Inv X pins σ H s :=
 ⟨ok,I.os,I.bare,I.base,I.loc,I.cell,I.free,I.fu,I.pin,I.az,I.len⟩
noncomputable def Cu(a C:Addr):HO:=.ext λh=>∃o,h.get? a=some o/\o.cls = .ref C
noncomputable def dZ(a C:Addr):Option Addr->HO
 | none=>Cu a C
 | some k=>.ext λh=>∃o,h.get? a=some o/\o.cls = .ref C/\o.dict=some (k / 2)/\∃vs,o.data = .fields vs/\(k % 2=0->vs[2]? = some .none)
theorem Kv{a C:Addr}:dZ a C none=Cu a C:=rfl
theorem Inv.T9{φ:Heap->Prop}(I:Inv X pins σ H s)(n:H a=none)(e0:X.aK.heap.get? a=none)(nL:a≠X.env.locals)(nc:∀x c,X.env.cells.lookup x=some c->c≠a)(np:∀p∈X.pn++pins,p.1≠a)(h:φ s.heap)(th:∃o,s.heap.get? a=some o)
  (st:∀h1 h2:Heap,φ h1->(∀o,h1.get? a=some o->h2.get? a=some o)->φ h2):Inv X pins σ (upd H a (.ext φ)) s:=by
 have ne:∀b v,H b=some v->b≠a:=λb v q z=>by rw[z,n] at q;cases q
 have up:∀b v,H b=some v->upd H a (.ext φ) b=some v:=λb v q=>by rw[au (ne b v q)];exact q
 have un:∀b,b≠a->H b=none->upd H a (.ext φ) b=none:=λb z q=>by rw[au z];exact q
 refine⟨I.ok,I.os,I.bare,⟨I.base.keep,I.base.slot,λb o q n' hx=>un b (λz=>by rw[z,e0] at q;cases q) (I.base.free b o q n' hx),I.base.there,λb xs q=>up b _ (I.base.eZ b xs q),λb o u q=>up b _ (I.base.d9 b o u q),λb ps q=>let ⟨m,z⟩:=I.base.eK b ps q;⟨m,up b _ z⟩⟩,
  I.loc,I.cell,un _ (Ne.symm nL) I.free,λx c q=>un c (nc x c q) (I.fu x c q),λp hp=>let ⟨q1,q2,q3⟩:=I.pin p hp;⟨q1,un _ (np p hp) q2,q3⟩,λb v q=>?_,I.len⟩
 by_cases z:b=a
 ·subst z;rw[aB] at q;cases q;exact⟨h,th,st⟩
 ·rw[au z] at q;exact(I.az b v q).d8 (λ_ _ _ e=>e) (λd e=>up d _ e) λd xs e=>up d _ e
end
noncomputable def XP(P:Program)(w:World)(base:Heap)(X:Cx)(pins:List (Addr×Obj))(σ:St)(E:XK)(e:Value)(s':Shared):Prop:=∃H1 s1,Inv X pins σ H1 s1/\eB P w base X.stack H1 s1 E e s'
noncomputable def nv(X:Cx)(E:XK)(e:Expr)(t:TE):Prop :=
 ∀(pins:List (Addr×Obj)) (s:Shared) (σ:St) (H:Hp) (Q:VK),Inv X pins σ H s->t σ H Q->wpAny (model X.prog X.w) X.A (eval e X.env) (EP X pins σ Q) (XP X.prog X.w X.base X pins σ E) s
section
variable{X:Cx}{k:Nat}{f C:Addr}{fd:FuncData}{ps:List Str}{sp:Sp}{aV:List V}{ds:List Value}{E:XK}{x m:Str}{p pos apos:Pos}{e o:Expr}{es:List Expr}{ta:TE}{t:TA}
theorem Kw{pins:List (Addr×Obj)}{σ:St}{H:Hp}{s:Shared}{Q:VK}{us:List Value}{vs:List V}(F:aU X.prog X.w X.K X.mg X.base (eB X.prog X.w X.base) k f fd ps sp)(hr:bR k X.A)(hb:Binds X.K fd ps ds)(hd:Vals aV ds)
  (I:Inv X pins σ H s) (r:Vals vs us) (h:sp (vs++aV) H Q E):wpAny (model X.prog X.w) X.A (call (.ref f) us) (EP X pins σ Q) (XP X.prog X.w X.base X pins σ E) s:=by
 have r2:Vals (vs++aV) (us++ds):=r.append hd;refine wpAny_call (codeAny_mono (F.run X.A X.stack s H ⟨us,[]⟩ (us++ds) (vs++aV) Q E hr I.oU (hb s us I.bC (r2.length.symm.trans (F.len _ _ _ _ h))) r2 h) λr s' hq=>?_)
 match r,hq with
 | .error e,hq=>exact⟨H,s,I,hq⟩
 | .ok (.ret u),hq=>exact I.after hq
 | .ok .next,hq=>exact False.elim hq
 | .ok .brk,hq=>exact False.elim hq
 | .ok .cont,hq=>exact False.elim hq
theorem Ky(F:aU X.prog X.w X.K X.mg X.base (eB X.prog X.w X.base) k f fd ps sp)(hr:bR k X.A)(hg:Gl X x)(hm:X.mg x=some (.ref f))(hk:PySem.W.keepIn X.K (.ref f)=true)(hb:Binds X.K fd ps ds)(hd:Vals aV ds)
  (ha:PA X.iu (e::es) t) (c_:(x == ("__debug__" : Str))=false:=by decide) (he:starEach (e::es) X.env=(false,eval e X.env)::starEach es X.env:=by rfl) (cZ:(backTo pos (starEach es X.env)).any (·.1)=false:=by rfl) :
  nv X E (.Call (.Name x p) (e::es) [] pos) (qK sp aV E t):=by
 intro pins s σ H Q I h;refine wpAny_Call_Name_kw (iR I hg hm ?_ c_);refine PySem.W.callWith_K (h₀:=X.base) I.ok.mod.ig hk (wpAny_mono (ha pos pins s σ H _ (I.gF _) h) (λus s1 ⟨vs,H1,I1,r,q⟩=>⟨I1.bC,?_⟩) λ_ _ z=>False.elim z) he cZ;exact Kw F hr hb hd I1.iw r q
theorem T_{pins:List (Addr×Obj)}{σ:St}{H:Hp}{s:Shared}{Q:VK}{us:List Value}{vs:List V}(M:Mk X.K C f)(F:aU X.prog X.w X.K X.mg X.base (eB X.prog X.w X.base) k f fd ps sp)(hr:bR (k+1) X.A)(hb:Binds X.K fd ps ds)(hd:Vals aV ds)
  (I:Inv X pins σ H s) (r:Vals vs us) (h:∀x dx,H x=none->H dx=none->dx≠x->sp (.ref x::(vs++aV)) (upd (upd H dx (.own x)) x (.ins C dx [])) (λv H2=>v = .aG/\Q (.ref x) H2) E) :
  wpAny (model X.prog X.w) X.A (call (.ref C) us) (EP X pins σ Q) (XP X.prog X.w X.base X pins σ E) s:=by
 have hq:=h (s.heap.objs.size+1) s.heap.objs.size (I.az.fresh (Nat.le_succ _)) (I.az.fresh (Nat.le_refl _)) (Nat.ne_of_lt (Nat.lt_succ_self _));have I2:=Inv.made (C:=C) I;have r2:Vals (V.ref (s.heap.objs.size+1)::(vs++aV)) (Value.ref (s.heap.objs.size+1)::(us++ds)):=.cons rfl (r.append hd);refine wpAny_call (IL (f:=f) I.bC M.makes M.init (beq_iff_eq.mp M.fn) (codeAny_mono (F.run _ X.stack _ _ ⟨Value.ref (s.heap.objs.size+1)::us,[]⟩ (Value.ref (s.heap.objs.size+1)::(us++ds)) _ _ E (hr.make C us [])
  (I2.oU.make C us []) (hb _ (Value.ref (s.heap.objs.size+1)::us) I2.bC (r2.length.symm.trans (F.len _ _ _ _ hq))) r2 hq) λr s' b_=>?_))
 match r,b_ with
 | .error e,b_=>exact⟨_,_,I2,b_⟩
 | .ok (.ret u),b_ =>
  obtain⟨v,H',I3,rv,ev,q3⟩:=I2.after b_;subst ev;exact⟨rv,⟨V.ref (s.heap.objs.size+1),H',I3,rfl,q3⟩⟩
 | .ok .next,b_=>exact False.elim b_
 | .ok .brk,b_=>exact False.elim b_
 | .ok .cont,b_=>exact False.elim b_
theorem Ua(M:Mk X.K C f)(F:aU X.prog X.w X.K X.mg X.base (eB X.prog X.w X.base) k f fd ps sp)(hr:bR (k+1) X.A)(hg:Gl X x)(hm:X.mg x=some (.ref C))(hb:Binds X.K fd ps ds)(hd:Vals aV ds)
  (ha:PA X.iu (e::es) t) (c_:(x == ("__debug__" : Str))=false:=by decide) (he:starEach (e::es) X.env=(false,eval e X.env)::starEach es X.env:=by rfl) (cZ:(backTo pos (starEach es X.env)).any (·.1)=false:=by rfl) :
  nv X E (.Call (.Name x p) (e::es) [] pos) (u_ C sp aV E t):=by
 intro pins s σ H Q I h;refine wpAny_Call_Name_kw (iR I hg hm ?_ c_);refine PySem.W.callWith_K (h₀:=X.base) I.ok.mod.ig M.kp (wpAny_mono (ha pos pins s σ H _ (I.gF _) h) (λus s1 ⟨vs,H1,I1,r,q⟩=>⟨I1.bC,?_⟩) λ_ _ z=>False.elim z) he cZ;exact T_ M F hr hb hd I1.iw r q
end
theorem pB{X:Cx}{P:Program}{w:World}{base:Heap}:Passes (eB P w base) X E0:=λ_ _ _ _ _ _ _ h=>by
 obtain⟨_,_,_,_,_,_,_,_,_,_,_,_,_,_,_,_,z⟩:=h;exact z.elim
theorem aP.vK{P:Program}{w:World}{K:PySem.W.Frag}{mg:Str->Option Value}{base:Heap}{x qual:Str}{st:Stmt}{f:Addr}{fd:FuncData}{N ps:List Str}{k:Nat}{sp:Sp}(F:aP K x qual st f fd)(S:bB N ps (aQ st))(len:∀vs H Q E,sp vs H Q E->vs.length=ps.length)
  (iV:∀(aO:Value) (A:Around) (outer:List Env) (s:Shared) (H:Hp) (vs:List V) (Q:VK) (E:XK),bR k (A.deeper (envOfC qual (aQ st) s.heap.objs.size f aO))->sp vs H Q E->
   ∃t,eO (fQ (eB P w base) P w K mg base N qual (aQ st) f aO A outer s H E) (cR st) t/\t { nx:=λ_ H'=>Q .aG H',rt:=Q } (start N vs) H):aU P w K mg base (eB P w base) (k+1) f fd ps sp:=by
 obtain⟨oc,od,kV,doc,pm,an,aO,ct,e7,rfl,lk,cu⟩:=F.ex;exact vd lk cu S len λA outer s H vs Q E hr dW=>iV aO A outer s H vs Q E hr dW
noncomputable def vL(X:Cx)(E:XK)(st:Stmt)(t:TS):Prop :=
 ∀(pins:List (Addr×Obj)) (s:Shared) (σ:St) (H:Hp) (D:Ends),Inv X pins σ H s->t D σ H->wpAny (model X.prog X.w) X.A (exec st X.env) (SP X pins D) (XP X.prog X.w X.base X pins σ E) s
section
variable{X:Cx}{E:XK}{e:Expr}{te:TE}{pos:Pos}
theorem Kz(he:nv X E e te)(hs:swapsWith e none pos.line X.env=pure false:=by rfl):vL X E (.Expr e pos) (uW te):=by
 intro pins s σ H D I h;exact wpAny_Expr_any (aN (he pins s σ H _ I h) λv s1 ⟨x,H1,I1,r1,q1⟩=>⟨σ,H1,I1,q1⟩) I.quiet hs
theorem Ub(he:nv X E e te):vL X E (.Return (some e) pos) (uX te):=by
 intro pins s σ H D I h;exact wpAny_Return_some (aN (he pins s σ H _ I h) λv s1 ⟨x,H1,I1,r1,q1⟩=>⟨x,σ,H1,I1,r1,q1⟩)
end
structure Fl(X:Cx)(pins:List (Addr×Obj))(σ:St)(a C:Addr)(a0:Value)(H1:Hp)(s1:Shared)(H':Hp)(B:Heap)(od:Option Addr)(s':Shared):Prop where
 I:Inv X pins σ H1 s1
 ho:s'.os=s1.os
 hg:AllBare s'.gens
 u:Un (aX X.stack) [] H1 H' s1.heap s'.heap
 az:bQ X.prog X.w H' s'.heap
 na:H' a=none
 nh:s1.heap.get? a=none
 c:Cut X.base B X.stack H1 H' s1.heap
 cC:Heap.FlyingW B X.stack a (.ref C) a0 s'.heap
 hd:cI s'.heap a od
section
variable{X:Cx}{pins:List (Addr×Obj)}{σ:St}{a C:Addr}{a0:Value}{H1 H':Hp}{s1 s':Shared}{B h':Heap}{od:Option Addr}
theorem Fl.move(x:Fl X pins σ a C a0 H1 s1 H' B od s')(cC:Heap.FlyingW B X.stack a (.ref C) a0 h')(up:s'.heap.UpToSlots h')(hd:cI h' a od):Fl X pins σ a C a0 H1 s1 H' B od { s' with heap:=h' } :=
 ⟨x.I,x.ho,x.hg,rE x.u x.c cC.1 up x.I.ff,rF x.az x.c x.cC.1 cC.1,x.na,x.nh,x.c,cC,hd⟩
theorem Fl.inv(x:Fl X pins σ a C a0 H1 s1 H' B od s'):Inv X pins σ H' s':=x.I.kM x.ho x.u x.az x.hg (λ_ z=>nomatch z)
theorem Fl.tracked(x:Fl X pins σ a C a0 H1 s1 H' B od s')(hex:X.ex = []):Inv X pins σ (upd H' a (dZ a C od)) s':=by
 have no:∀b o,s1.heap.get? b=some o->b≠a:=λb o q z=>by rw[z,x.nh] at q;cases q
 obtain⟨m,⟨oL,_,_,jt,_⟩,_⟩:=x.I.loc;have f1:X.aK.heap.get? a=none:=by
  cases q:X.aK.heap.get? a with
  | none=>rfl
  | some o =>
   obtain⟨o1,q1⟩:=x.I.base.there a o q (by rw[hex];simp)
   rw[x.nh] at q1;cases q1
 have f2:∀y c,X.env.cells.lookup y=some c->c≠a:=λy c e=>by
  obtain⟨v,o,q,_⟩:=x.I.cell y c e;exact no _ _ q
 have tr:=λφ=>x.inv.T9 (φ:=φ) x.na f1 (Ne.symm (no _ _ jt)) f2 (λp hp=>no _ _ (x.I.pin p hp).1);have th:∃o,s'.heap.get? a=some o:=let ⟨o,q,_⟩:=x.cC.there;⟨o,q⟩
 cases od with
 | none=>exact tr _ x.cC.there th λh1 h2 ⟨o,q,z⟩ k=>⟨o,k o q,z⟩
 | some d =>
  refine tr _ ?_ th λh1 h2 ⟨o,q,z⟩ k=>⟨o,k o q,z⟩;obtain⟨o,vs,q,z,y,_⟩:=x.cC.first;obtain⟨o',q',z',c'⟩:=x.hd;rw[q] at q';cases q';refine⟨o,q,z,z',vs,y,λhk=>?_⟩
  have:=c' _ rfl hk;unfold _L.f2 at this;rw[y] at this;exact this
end
section
variable{X:Cx}{pins:List (Addr×Obj)}{σ:St}{H:Hp}{s:Shared}
theorem vM{M:Model}{A:Around}{E:Value->Shared->Prop}{i:Nat}{n:Str}{pos:Pos}{Q:Unit->Shared->Prop}(I:Inv X pins σ H s)(hN:X.N.Nodup)(hi:X.N[i]? = some n)(hk:X.env.kindOf n=some .local)
  (h:∀s',Inv X pins (σ.set i none) H s'->Q () s'):wpAny M A (do bindName X.env n .none;unbindBehindTheSuite X.env n pos) Q E s:=by
 obtain⟨m,hn,hl⟩:=id I.loc;have mj:(X.env.scope.kind == .class || (X.env.scope.kind == .module && X.env.locals != X.env.globals))=false:=by rw[I.ok.kind];rfl
 have iQ:=I.iQ;refine wpAny_nameGoes_keeps hk hn mj λh' v fM hs=>?_;have old:∀b o,X.aK.heap.get? b=some o->h'.get? b=s.heap.get? b:=λb o e=>hs.2 b (Nat.ne_of_lt (Nat.lt_of_lt_of_le (Heap.lt_size e) I.ok.above));refine h _ ⟨I.ok,I.os,I.bare,⟨λb o e n hb hx=>?_,λb o e n hb hx=>?_,I.base.free,λb o e hx=>?_,I.base.eZ,I.base.d9,I.base.eK⟩,⟨_,fM,λj y v' e1 e2 e3=>?_⟩,λy c e=>?_,I.free,I.fu,λp hp=>?_,λb ob e=>?_,by simpa using I.len⟩
 ·exact(old b o e).trans (I.base.keep b o e n hb hx)
 ·obtain⟨sl,e1⟩:=I.base.slot b o e n hb hx;exact⟨sl,(old b o e).trans e1⟩
 ·obtain⟨o',e1⟩:=I.base.there b o e hx;exact⟨o',(old b o e).trans e1⟩
 ·by_cases hj:j=i
  ·subst hj;rw[List.getElem?_set] at e2;simp only[if_true] at e2;split at e2 <;> cases e2
  ·rw[List.getElem?_set_ne (Ne.symm hj)] at e2;obtain⟨u',r',q⟩:=hl j y v' e1 e2 e3;refine⟨u',r',?_⟩;rcases q with⟨k,e⟩ | ⟨k,c,e,z⟩
   ·refine .inl ⟨k,?_⟩;have:y≠n:=λe=>hj (AG hN e1 (e▸hi));simp[this,e]
   ·exact .inr ⟨k,c,e,z.sameBut hs (iQ y c e)⟩
 ·obtain⟨w',z⟩:=I.cell y c e;exact⟨w',z.sameBut hs (iQ y c e)⟩
 ·obtain⟨e,n,ne,nf,d⟩:=I.pin p hp;exact⟨(hs.2 p.1 ne).trans e,n,ne,nf,d⟩
 ·refine(I.az b ob e).d8 (λc w' hc q=>(hs.2 c ?_).trans q) (λ_ q=>q) λ_ _ q=>q;rintro rfl;rcases hc with z | hc
  ·rw[← z,I.free] at e;cases e
  ·rw[I.free] at hc;cases hc
end
noncomputable def mroIn(K:PySem.W.Frag)(C:Addr):List Value:=match K.lookup C with
 | some ⟨_,_,.cls cd,_⟩=>cd.mro
 | _=>[]
noncomputable def subIn(K:PySem.W.Frag)(C:Addr)(c:Value):Bool:=(mroIn K C).contains c
theorem KA{K:PySem.W.Frag}{C:Addr}{c:Value}{b:Bool}(h:PySem.W.mroIn K C c=some b):subIn K C c=b:=by
 unfold PySem.W.mroIn PySem.W.clsIn at h;unfold subIn mroIn;cases e:K.lookup C with
 | none=>rw[e] at h;cases h
 | some o =>
  rw[e] at h;obtain⟨c0,d0,dt,sl⟩:=o;cases dt <;> first | (cases h;done) | skip
  simp only[Option.bind_some] at h;split at h
  ·cases h
  ·exact Option.some.inj h
theorem Uc{K:PySem.W.Frag}{C:Addr}{c:Value}{b:Bool}(h:PySem.W.mroIn K C c=some b):(PySem.W.clsIn K C).isSome=true:=by
 unfold PySem.W.mroIn at h;cases e:PySem.W.clsIn K C with
 | none=>rw[e] at h;cases h
 | some cd=>rfl
noncomputable def ki(K:PySem.W.Frag)(C:Addr)(c8:List Value)(newId:String):Bool:=match K.lookup C with
 | some ⟨.type "type",_,.cls cd,sl⟩=>(match cd.mro,sl.toList with
  | .ref C'::bm,[_,_,_,_,some (.builtin n),_]=>C' == C && n == newId && !cd.hasDel && PySem.W.tailIn K c8 bm && PySem.W.nsOkIn K cd.ns
  | _,_=>false)
 | _=>false
theorem Ud{K:PySem.W.Frag}{C:Addr}{c8:List Value}{newId:String}(q:PySem.W.excIn K C c8 newId=true):ki K C c8 newId=true:=by
 unfold PySem.W.excIn at q;unfold ki;cases e:K.lookup C with
 | none=>rw[e] at q;cases q
 | some o =>
  rw[e] at q;split at q
  ·rename_i dd cd sl ho;cases ho;split at q
   ·rename_i C' bm k0 k1 k2 k3 n k5 hm hs;simp only[Bool.and_eq_true] at q;simp only[hm,hs,Bool.and_eq_true];exact q.1
   ·cases q
  ·cases q
structure g_(K:PySem.W.Frag)(C:Addr):Prop where
 ex:∃bm id,ki K C bm id=true/\bm.contains (.type "BaseException")=true
theorem g_.of{K:PySem.W.Frag}{C:Addr}{bm:List Value}{id:String}(q:PySem.W.excIn K C bm id=true)(h:bm.contains (.type "BaseException")=true):g_ K C:=⟨bm,id,Ud q,h⟩
theorem KC{K:PySem.W.Frag}{h₀:Heap}{C:Addr}(X:K.In h₀)(x:g_ K C) :
  ∃bm N nm q bs hdct sn sub ab col dd k0 k1 k2 k3 k5 newId,h₀.get? C=some (excClassObj nm q C N bs bm hdct sn sub ab col dd k0 k1 k2 k3 k5 newId)/\mroIn K C = .ref C::bm/\bm.contains (.type "BaseException")=true:=by
 obtain⟨c8,newId,q,hb⟩:=x.ex;unfold ki at q;unfold mroIn;cases e:K.lookup C with
 | none=>rw[e] at q;cases q
 | some o =>
  rw[e] at q;split at q
  ·rename_i dd cd sl ho;cases ho;split at q
   ·rename_i C' bm k0 k1 k2 k3 n k5 hm hs;simp only[Bool.and_eq_true,beq_iff_eq,Bool.not_eq_true'] at q;obtain⟨⟨⟨⟨c1,c2⟩,c3⟩,c4⟩,c5⟩:=q;obtain⟨nm,bs,mro,ns,qn,hd,sn,sub,ab,col,del⟩:=cd;obtain⟨l⟩:=sl;dsimp only at hm hs c3 c5;subst c1 c2 hm c3 hs;exact⟨bm,ns,nm,qn,bs,hd,sn,sub,ab,col,dd,k0,k1,k2,k3,k5,n,X _ _ e,rfl,(PySem.W.tail_of_in X c4).hasType hb⟩
   ·cases q
  ·cases q
theorem KG{M:Model}{A:Around}{E:Value->Shared->Prop}{K:PySem.W.Frag}{s:Shared}{e C C2:Addr}{oe:Obj}{Q:Bool->Shared->Prop}(X:K.In s.heap)(x:g_ K C)(y:g_ K C2)(he:s.heap.get? e=some oe)(mj:oe.cls = .ref C)
  (hq:Q (subIn K C (.ref C2)) s):wpAny M A (excMatches (.ref e) (.ref C2)) Q E s:=by
 obtain⟨bm,N,nm,q,bs,hdct,sn,sub,ab,col,dd,k0,k1,k2,k3,k5,newId,hC,hm,_⟩:=KC X x;obtain⟨Ue,N2,nm2,q2,bs2,acK,sn2,acL,ab2,acM,dd2,k02,k12,k22,k32,k52,acN,rG,vN,h_⟩:=KC X y;have pC:(Value.ref C2::Ue).contains (.type "BaseException")=true:=by rw[List.contains_cons,h_,Bool.or_true]
 unfold subIn at hq;rw[hm] at hq;have f:=tc_notTuple;obtain⟨h,g,d,t,os⟩:=s;unfold excMatches
 repeat (first | (with_reducible refine wpAny_loadPart_at he ?_;rw[mj]) | with_reducible refine wpAny_loadPart_at rG ?_ | (with_reducible refine wpAny_isSubtype_exc rG ?_;rw[pC]) | (with_reducible refine wpAny_isSubtype_exc hC ?_) | wp_step)
 all_goals first | exact hq | (cases hh:(Value.ref C::bm).contains (.ref C2) <;> (rw[hh] at hq;wp_walk;exact hq))
noncomputable abbrev TH:=Option Addr->Addr->Addr->Ends->St->Hp->Prop
noncomputable def PH(X:Cx)(hs:List ExceptHandler)(t:TH):Prop :=
 ∀(pins:List (Addr×Obj)) (σ:St) (a C:Addr) (a0:Value) (H1:Hp) (s1:Shared) (H':Hp) (B:Heap) (od:Option Addr) (s':Shared) (D:Ends) (E:Value->Shared->Prop),Fl X pins σ a C a0 H1 s1 H' B od s'->g_ X.K C->t od C a D σ H'->
  wpAny (model X.prog X.w) X.A (handleBy (.ref a) X.env hs) (SP X pins D) E s'
theorem Cv{X:Cx}:PH X [] (λ_ _ _ _ _ _=>False):=λ_ _ _ _ _ _ _ _ _ _ _ _ _ _ _ h=>h.elim
noncomputable def vO(i:Nat)(D:Ends):Ends:={ nx:=λσ H=>D.nx (σ.set i none) H,rt:=D.rt,bk:=λσ H=>D.bk (σ.set i none) H,ct:=λσ H=>D.ct (σ.set i none) H }
noncomputable def Cw(K:PySem.W.Frag)(C2:Addr)(i:Nat)(ts:Addr->TS)(t:TH):TH:=λod C a D σ H =>
 (subIn K C (.ref C2)=true/\ts a (vO i D) (σ.set i (some (.ref a))) (upd H a (dZ a C od)))\/(subIn K C (.ref C2)=false/\t od C a D σ H)
theorem KH{X:Cx}{x n:Str}{np rH:Pos}{b₀:Stmt}{KI:List Stmt}{rest:List ExceptHandler}{C2:Addr}{i:Nat}{ts:Addr->TS}{t:TH}(hg:Gl X x)(hm:X.mg x=some (.ref C2))(y:g_ X.K C2)(hN:X.N.Nodup)(hi:X.N[i]? = some n)
  (hk:X.env.kindOf n=some .local) (hex:X.ex = []) (hs:∀a,eO (X.within (.ref a)) (b₀::KI) (ts a)) (hr:PH X rest t) (c_:(x == ("__debug__" : Str))=false:=by decide) :
  PH X (.ExceptHandler (some (.Name x np)) (some n) (b₀::KI) rH::rest) (Cw X.K C2 i ts t):=by
 intro pins σ a C a0 H1 s1 H' B od s' D E F xc h;obtain⟨ob,Cy,Cz⟩:=F.cC.there;refine wpAny_handleBy_cons (codeAny_handlers_test (iR (X:=X.within (.ref a)) (F.inv.within (.ref a)) hg hm (KG F.inv.bC xc y Cy Cz ?_) c_)) (by intro q;cases q)
 rcases h with⟨hb,h⟩ | ⟨hb,h⟩
 ·rw[hb];refine codeAny_handlers_suite_as (Ks F.cC F.hd λh6 CB rJ pD=>?_);have F6:=F.move CB rJ pD;refine uT (X:=X.within (.ref a)) (i:=i) (v:=V.ref a) ((F6.tracked hex).within (.ref a)) hN hi (.inl hk) rfl (λs2 I2=>?_) (.inr hk);refine wpAny_mono (hs a pins s2 _ _ (vO i D) I2 h) (λf s3 q=>?_) λ_ _ z=>False.elim z;cases f with
  | next=>obtain⟨aR,H2,J,q⟩:=q;exact vM (J.out F.I.ok) hN hi hk λs4 J4=>⟨_,_,J4,q⟩
  | brk=>obtain⟨aR,H2,J,q⟩:=q;exact vM (J.out F.I.ok) hN hi hk λs4 J4=>⟨_,_,J4,q⟩
  | cont=>obtain⟨aR,H2,J,q⟩:=q;exact vM (J.out F.I.ok) hN hi hk λs4 J4=>⟨_,_,J4,q⟩
  | ret u=>obtain⟨v,aR,H2,J,r,q⟩:=q;exact vM (J.out F.I.ok) hN hi hk λs4 J4=>⟨v,_,_,J4,r,q⟩
 ·rw[hb];exact hr pins σ a C a0 H1 s1 H' B od s' D E F xc h
theorem KJ{X:Cx}{e:Value}:(X.within e).K=X.K:=rfl
noncomputable def CC(K:PySem.W.Frag)(th:TH)(D:Ends)(σ:St):XK:=λcls od H'=>∃C,cls = .ref C/\g_ K C/\∀a,H' a=none->th od C a D σ H'
noncomputable def vP(K:PySem.W.Frag)(tb:XK->TS)(th:TH):TS:=λD σ H=>tb (CC K th D σ) D σ H
theorem KL{X:Cx}{st:Stmt}{h₀:ExceptHandler}{hs:List ExceptHandler}{pos:Pos}{tb:XK->TS}{th:TH}(bX:X.stack=X.env::X.outer)(hf:X.env.frame=some X.env.locals)(hb:∀E,vL X E st (tb E))(hh:PH X (h₀::hs) th) :
  PS X (.Try [st] (h₀::hs) [] [] pos) (vP X.K tb th):=by
 intro pins s σ H D I h;refine wpAny_Try_except (wpAny_execs_cons (wpAny_mono (hb _ pins s σ H D I h) (λf s1 q=>?_) λe s' z=>?_))
 ·cases f with
  | next=>exact wpAny_execs_nil (wpAny_execs_nil q)
  | ret v=>exact q
  | brk=>exact q
  | cont=>exact q
 ·obtain⟨H1,s1,I1,a,C,a0,H',B,od,rfl,ho,hg,u,az,na,nh,c,cC,hd,C',eC,xc,hE⟩:=z;cases eC;have F:Fl X pins σ a C a0 H1 s1 H' B od s':=⟨I1,ho,hg,u,az,na,nh,c,cC,hd⟩;have lC:=cC;rw[bX] at lC;refine Cs (by rw[I1.ok.frames,bX]) hf lC hd λh4 held lD lE=>?_
  refine Kr held lE λh5 rK rL lF=>?_;rw[← bX] at rK;exact hh pins σ a C a0 H1 s1 H' B _ _ D _ (F.move rK (lD.trans rL) lF) xc (hE a na)
end _L
namespace _L
open PySem PySem.Spec PyProof.Rows PySem.W PySem.Builtin.ObjectAttr PySem.Builtin.Getset_descriptor
section
variable{prog:Program}{w:World}{A:Around}{E:Value->Shared->Prop}{s:Shared}{K:Frag}{x D:Addr}{ox:Obj}{name:Str}
structure nA(K:Frag)(D:Addr):Prop where
 ga:findIn K (.ref D) "__getattribute__" = some (some (.builtin "BaseException.__getattribute__"))
 gt:findIn K (.ref D) "__getattr__" = some none
 mro:PySem.W.mroIn K D (.type "BaseException")=some true
 obj:PySem.W.mroIn K D (.type "object")=some true
 cl:findIn K (.ref D) "__class__" = some (some (.builtin "object.__class__"))
 sp:specialIn K (.builtin "object.__class__") "__get__" = some (some (.builtin "getset_descriptor.__get__"))
 tk:takesIn K (.builtin "object.__class__")=some true
theorem CF{M:Model}{h:Heap}(hx:h.get? x=some ox)(hc:ox.cls = .ref D):Looks M h (typeOf (.ref x)) (.ref D):=hc▸(Looks.ld hx).andThen .now
theorem Ug{M:Model}{h:Heap}{a g:Value}(X:K.In h)(ha:findIn K (.ref D) name=some (some a))(hg:specialIn K a "__get__" = some (some g))(ht:takesIn K a=some true):Looks M h (find (.ref x) (.ref D) name) (.bind g a):=by
 have L1:=looks_findIn (M:=M) X ha;have _L:Looks M h (getOf (some a)) (some g):=looks_specialIn X hg;have L3:=looks_takesIn (M:=M) X ht;refine L1.andThen (_L.andThen ?_);refine Looks.andThen (a:=some (g,a)) ?_ (Looks.tag .now);unfold dataDescriptor?;refine L3.andThen ?_;exact .now
theorem Uh{g a:Value}{tk:Tok}{Q:Value->Shared->Prop}(T:Looks (model prog w) s.heap (typeOf (.ref x)) (.ref D))(L1:Looks (model prog w) s.heap (find (.ref x) (.ref D) name) (.bind g a))(h:wpAny (model prog w) A (call g [a,.ref x,.ref D]) Q E s) :
  wpAny (model prog w) A (Builtin.«object.__getattribute__» ⟨[.ref x,.str name tk],[]⟩) (λfin s'=>match fin with | .done (.ret v)=>Q v s' | _=>False) E s:=by
 obtain⟨hh,gg,d,t,os⟩:=s;refine wpAny_bind (wpAny_pure (wpAny_bind (wpAny_pure (wpAny_bind (T.at (wpAny_bind (L1.at ?_)))))))
 show wpAny _ _ (holding [a] (call g [a,.ref x,.ref D]) >>= ret) _ _ _;exact wpAny_bind (wpAny_holding (wpAny_mono h (λv s' z=>wpAny_pure z) λ_ _ z=>z))
theorem Ui{v:Value}{tk:Tok}{Q:Value->Shared->Prop}(T:Looks (model prog w) s.heap (typeOf (.ref x)) (.ref D))(L1:Looks (model prog w) s.heap (find (.ref x) (.ref D) name) (.value v))(h:Q v s) :
  wpAny (model prog w) A (Builtin.«object.__getattribute__» ⟨[.ref x,.str name tk],[]⟩) (λfin s'=>match fin with | .done (.ret v)=>Q v s' | _=>False) E s:=by
 obtain⟨hh,gg,d,t,os⟩:=s;exact wpAny_bind (wpAny_pure (wpAny_bind (wpAny_pure (wpAny_bind (T.at (wpAny_bind (L1.at (wpAny_pure h))))))))
theorem Uj{nameV:Value}{Q:Unit->Shared->Prop}(X:K.In s.heap)(T:Looks (model prog w) s.heap (typeOf (.ref x)) (.ref D))(G:nA K D)(hq:Q () s):wpAny (model prog w) A (checkBuiltinCall "BaseException.__getattribute__" ⟨[.ref x,nameV],[]⟩) Q E s:=by
 have hk:builtinKind "BaseException.__getattribute__" = some .slot:=by decide +kernel
 have Uk:splitId "BaseException.__getattribute__" = some ("BaseException", "__getattribute__"):=by decide +kernel
 obtain⟨hh,gg,d,t,os⟩:=s;have L1:=looks_mroIn (M:=model prog w) X G.mro;have ha:=F.args_bexc_ga (.ref x) nameV;simp only[checkBuiltinCall,hk,Uk];refine wpAny_bind ?_;unfold isInstance
 repeat (first | lk | wp_step)
 exact hq
theorem KN{tk:Tok}{fill expr:Bool}{Q:Value->Shared->Prop}(X:K.In s.heap)(T:Looks (model prog w) s.heap (typeOf (.ref x)) (.ref D))(G:nA K D)
  (h:∀A,wpAny (model prog w) A (Builtin.«object.__getattribute__» ⟨[.ref x,.str name tk],[]⟩) (λfin s'=>match fin with | .done (.ret v)=>handedIn v=true/\Q v s' | _=>False) (λ_ _=>False) s) :
  wpAny (model prog w) A (getAttrBy (.ref x) (.str name tk) fill expr) Q E s:=by
 have f3:=F.attr_ValueError.ga.bind (.ref x);have Ul:(expr && onTheHeap (Value.builtin "BaseException.__getattribute__"))=false:=by cases expr <;> rfl
 have rM:(onTheHeap (Value.ref D) && Value.builtin "BaseException.__getattribute__" == Value.builtin "object.__getattribute__")=false:=by
  rw[show (Value.builtin "BaseException.__getattribute__" == Value.builtin "object.__getattribute__")=false from by decide +kernel];rfl
 have Um:=λ{A:Around} {E:Value->Shared->Prop} {Q:Unit->Shared->Prop}=>Uj (prog:=prog) (w:=w) (A:=A) (E:=E) (nameV:=.str name tk) (Q:=Q) X T G;obtain⟨hh,gg,d,t,os⟩:=s;have L1:=looks_findIn (M:=model prog w) X G.ga;have _L:=looks_findIn (M:=model prog w) X G.gt;unfold getAttrBy;refine wpAny_holding (wpAny_bind (T.at (wpAny_bind (L1.at ?_))));simp only[rM,Bool.false_eq_true,if_false];unfold getAttrByItsOwn hookBefore;simp only[onTheHeap,if_true];refine wpAny_bind (_L.at (wpAny_bind (wpAny_attempt (wpAny_holding ?_))));unfold callGetattribute boundAndCalled;simp only[Ul,Bool.false_eq_true,if_false,f3];refine wpAny_bind (wpAny_pure (wpAny_call (codeAny_call_builtin F.attr_ValueError.ga.plain F.entry_bexc_ga (Um (wpAny_mono (h _) (λfin s' z=>?_) λ_ _ z=>False.elim z)))));rcases fin with(_ | _ | _ | v) | _ <;> first | exact handed_on z.1 z.2 | exact z.elim
theorem Uo{R:Result->Shared->Prop}{tp:Value}(X:K.In s.heap)(L0:Looks (model prog w) s.heap (typeOf (.ref x)) (.ref D))(hm:PySem.W.mroIn K D (.type "object")=some true)
  (h:R (.ok (.ret (.ref D))) s):codeAny (model prog w) A (.call (.builtin "getset_descriptor.__get__") ⟨[.builtin "object.__class__",.ref x,tp],[]⟩) R s:=by
 obtain⟨hh,g,dr,t,os⟩:=s;have L1:=looks_mroIn (M:=model prog w) X hm;refine codeAny_call_builtin KF.slot_gs.plain KF.entry_gs (KF.slot_gs.check _ _ _ _ _ _ _ _ KF.type_class (KF.args_gs _ _ _) ?_);unfold Builtin.«getset_descriptor.__get__» descrGet;rw[dga_obj];refine wpAny_bind (wpAny_pure ?_);unfold descrGetter descrCheckInstance descrNameAndClass isInstance;simp only[KF.owner_class]
 repeat lk
 refine⟨Code.quiet_builtin _ (by decide +kernel),codeAny_builtin KF.entry_class ?_⟩
 unfold Builtin.«object.__class__» shownTypeOf
 repeat lk
 exact h
theorem Up{Q:Option Value->Shared->Prop}(X:K.In s.heap)(T:∀s':Shared,s'.heap=s.heap->Looks (model prog w) s'.heap (typeOf (.ref x)) (.ref D))(G:nA K D)(h:Q (some (.ref D)) { s with toks:=s.toks+1 }) :
  wpAny (model prog w) A (getAttr? (.ref x) "__class__") Q E s:=by
 unfold getAttr? getAttrBy?;refine wpAny_bind (wpAny_mkText (wpAny_bind (wpAny_attempt ?_)));refine KN (s:={ s with toks:=s.toks+1 }) X (T _ rfl) G λA=>?_
 refine wpAny_mono (Uh (s:={ s with toks:=s.toks+1 }) (Q:=λv s'=>v = .ref D/\s' = { s with toks:=s.toks+1 }) (T _ rfl) (Ug X G.cl G.sp G.tk) (wpAny_call (Uo (s:={ s with toks:=s.toks+1 }) X (T _ rfl) G.obj ⟨rfl,rfl⟩))) (λfin s' z=>?_) λ_ _ z=>z;rcases fin with(_ | _ | _ | v) | _ <;> first | exact z.elim | (obtain⟨rfl,rfl⟩:=z;exact⟨rfl,wpAny_pure h⟩)
end
theorem Uq{K:Frag}{x D:Addr}(G:nA K D)(hc:(clsIn K D).isSome=true):KitX K (.ref x) (.ref D) (λh=>∃o,h.get? x=some o/\o.cls = .ref D) where
 ty:=λ_ _ _ ⟨o,h1,h2⟩=>CF h1 h2
 it:=λ_ _ X _=>by
  obtain⟨cd,cu⟩:=Option.isSome_iff_exists.mp hc;unfold clsIn at cu;split at cu
  ·rename_i ho;intro A' Q' E' s' k q;unfold isType loadHead;exact wpAny_bind (wpAny_loadPart (k _ _ (X _ _ ho)) (wpAny_pure q))
  ·cases cu
 ne:=λh tp dd aA n sl X Ur=>by
  obtain⟨cd,cu⟩:=Option.isSome_iff_exists.mp hc;refine Bool.eq_false_iff.mpr λq=>?_
  have e:D=tp:=Value.ref.inj (beq_iff_eq.mp q);subst e;unfold clsIn at cu;split at cu
  ·rename_i ho;have z:=(X _ _ ho).symm.trans Ur;cases z
  ·cases cu
 ca:=λ{_ _ _ _ _ s} X ⟨o,h1,h2⟩ k=>Up X (λs' e=>by rw[e];exact CF h1 h2) G k
section
variable{X:Cx}
theorem Ut{pins:List (Addr×Obj)}{σ:St}{H:Hp}{s:Shared}{a C:Addr}{od:Option Addr}(I:Inv X pins σ H s)(e:H a=some (dZ a C od)):∃o,s.heap.get? a=some o/\o.cls = .ref C:=by
 cases od with
 | none =>
  obtain⟨h,_,_⟩:=(show bW X.prog X.w H s.heap a (Cu a C) from I.az a _ e);exact h
 | some d =>
  obtain⟨⟨o,h1,h2,_⟩,_,_⟩:=(show bW X.prog X.w H s.heap a (dZ a C (some d)) from I.az a _ e);exact⟨o,h1,h2⟩
theorem KO:fP X (.builtin "isinstance") (λxs H Q=>∃a C c v b,xs = [.ref a,v]/\((∃C2,v = .ref C2/\c = .ref C2)\/(∃T,v = .ty T/\c = .type T))/\(∃od,H a=some (dZ a C od))/\nA X.K C/\(clsIn X.K C).isSome=true/\kitOne X.K (.ref C) c=some b/\Q (.bl b) H):=by
 intro pins s σ H xs us Q I r h;obtain⟨a,C,c,v,b,rfl,hv,⟨od,ea⟩,G,hc,e,q⟩:=h;obtain⟨u,v',rfl,ru,rv⟩:=vals2 r;cases (show u=Value.ref a from ru);have ev:v' = c:=by
  rcases hv with⟨C2,rfl,rfl⟩ | ⟨T,rfl,rfl⟩
  ·exact rv
  ·exact rv
 subst ev;exact kia_one (Uq G hc) I.bC (Ut I ea) e (λz=>nomatch z) λtk=>⟨.bl b,H,I.tok _,rfl,q⟩
end
end _L
namespace _L
open PySem PySem.Spec PyProof.Rows PySem.W
noncomputable def cN{α:Type}(lt:Nat->Nat->Bool):KasT α->α
 | .ret a=>a
 | .ask i j k=>cN lt (k (lt i j))
theorem pF{α β:Type}{lt:Nat->Nat->Bool}{f:α->KasT β}:∀t:KasT α,cN lt (t.bind f)=cN lt (f (cN lt t))
 | .ret _=>rfl
 | .ask i j k=>pF (k (lt i j))
section
variable(key:Nat->Int)
noncomputable def kk(p:Array Nat)(i:Nat):Int:=key (p.getD i 0)
noncomputable def klt:Nat->Nat->Bool:=λi j=>decide (key i<key j)
noncomputable def jc(p:Array Nat)(m:Nat):Prop:=∀i j,i<j->j<m->kk key p i<kk key p j
noncomputable def rN(p:Array Nat)(m:Nat):Prop:=∀i j,i<j->j<m->kk key p j<kk key p i
noncomputable def iH(p:Array Nat):Prop:=∀i j,i<p.size->j<p.size->kk key p i=kk key p j->i=j
variable{key}{p:Array Nat}
theorem rO{i j:Nat}(c:kk key p i<kk key p j):klt key (p.getD i 0) (p.getD j 0)=true:=decide_eq_true c
theorem CG{p q:Array Nat}{i j:Nat}(h:p[i]? = q[j]?):kk key p i=kk key q j:=by
 unfold kk;rw[Array.getD_eq_getD_getElem?,Array.getD_eq_getD_getElem?,h]
theorem CH{m i:Nat}(hm:m<=p.size)(hi:i<m):kk key (kas_rev p 0 m) i=kk key p (m - 1 - i):=CG (by
 unfold kas_rev;rw[getElem?_mirror_all hm,if_pos ⟨Nat.zero_le _,hi⟩];congr 1;lia)
theorem CI:∀(f n:Nat),1<=n->n+f<=p.size->iH key p->jc key p n->n<=cN (klt key) (kas_asc p f n)/\cN (klt key) (kas_asc p f n)<=n+f/\jc key p (cN (klt key) (kas_asc p f n))/\
  (cN (klt key) (kas_asc p f n)<n+f->kk key p (cN (klt key) (kas_asc p f n))<kk key p (cN (klt key) (kas_asc p f n) - 1))
 | 0,n,_,_,_,h=>⟨Nat.le_refl _,Nat.le_refl _,h,λz=>absurd z (Nat.lt_irrefl _)⟩
 | f+1,n,h1,hz,hd,h=>by
  by_cases c:kk key p n<kk key p (n - 1)
  ·have e:cN (klt key) (kas_asc p (f+1) n)=n:=by
    show cN (klt key) (if klt key (p.getD n 0) (p.getD (n - 1) 0)=true then _ else _)=n
    rw[if_pos (rO c)];rfl
   rw[e];exact⟨Nat.le_refl _,by lia,h,λ_=>c⟩
  ·have e:cN (klt key) (kas_asc p (f+1) n)=cN (klt key) (kas_asc p f (n+1)):=by
    show cN (klt key) (if klt key (p.getD n 0) (p.getD (n - 1) 0)=true then _ else _)=_
    rw[if_neg (by unfold klt;rw[decide_eq_true_eq];exact c)]
   have hn:kk key p (n - 1)<kk key p n:=by
    have:kk key p (n - 1)≠kk key p n:=λz=>by have:=hd _ _ (by lia) (by lia) z;lia
    lia
   have h':jc key p (n+1):=λi j pG hj=>by
    by_cases e1:j=n
    ·subst e1;by_cases e2:i=j - 1
     ·subst e2;exact hn
     ·have:=h i (j - 1) (by lia) (by lia);lia
    ·exact h i j pG (by lia)
   obtain⟨a,b,c1,c2⟩:=CI f (n+1) (by lia) (by lia) hd h'
   rw[e];exact⟨by lia,by lia,c1,λz=>c2 (by lia)⟩
theorem KP:∀(f n:Nat),2<=n->n+f<=p.size->iH key p->rN key p n->∃m,cN (klt key) (kas_desc f p n 0)=(p,m,0)/\n<=m/\m<=n+f/\rN key p m
 | 0,n,_,_,_,h=>⟨n,rfl,Nat.le_refl _,Nat.le_refl _,h⟩
 | f+1,n,h1,hz,hd,h=>by
  by_cases c:kk key p n<kk key p (n - 1)
  ·have e:cN (klt key) (kas_desc (f+1) p n 0)=cN (klt key) (kas_desc f p (n+1) 0):=by
    show cN (klt key) (if klt key (p.getD n 0) (p.getD (n - 1) 0)=true then(if 0 > 0 then _ else _) else _)=_
    rw[if_pos (rO c),if_neg (by lia)]
   have h':rN key p (n+1):=λi j pG hj=>by
    by_cases e1:j=n
    ·subst e1;by_cases e2:i=j - 1
     ·subst e2;exact c
     ·have:=h i (j - 1) (by lia) (by lia);lia
    ·exact h i j pG (by lia)
   obtain⟨m,a,b,c1,c2⟩:=KP f (n+1) (by lia) (by lia) hd h'
   exact⟨m,e.trans a,by lia,by lia,c2⟩
  ·have hn:kk key p (n - 1)<kk key p n:=by
    have:kk key p (n - 1)≠kk key p n:=λz=>by have:=hd _ _ (by lia) (by lia) z;lia
    lia
   refine⟨n,?_,Nat.le_refl _,by lia,h⟩
   show cN (klt key) (if klt key (p.getD n 0) (p.getD (n - 1) 0)=true then _ else _)=_
   rw[if_neg (by unfold klt;rw[decide_eq_true_eq];exact c)]
   show cN (klt key) (if klt key (p.getD (n - 1) 0) (p.getD n 0)=true then _ else _)=_
   rw[if_pos (rO hn)];rfl
theorem Uu{m:Nat}(hm:m<=p.size)(h:iH key p):iH key (kas_rev p 0 m):=λi j hi hj e=>by
 have hs:(kas_rev p 0 m).size=p.size:=mirror_size _ _ _ _;rw[hs] at hi hj;have at_:∀i,kk key (kas_rev p 0 m) i=kk key p (if i<m then m - 1 - i else i):=λi=>by
  by_cases z:i<m
  ·rw[if_pos z,CH hm z]
  ·rw[if_neg z];exact CG (by unfold kas_rev;rw[getElem?_mirror_all hm,if_neg (by lia)])
 rw[at_,at_] at e;have:=h _ _ (by split <;> lia) (by split <;> lia) e
 split at this <;> split at this <;> lia
theorem Uv{n gP:Nat}(h1:1<=n)(hn:n<=gP)(hz:gP<=p.size)(hd:iH key p)(h:rN key p n) :
  ∃m q,cN (klt key) (kas_tail3 n gP p)=(m,q)/\1<=m/\m<=gP/\q.Perm p/\iH key q/\jc key q m:=by
 have cJ:=Uu (Nat.le_trans hn hz) hd;have ha:jc key (kas_rev p 0 n) n:=λi j pG hj=>by
  rw[CH (by lia) (by lia),CH (by lia) hj]
  exact h _ _ (by lia) (by lia)
 have hs:(kas_rev p 0 n).size=p.size:=mirror_size _ _ _ _;obtain⟨a,b,c,_⟩:=CI (p:=kas_rev p 0 n) (gP - n) n h1 (by lia) cJ ha
 exact⟨_,_,by unfold kas_tail3;rw[pF];rfl,by lia,by lia,mirror_perm _ _ _ _,cJ,c⟩
theorem Uw{gP:Nat}(h1:1<=gP)(hz:gP<=p.size)(hd:iH key p) :
  ∃m q,cN (klt key) (kas_count gP p)=(m,q)/\1<=m/\m<=gP/\q.Perm p/\iH key q/\jc key q m:=by
 obtain⟨a,b,c,d⟩:=CI (p:=p) (gP - 1) 1 (by lia) (by lia) hd (λi j _ _=>by lia)
 unfold kas_count;rw[pF];generalize cN (klt key) (kas_asc p (gP - 1) 1)=n at a b c d;by_cases e:n=gP
 ·rw[if_pos (by rw[beq_iff_eq];exact e)]
  exact⟨n,p,rfl,a,by lia,Array.Perm.refl _,hd,c⟩
 ·rw[if_neg (by rw[beq_iff_eq];exact e)]
  by_cases g:n > 1
  ·rw[if_pos g];refine⟨n,p,?_,a,by lia,Array.Perm.refl _,hd,c⟩
   show cN (klt key) (if klt key (p.getD 0 0) (p.getD (n - 1) 0)=true then _ else _)=_
   rw[if_pos (rO (c _ _ (by lia) (by lia)))];rfl
  ·rw[if_neg g];have en:n=1:=by lia
   subst en;have d1:=d (by lia)
   have Ux:rN key p 2:=λi j pG hj=>by
    have e1:j=1:=by lia
    have e2:i=0:=by lia
    subst e1 e2;exact d1
   obtain⟨m,e1,e2,e3,e4⟩:=KP (p:=p) (gP - 2) 2 (by lia) (by lia) hd Ux
   unfold kas_descPart;rw[pF,show (1+1)=2 from rfl,e1];dsimp only;rw[if_neg (by lia)]
   exact Uv (by lia) (by lia) hz hd e4
theorem CJ{k:Nat}:∀(f l r:Nat),r - l<=f->l<=r->r<=k->k<p.size->iH key p->jc key p k->(∀i,i<l->kk key p i<kk key p k)->(∀i,r<=i->i<k->kk key p k<kk key p i)->
  ∃m,cN (klt key) (kas_place p k f l r)=m/\m<=k/\(∀i,i<m->kk key p i<kk key p k)/\(∀i,m<=i->i<k->kk key p k<kk key p i)
 | 0,l,r,hf,Uy,hr,hk,hd,ha,h1,h2=>⟨l,rfl,by lia,h1,λi a b=>h2 i (by lia) b⟩
 | f+1,l,r,hf,Uy,hr,hk,hd,ha,h1,h2=>by
  unfold kas_place;by_cases c:l ≥ r
  ·rw[if_pos c];exact⟨l,rfl,by lia,h1,λi a b=>h2 i (by lia) b⟩
  ·rw[if_neg c]
   show ∃m,cN (klt key) (if klt key (p.getD k 0) (p.getD ((l+r) / 2) 0)=true then _ else _)=m/\_
   have hm:(l+r) / 2<r:=by lia
   have hl:l<=(l+r) / 2:=by lia
   generalize (l+r) / 2=q at hm hl;by_cases d:kk key p k<kk key p q
   ·rw[if_pos (rO d)];refine CJ f l q (by lia) hl (by lia) hk hd ha h1 λi a b=>?_
    by_cases e:i=q
    ·subst e;exact d
    ·have:=ha q i (by lia) b;lia
   ·rw[if_neg (by unfold klt;rw[decide_eq_true_eq];exact d)]
    have hq:kk key p q<kk key p k:=by
     have:kk key p q≠kk key p k:=λz=>by have:=hd _ _ (by lia) (by lia) z;lia
     lia
    refine CJ f (q+1) r (by lia) (by lia) hr hk hd ha (λi a=>?_) h2
    by_cases e:i=q
    ·subst e;exact hq
    ·have:=ha i q (by lia) (by lia);lia
theorem vQ{k l i:Nat}(hk:k<p.size)(hl:l<=k):kk key (bubble p k (k - l)) i=kk key p (if i=l then k else if l<i/\i<=k then i - 1 else i):=CG (by
 rw[getElem?_bubble hk _ (by lia),show k - (k - l)=l by lia]
 split
 ·rfl
 ·split <;> rfl)
theorem KQ:∀(f:Nat) (p:Array Nat) (k:Nat),k+f=p.size->iH key p->jc key p k->∃q,cN (klt key) (kas_bin f p k)=q/\q.Perm p/\jc key q p.size
 | 0,p,k,hz,hd,ha=>⟨p,rfl,Array.Perm.refl _,by rw[← hz];exact ha⟩
 | f+1,p,k,hz,hd,ha=>by
  obtain⟨l,e,hl,h1,h2⟩:=CJ (p:=p) (k:=k) k 0 k (by lia) (by lia) (Nat.le_refl _) (by lia) hd ha (λi z=>by lia) (λi a b=>by lia)
  unfold kas_bin;rw[pF,e];have hs:(bubble p k (k - l)).size=p.size:=bubble_size _ _ _;have cJ:iH key (bubble p k (k - l)):=λi j hi hj z=>by
   rw[hs] at hi hj;rw[vQ (by lia) hl,vQ (by lia) hl] at z
   have:=hd _ _ (by split;lia;split <;> lia) (by split;lia;split <;> lia) z
   repeat' split at this
   all_goals lia
  have Uz:jc key (bubble p k (k - l)) (k+1):=λi j pG hj=>by
   rw[vQ (by lia) hl,vQ (by lia) hl]
   by_cases e1:i=l
   ·rw[if_pos e1,if_neg (by lia),if_pos (by lia)]
    exact h2 _ (by lia) (by lia)
   ·rw[if_neg e1];by_cases e2:j=l
    ·rw[if_neg (by lia),if_pos e2]
     exact h1 _ (by lia)
    ·rw[if_neg e2];split <;> split
     ·exact ha _ _ (by lia) (by lia)
     ·exact ha _ _ (by lia) (by lia)
     ·exact ha _ _ (by lia) (by lia)
     ·exact ha _ _ (by lia) (by lia)
  obtain⟨q,e3,e4,e5⟩:=KQ f (bubble p k (k - l)) (k+1) (by lia) cJ Uz
  exact⟨q,e3,e4.trans (bubble_perm _ _ _),by rw[hs] at e5;exact e5⟩
theorem UA{n:Nat}(h1:1<=n)(hi:∀i j,i<n->j<n->key i=key j->i=j):∃q,cN (klt key) (kas_sort n)=q/\q.Perm (List.toArray (List.range n))/\jc key q n:=by
 have KR:∀i,i<n->(List.toArray (List.range n)).getD i 0=i:=λi h=>by
  rw[Array.getD_eq_getD_getElem?];simp[h]
 have hd:iH key (List.toArray (List.range n)):=λi j gI lG e=>by
  have a:i<n:=by simpa using gI
  have b:j<n:=by simpa using lG
  unfold kk at e;rw[KR i a,KR j b] at e;exact hi i j a b e
 have hz:(List.toArray (List.range n)).size=n:=by simp
 obtain⟨m,q,e1,e2,e3,e4,e5,e6⟩:=Uw (p:=List.toArray (List.range n)) h1 (by lia) hd
 have hq:q.size=n:=by rw[e4.size_eq,hz]
 unfold kas_sort;rw[pF,e1];by_cases c:m<n
 ·rw[if_pos c];have em:max m 1=m:=by lia
  rw[em];obtain⟨q',a,b,d⟩:=KQ (n - m) q m (by lia) e5 e6
  exact⟨q',a,b.trans e4,by rw[hq] at d;exact d⟩
 ·rw[if_neg c];have:m=n:=by lia
  subst this;exact⟨q,rfl,e4,e6⟩
end
section
variable{prog:Program}{w:World}{A:Around}{E:Value->Shared->Prop}{s:Shared}
noncomputable def CK(h:Heap)(a:Addr)(d r:Int):Prop:=∃o t u n,h.get? a=some o/\o.cls = .type "tuple"/\o.data = .seq #[.int d t,.int r u] n
theorem UB{x y:Addr}{d1 r1 d2 r2:Int}{Q:Bool->Shared->Prop}(hx:CK s.heap x d1 r1)(hy:CK s.heap y d2 r2)(h:Q (decide (d1<d2\/(d1=d2/\r1<r2))) s) :
  wpAny (model prog w) A (keyLt' (tuples' true) (.ref x) (.ref y)) Q E s:=by
 obtain⟨ox,t1,u1,n1,ex,_,dx⟩:=hx;obtain⟨oy,t2,u2,n2,ey,_,dy⟩:=hy;refine kat_lt ex dx ey dy (kat_cons (wpAny_eqBool_int ?_));by_cases e:d1=d2
 ·subst e;rw[beq_self_eq_true];refine kat_yes (kat_cons (wpAny_eqBool_int ?_));by_cases e2:r1=r2
  ·subst e2;rw[beq_self_eq_true];refine kat_yes (kat_nil ?_);have z:decide (d1<d1\/(d1=d1/\r1<r1))=decide ((#[Value.int d1 t1,Value.int r1 u1]:Array Value).size<(#[Value.int d1 t2,Value.int r1 u2]:Array Value).size):=by
    rw[decide_eq_decide];simp
   rw[← z];exact h
  ·rw[beq_eq_false_iff_ne.mpr e2];refine kat_no ?_
   show wpAny _ _ (oneLt' false _ _) _ _ _;refine kat_one _ _ (lt_int ?_);have z:decide (d1<d1\/(d1=d1/\r1<r2))=decide (r1<r2):=by rw[decide_eq_decide];simp
   rw[z] at h;exact h
 ·rw[beq_eq_false_iff_ne.mpr e];refine kat_no ?_
  show wpAny _ _ (oneLt' true _ _) _ _ _;refine oneLt_int ?_;have z:decide (d1<d2\/(d1=d2/\r1<r2))=decide (d1<d2):=by rw[decide_eq_decide];simp[e]
  rw[z] at h;exact h
noncomputable def vR(h:Heap)(ks:List Value)(kv:List (Int×Int)):Prop:=ks.length=kv.length/\∀i (hi:i<kv.length),∃a,ks.getD i Value.none = .ref a/\CK h a (kv[i]).1 (kv[i]).2
noncomputable def iI(kv:List (Int×Int))(i:Nat):Int:=(kv.getD i (0,0)).1*64+(kv.getD i (0,0)).2
theorem UC{ks:List Value}{kv:List (Int×Int)}{i j:Nat}{C:Bool->Shared->Prop}(hk:vR s.heap ks kv)(hb:∀q∈kv,0<=q.2/\q.2<64)(hi:i<kv.length)(hj:j<kv.length)(h:C (klt (iI kv) i j) s) :
  kas_ask prog w A (tuples' true) ks i j C s:=by
 obtain⟨a,ea,pa⟩:=hk.2 i hi;obtain⟨b,eb,pb⟩:=hk.2 j hj;unfold kas_ask;rw[ea,eb];have h1:=hb _ (List.getElem_mem hi);have h2:=hb _ (List.getElem_mem hj);have z:klt (iI kv) i j=decide ((kv[i]).1<(kv[j]).1\/((kv[i]).1=(kv[j]).1/\(kv[i]).2<(kv[j]).2)):=by
  unfold klt iI;rw[decide_eq_decide,show kv.getD i (0,0)=kv[i] by simp[hi],show kv.getD j (0,0)=kv[j] by simp[hj]]
  constructor
  ·intro q;lia
  ·intro q;lia
 rw[z] at h;exact UB pa pb h
end
noncomputable def KB{α:Type}(n:Nat)(P:α->Prop):KasT α->Prop
 | .ret a=>P a
 | .ask i j k=>i<n/\j<n/\∀b,KB n P (k b)
theorem KB.bind{α β:Type}{n:Nat}{P:α->Prop}{R:β->Prop}{f:α->KasT β}(hf:∀a,P a->KB n R (f a)):∀t:KasT α,KB n P t->KB n R (t.bind f)
 | .ret a,h=>hf a h
 | .ask i j k,h=>⟨h.1,h.2.1,λb=>KB.bind hf (k b) (h.2.2 b)⟩
theorem KS{α:Type}{n:Nat}{P:α->Prop}{cmp:Nat->Nat->(Bool->Shared->Prop)->Shared->Prop}{lt:Nat->Nat->Bool}{s:Shared}(hc:∀i j C,i<n->j<n->C (lt i j) s->cmp i j C s) :
  ∀(t:KasT α) (Q:α->Shared->Prop),KB n P t->Q (cN lt t) s->t.kasWp cmp Q s
 | .ret _,_,_,h=>h
 | .ask i j k,Q,z,h=>hc i j _ z.1 z.2.1 (KS hc (k (lt i j)) Q (z.2.2 _) h)
noncomputable def AllLt(n:Nat)(p:Array Nat):Prop:=0<n/\∀x∈p.toList,x<n
section
variable{n:Nat}{p q:Array Nat}
theorem AllLt.at(h:AllLt n p)(i:Nat):p.getD i 0<n:=by
 rw[Array.getD_eq_getD_getElem?];cases e:p[i]? with
 | none=>exact h.1
 | some x=>exact h.2 x (List.mem_of_getElem? (by rw[← Array.getElem?_toList] at e;exact e))
theorem AllLt.perm(h:AllLt n p)(e:q.Perm p):AllLt n q:=⟨h.1,λx hx=>h.2 x (e.toList.mem_iff.mp hx)⟩
theorem AllLt.rev(h:AllLt n p)(i j:Nat):AllLt n (kas_rev p i j):=h.perm (mirror_perm _ _ _ _)
theorem CL(h:AllLt n p):∀f m,KB n (λ_=>True) (kas_asc p f m)
 | 0,_=>trivial
 | f+1,m=>⟨h.at _,h.at _,λb=>by
  show KB n _ (if b=true then _ else _)
  cases b
  ·exact CL h f (m+1)
  ·trivial⟩
theorem vU:∀(f:Nat) (p:Array Nat) (m q:Nat),AllLt n p->KB n (λr=>AllLt n r.1) (kas_desc f p m q)
 | 0,p,_,_,h=>h
 | f+1,p,m,q,h=>⟨h.at _,h.at _,λb=>by
  show KB n _ (if b=true then(if q > 0 then _ else _) else _)
  cases b
  ·refine⟨h.at _,h.at _,λd=>?_⟩
   show KB n _ (if d=true then _ else _)
   cases d
   ·exact vU f p _ _ h
   ·exact h
  ·rw[if_pos rfl];split
   ·exact vU f _ _ _ (h.rev _ _)
   ·exact vU f _ _ _ h⟩
theorem KU{m r:Nat}(h:AllLt n p):KB n (λr=>AllLt n r.2) (kas_tail3 m r p):=by
 unfold kas_tail3;refine KB.bind (P:=λ_=>True) (λa _=>?_) _ (CL (h.rev _ _) _ _)
 show AllLt n _;exact h.rev _ _
theorem KW{m r:Nat}(h:AllLt n p):KB n (λr=>AllLt n r.2) (kas_descPart m r p):=KB.bind (λa ha=>by
 split
 ·exact KU (ha.rev _ _)
 ·exact KU ha) _ (vU _ _ _ _ h)
theorem UD{r:Nat}(h:AllLt n p):KB n (λr=>AllLt n r.2) (kas_count r p):=KB.bind (λm _=>by
 split
 ·exact h
 ·split
  ·refine⟨h.at _,h.at _,λb=>?_⟩
   show KB n _ (if b=true then _ else _)
   cases b
   ·exact KW (h.rev _ _)
   ·exact h
  ·exact KW h) _ (CL h _ _)
theorem CM{k:Nat}(h:AllLt n p):∀f l r,KB n (λ_=>True) (kas_place p k f l r)
 | 0,_,_=>trivial
 | f+1,l,r=>by
  unfold kas_place;split
  ·trivial
  ·refine⟨h.at _,h.at _,λb=>?_⟩
   show KB n _ (if b=true then _ else _)
   cases b
   ·exact CM h f _ _
   ·exact CM h f _ _
theorem KY:∀(f:Nat) (p:Array Nat) (k:Nat),AllLt n p->KB n (AllLt n) (kas_bin f p k)
 | 0,_,_,h=>h
 | f+1,p,k,h=>KB.bind (λl _=>KY f _ _ (h.perm (bubble_perm _ _ _))) _ (CM h _ _ _)
theorem UE(h:1<=n):KB n (AllLt n) (kas_sort n):=KB.bind (λr hr=>by
 split
 ·exact KY _ _ _ hr
 ·exact hr) _ (UD ⟨h,λx hx=>by simpa using hx⟩)
end
theorem UG{prog:Program}{w:World}{A:Around}{s:Shared}{ks:List Value}{kv:List (Int×Int)}{Q:Array Nat->Shared->Prop}(h1:1<=kv.length)(hk:vR s.heap ks kv)(hb:∀q∈kv,0<=q.2/\q.2<64)(hd:kv.Nodup)
  (h:∀p:Array Nat,p.Perm (List.toArray (List.range kv.length))->(∀i j,i<j->j<kv.length->iI kv (p.getD i 0)<iI kv (p.getD j 0))->Q p s) :
  (kas_sort kv.length).kasWp (kas_ask prog w A (tuples' true) ks) Q s:=by
 have hi:∀i j,i<kv.length->j<kv.length->iI kv i=iI kv j->i=j:=λi j a b e=>by
  unfold iI at e;rw[show kv.getD i (0,0)=kv[i] by simp[a],show kv.getD j (0,0)=kv[j] by simp[b]] at e
  have z1:=hb _ (List.getElem_mem a);have z2:=hb _ (List.getElem_mem b);have e1:(kv[i]).1=(kv[j]).1:=by lia
  have e2:(kv[i]).2=(kv[j]).2:=by lia
  exact(List.getElem_inj hd).mp (Prod.ext e1 e2)
 obtain⟨q,e,hp,ha⟩:=UA (key:=iI kv) h1 hi;exact KS (lt:=klt (iI kv)) (λi j C a b c=>UC hk hb a b c) _ _ (UE h1) (by rw[e];exact h q hp ha)
end _L
namespace _L
open PySem PySem.Spec PyProof.Rows
noncomputable abbrev CN(qual:Str)(scope:Scope)(L f c':Addr)(cl:List (Str×Addr)):Env:=PySem.W.envX qual scope L f (.ref c') cl
noncomputable def rP(X:Cx)(A:Around)(qual:Str)(scope:Scope)(f c':Addr)(cl:List (Str×Addr))(N:List Str)(s:Shared)(H:Hp):Cx where
 prog:=X.prog
 w:=X.w
 K:=X.K
 mg:=X.mg
 base:=X.base
 A:=A.deeper (CN qual scope s.heap.objs.size f c' cl)
 N:=N
 aK:=s
 cF:=H
 env:=CN qual scope s.heap.objs.size f c' cl
 outer:=X.stack
 stack:=CN qual scope s.heap.objs.size f c' cl::X.stack
 ex:=[]
 fn:=λ_=>false
 calm:=X.calm
 pn:=[]
 xe:=λ_ _=>False
structure jd(X:Cx)(scope:Scope)(cl:List (Str×Addr))(ps fs:List Str)(fv:List Nat):Prop where
 i7:closureFor scope X.env=pure cl
 kind:scope.kind = .function
 co:scope.isCoroutine=false
 gen:scope.isGenerator=false
 iC:∀y∈scope.names,y.2≠.cell
 par:∀y∈ps,scope.names.lookup y=some .local
 sub:∀p∈cl,X.env.cells.lookup p.1=some p.2
 has:∀y∈scope.names,y.2 = .free->∃c,cl.lookup y.1=some c
 free:fv.map (λj=>X.N[j]?)=fs.map some
 fk:∀y∈fs,scope.names.lookup y=some .free/\X.env.scope.names.lookup y=some .cell
 nd:(ps++fs).Nodup
theorem KZ{α:Type}:∀ {l:List (Str×α)} {x:Str} {v:α},(l.map (·.1)).Nodup->(x,v)∈l->l.lookup x=some v
 | (y,u)::r,x,v,nd,hm=>by
  rw[List.map_cons,List.nodup_cons] at nd;rcases List.mem_cons.mp hm with e | e
  ·cases e;simp[List.lookup_cons]
  ·have:x≠y:=λz=>nd.1 (by rw[← z];exact List.mem_map.mpr ⟨_,e,rfl⟩)
   rw[List.lookup_cons,beq_eq_false_iff_ne.mpr this];exact KZ nd.2 e
section
variable{X:Cx}{pins:List (Addr×Obj)}{σ:St}{H:Hp}{s:Shared}{scope:Scope}{cl:List (Str×Addr)}{ps fs:List Str}{fv:List Nat}{A:Around}{qual:Str}{f c':Addr}
noncomputable def lH(σ:St)(vs:List V)(fv:List Nat):St:=vs.map some++fv.map λj=>(σ[j]?).getD none
theorem jd.cell(S:jd X scope cl ps fs fv){x:Str}{c:Addr}(e:cl.lookup x=some c):X.env.cells.lookup x=some c:=S.sub (x,c) (k8 e)
theorem UH{ps:List Str}{us:List Value}{i:Nat}{x:Str}{u:Value}(nd:ps.Nodup)(e1:ps[i]? = some x)(e2:us[i]? = some u):(ps.zip us).reverse.lookup x=some u:=by
 have CO:((ps.zip us).reverse.map (·.1)).Nodup:=by
  rw[List.map_reverse];refine List.pairwise_reverse.mpr (List.Pairwise.imp Ne.symm (show ((ps.zip us).map (·.1)).Nodup from ?_));have:(ps.zip us).map (·.1)=ps.take us.length:=by
   clear e1 e2 nd
   induction ps generalizing us with
   | nil=>simp
   | cons a r ih=>cases us with
    | nil=>simp
    | cons b q=>simp[ih]
  rw[this];exact nd.sublist (List.take_sublist _ _)
 have hm:(x,u)∈(ps.zip us).reverse:=by
  rw[List.mem_reverse];refine List.mem_of_getElem? (i:=i) ?_;rw[List.getElem?_zip_eq_some];exact⟨e1,e2⟩
 exact KZ CO hm
theorem jd.inv(S:jd X scope cl ps fs fv)(I:Inv X pins σ H s)(hA:A.frames=some X.stack)(hd:X.calm=true->A.handled=none){h1:Heap}{tk:Nat}{us:List Value}{vs:List V}(r:Vals vs us)(hl:vs.length=ps.length)
  (old:∀b o,s.heap.get? b=some o->h1.get? b=some o) (iZ:h1.Ns s.heap.objs.size λy=>(ps.zip us).reverse.lookup y) :
  Inv (rP X A qual scope f c' cl (ps++fs) s H) [] (lH σ vs fv) H { s with heap:=h1,toks:=tk }:=by
 have I1:Inv X pins σ H { s with heap:=h1,toks:=tk }:=I.kept old;have hlen:fv.length=fs.length:=by simpa using congrArg List.length S.free
 refine⟨⟨I.ok.mod,S.kind,rfl,rfl,Nat.le_refl _,λx y c e1 e2=>I.ok.inj x y c (S.cell e1) (S.cell e2),λx hx=>?_,λx c z _=>?_,hd,Around.frames_deeper hA,.inr ⟨rfl,rfl⟩,λb z=>absurd (show b∈([]:List Addr) from z) (by simp),I.bs,Nat.le_trans I.ok.eN I.sz,
  λb _ _ z=>absurd (show b∈([]:List Addr) from z) (by simp),λb z=>absurd (show b∈([]:List Addr) from z) (by simp),I.stack,I.qm⟩,rfl,I.bare,Un.kept old,⟨_,iZ,λi x v e1 e2 e3=>?_⟩,λx c e=>?_,I.az.fresh (Nat.le_refl _),λx c e=>I.fu x c (S.cell e),
  λp hp=>absurd (show p∈([]:List (Addr×Obj)) from hp) (by simp),I1.az,?_⟩
 ·have hx:scope.names.lookup x=some .cell\/scope.names.lookup x=some .free:=hx;rcases hx with z | z
  ·exact absurd rfl (S.iC _ (k8 z))
  ·exact S.has _ (k8 z) rfl
 ·cases (show false=true from z)
 ·have e1:(ps++fs)[i]? = some x:=e1;unfold lH at e2;by_cases hi:i<ps.length
  ·rw[List.getElem?_append_left hi] at e1;rw[List.getElem?_append_left (by simp;lia),List.getElem?_map] at e2
   cases hv:vs[i]? with
   | none=>rw[hv] at e2;simp at e2
   | some v' =>
    rw[hv] at e2;simp only[Option.map_some,Option.some.injEq] at e2;subst e2;obtain⟨u,hu,ru⟩:=r.get hv;exact⟨u,ru,.inl ⟨S.par x (List.mem_of_getElem? e1),UH (List.nodup_append.mp S.nd).1 e1 hu⟩⟩
  ·rw[List.getElem?_append_right (by lia)] at e1
   rw[List.getElem?_append_right (by simp;lia)] at e2
   simp only[List.length_map,List.getElem?_map,hl] at e2;cases hj:fv[i - ps.length]? with
   | none=>rw[hj] at e2;simp at e2
   | some j =>
    rw[hj] at e2;simp only[Option.map_some,Option.some.injEq] at e2;have hN:X.N[j]? = some x:=by
     have q:=congrArg (λl=>l[i - ps.length]?) S.free;simp only[List.getElem?_map,hj,Option.map_some] at q;rw[e1] at q;exact(Option.some.inj q)
    have B4:σ[j]? = some (some v):=by
     cases z:σ[j]? with
     | none=>rw[z] at e2;simp at e2
     | some y=>rw[z] at e2;simp at e2;rw[e2]
    obtain⟨f1,f2⟩:=S.fk x (List.mem_of_getElem? e1);obtain⟨m,hn,UI⟩:=I1.loc;obtain⟨u,ru,lk⟩:=UI j x v hN B4 (.inr (.inl f2));refine⟨u,ru,?_⟩;rcases lk with⟨k,_⟩ | ⟨_,c,ec,hc⟩
    ·have k:X.env.scope.names.lookup x=some .local:=k;rw[f2] at k;cases k
    ·obtain⟨c2,e'⟩:=S.has _ (k8 f1) rfl;have:=S.cell e';rw[ec] at this;cases this;exact .inr ⟨.inr f1,c,e',hc⟩
 ·obtain⟨v,z⟩:=I1.cell x c (S.cell e);exact⟨v,z⟩
 ·unfold lH
  show _=(ps++fs).length;simp only[List.length_append,List.length_map];lia
theorem UJ{name:Str}{params:Arguments}{body:Expr}{te:TE}{pm cW:Value}{us:List Value}{vs:List V}{Q:VK}(S:jd X scope cl ps fs fv)(I:Inv X pins σ H s)(hA:A.frames=some X.stack)(hd:X.calm=true->A.handled=none)(jF:A.depth<recursionLimit)
  (ho:s.heap.get? f=some (PySem.W.kla_obj name qual params body scope cl pm c' cW)) (cu:s.heap.CodeRec (.ref c') qual)
  (iB:bindArgs (PySem.W.kla_fn name qual params body scope cl pm (.ref c') cW) ⟨us,[]⟩=pure (ps.zip us)) (r:Vals vs us) (hl:vs.length=ps.length)
  (he:PE (rP X A qual scope f c' cl (ps++fs) s H) body te) (h:te (lH σ vs fv) H Q) :
  wpAny (model X.prog X.w) A (call (.ref f) us) (λu s'=>∃v H',Inv X pins σ H' s'/\RelV v u/\Q v H'/\Un (aX X.stack) [] H H' s.heap s'.heap) (λ_ _=>False) s:=by
 refine wpAny_call (PySem.W.kla_callFunE (A:=A) jF ho rfl S.co S.gen rfl cu ?_);rw[iB];refine wpAny_pure (wpAny_newFunctionEnv S.iC (λy hy=>S.par _ (List.of_mem_zip hy).1) (λh1 iZ K3=>⟨(I.nolimit).fresh _ K3,?_⟩) S.kind);have old:∀b o,s.heap.get? b=some o->h1.get? b=some o:=λb o e=>K3.extBut b o (Nat.ne_of_lt (Heap.lt_size e)) (Heap.get?_push_of_some _ e);have J:=S.inv (qual:=qual) (f:=f) (c':=c') (A:=A) (tk:=s.toks+(ps.zip us).length) I hA hd r hl old iZ;refine PySem.W.kla_codeExpr (wpAny_mono (he [] _ _ _ Q J h) (λu s' hq=>?_) λ_ _ z=>False.elim z);obtain⟨v,H',J',rv,q⟩:=hq;exact⟨v,H',I.kM J'.os J'.base J'.az J'.bare (λ_ z=>nomatch z),rv,q,J'.base⟩
end
noncomputable def lI(c':Addr)(qual:Str):HO:=.ext λh=>h.CodeRec (.ref c') qual
noncomputable def cD(P:Addr)(pos:Pos)(qual:Str)(H:Hp):Prop:=∃ps,H P=some (.dm ps)/\TriplesOk ps.toList/\(codeAmong pos ps.toList=none\/∃c',codeAmong pos ps.toList=some (.ref c')/\H c' = some (lI c' qual))
structure bx(mg:Str->Option Value)(base:Heap)(c P:Addr):Prop where
 hd:PySem.W.CodeHd base c P
 bm:∃bm ob,mg "__builtins__" = some (.ref bm)/\bm≠builtinsNs/\base.get? bm=some ob/\ob.cls = .type "module"/\ob.dict=some builtinsNs/\ob.data = .plain
theorem UK{P:Program}{w:World}{H:Hp}{h:Heap}{c':Addr}{qual:Str}(x:h.CodeRec (.ref c') qual):bW P w H h c' (lI c' qual):=by
 refine⟨x,?_,λh1 h2 y k=>?_⟩
 ·obtain⟨c,o,vs,t,e,g,_⟩:=x;cases e;exact⟨o,g⟩
 ·obtain⟨c,o,vs,t,e,g,r⟩:=y;cases e;exact⟨c',o,vs,t,rfl,k o g,r⟩
theorem UL{P:Program}{w:World}{H:Hp}{h:Heap}{c':Addr}{qual:Str}(x:bQ P w H h)(e:H c' = some (lI c' qual)):h.CodeRec (.ref c') qual:=(x c' _ e).1
theorem K4{a b:Int}{t u:Tok}{c:Value}:∀ {l:List Value},TriplesOk l->TriplesOk (l++[.int a t,.int b u,c])
 | [],_=>trivial
 | .int _ _::.int _ _::_::r,h=>K4 (l:=r) h
section
variable{X:Cx}{pins:List (Addr×Obj)}{σ:St}{H:Hp}{s:Shared}{scope:Scope}{cl:List (Str×Addr)}{M:Model}{A:Around}{E:Value->Shared->Prop}{name qual:Str}{params:Arguments}{body:Expr}{pos:Pos}{firstLine:Nat}{c P:Addr}
theorem UM{Q:Value->Shared->Prop}(B:bx X.mg X.base c P)(pH:X.env.code = .ref c)(vV:closureFor scope X.env=pure cl)(I:Inv X pins σ H s)(hT:cD P pos qual H)
  (h:∀(f c':Addr) (cW pm:Value) (H':Hp) (s':Shared),Inv X ((f,PySem.W.kla_obj name qual params body scope cl pm c' cW)::pins) σ H' s'->SameBut P H H'->cD P pos qual H'->H' c' = some (lI c' qual)->Q (.ref f) s') :
  wpAny M A (makeFunction name qual params (.expr body) scope X.env [] [] [] pos firstLine) Q E s:=by
 obtain⟨ps,hP,tr,hc⟩:=hT;have oP:s.heap.get? P=some (PySem.W.tabObj ps):=I.az P _ hP;have CQ:s.heap.Ns mainGlobals X.mg:=I.mod.glob.keeps I.bk;obtain⟨bm,ob,b1,b2,b3,b4,b5,b6⟩:=B.bm;have UN:mainGlobals≠P:=λq=>by
  obtain⟨o,es,ep,e,hd,_⟩:=CQ;rw[q,oP] at e;cases e;cases hd
 have UO:bm≠P:=λq=>by
  have e:=I.bk _ _ b3;rw[q,oP] at e;cases e;cases b4
 have UP:bm≠mainGlobals:=λq=>by
  obtain⟨o,es,ep,e,hd,_⟩:=I.mod.glob;rw[q,e] at b3;cases b3;rw[hd] at b6;cases b6
 have K5:s.heap.BuiltinsAt X.mg P:=⟨bm,ob,b1,b2,UP,UO,I.bk _ _ b3,b4,b5,b6⟩;have nf:∀(h1:Heap) (o:Obj),s.heap.objs.size<=h1.objs.size->(h1.push o).get? h1.objs.size=some o->True:=λ_ _ _ _=>trivial;have LP:X.env.locals≠P:=λz=>by rw[← z,I.free] at hP;cases hP
 rcases hc with hc | ⟨c',hc,K6⟩
 ·refine PySem.W.kla_makeFunction (mg:=X.mg) vV I.ok.glob CQ pH (B.hd.keeps I.bk) oP tr hc UN K5 λc' cW h1 tk hx vW bO UQ UR=>?_;have nc:H c' = none:=I.az.fresh vW;have cP:c'≠P:=λz=>by rw[z,hP] at nc;cases nc
  have kp:∀b o,b≠P->s.heap.get? b=some o->(h1.push (PySem.W.kla_obj name qual params body scope cl ((X.mg "__name__").getD .none) c' cW)).get? b=some o:=λb o hb e=>Heap.get?_push_of_some _ (hx b o hb e);have K7:=Heap.get?_push_of_some (PySem.W.kla_obj name qual params body scope cl ((X.mg "__name__").getD .none) c' cW) UR;have pI:∀b u,H b=some u->b≠P->upd (upd H P (.dm (ps ++ #[rawInt pos.line,rawInt pos.col,.ref c']))) c' (lI c' qual) b=some u:=λb u e hb=>by
   rw[au (λz=>by rw[z,nc] at e;cases e),au hb];exact e
  have I1:Inv X pins σ (upd (upd H P (.dm (ps ++ #[rawInt pos.line,rawInt pos.col,.ref c']))) c' (lI c' qual)) { s with heap:=h1.push (PySem.W.kla_obj name qual params body scope cl ((X.mg "__name__").getD .none) c' cW),toks:=tk }:=by
   refine I.step (g':=s.gens) (d':=s.drawn) (ch:=[]) (λ_ z=>nomatch z) (λb o _ _ _ e n=>kp b o (λz=>by rw[z,hP] at n;cases n) e) (λb o _ _ _ e n=>⟨o.slots,kp b o (λz=>by rw[z,hP] at n;cases n) e⟩) (λb o _ e n=>?_)
    (λb o _ e=>?_) (λb xs e=>pI b _ e (λz=>by rw[z,hP] at e;cases e)) (λb o u e=>pI b _ e (λz=>by rw[z,hP] at e;cases e)) (λb vX e=>?_) (λm hm=>(hm.extBut hx LP).push _) (λb v e=>?_) I.bare
   ·rw[au (λz=>absurd (Nat.lt_of_lt_of_le (Heap.lt_size e) vW) (by rw[z];exact Nat.lt_irrefl _)),au (λz=>by rw[z,hP] at n;cases n)];exact n
   ·by_cases hb:b=P
    ·rw[hb];exact⟨_,K7⟩
    ·exact⟨o,kp b o hb e⟩
   ·by_cases hb:b=P
    ·subst hb;rw[hP] at e;cases e;exact⟨#[rawInt pos.line,rawInt pos.col,.ref c'],by rw[au cP.symm,aB]⟩
    ·exact⟨#[],by rw[Array.append_empty];exact pI b _ e hb⟩
   ·by_cases K8:b=c'
    ·subst K8;rw[aB] at e;cases e;exact UK (UQ.push _)
    ·rw[au K8] at e;by_cases hb:b=P
     ·subst hb;rw[aB] at e;cases e;exact K7
     ·rw[au hb] at e;refine(I.az b v e).d8 (λd o hd q=>kp d o ?_ q) (λd q=>pI d _ q (λz=>by rw[z,hP] at q;cases q)) (λd xs q=>pI d _ q (λz=>by rw[z,hP] at q;cases q))
      rcases hd with z | z
      ·rw[z];exact hb
      ·exact λy=>by rw[y,hP] at z;cases z
  have of:=Heap.get?_push_size h1 (o:=PySem.W.kla_obj name qual params body scope cl ((X.mg "__name__").getD .none) c' cW) rfl;have CS:s.heap.objs.size<=h1.objs.size:=by lia
  refine h h1.objs.size c' cW ((X.mg "__name__").getD .none) _ _ (I1.jr λp hp=>?_) ?_ ⟨_,by rw[au cP.symm,aB],?_,.inr ⟨c',?_,aB⟩⟩ aB
  ·rcases List.mem_cons.mp hp with e | hp
   ·rw[e];refine⟨of,?_,λz=>absurd (Nat.lt_of_lt_of_le I.lt (by assumption)) (by rw[← z];exact Nat.lt_irrefl _),I.ql CS,λv z=>by cases z⟩
    show upd (upd H P _) c' _ h1.objs.size=none;rw[au (Nat.ne_of_gt bO),au (Nat.ne_of_gt (Nat.lt_of_lt_of_le (Heap.lt_size oP) CS))];exact I.az.fresh CS
   ·exact I1.pin p (List.mem_append_right _ hp)
  ·intro b o e hb;exact pI b o e hb
  ·rw[Array.toList_append];exact K4 tr
  ·rw[Array.toList_append];exact codeAmong_snoc _ tr hc
 ·refine PySem.W.kla_makeFunctionHit (mg:=X.mg) vV I.ok.glob CQ pH (B.hd.keeps I.bk) oP tr hc K5 λcW h1 tk hk hsz=>?_;have kp:∀b o,s.heap.get? b=some o->(h1.push (PySem.W.kla_obj name qual params body scope cl ((X.mg "__name__").getD .none) c' cW)).get? b=some o:=λb o e=>Heap.get?_push_of_some _ (hk b o e);have I1:=I.kept (t':=tk) kp;have of:=Heap.get?_push_size h1 (o:=PySem.W.kla_obj name qual params body scope cl ((X.mg "__name__").getD .none) c' cW) rfl;refine h h1.objs.size c' cW ((X.mg "__name__").getD .none) _ _ (I1.jr λp hp=>?_) (λb o e _=>e) ⟨ps,hP,tr,.inr ⟨c',hc,K6⟩⟩ K6;rcases List.mem_cons.mp hp with e | hp
  ·rw[e];exact⟨of,I.az.fresh hsz,λz=>absurd (Nat.lt_of_lt_of_le I.lt (by assumption)) (by rw[← z];exact Nat.lt_irrefl _),I.ql hsz,λv z=>by cases z⟩
  ·exact I1.pin p (List.mem_append_right _ hp)
end
end _L
namespace _L
open PySem PySem.Spec PyProof.Rows PySem.W
section
variable{prog:Program}{w:World}{A:Around}{E:Value->Shared->Prop}{s:Shared}
theorem US{r S:Addr}{n:Nat}{t u v:Tok}{R:Result->Shared->Prop}(hh:A.handled=none)(hr:IsRange s.heap r 0 (n:Int) 1 t u v)(hn:n<64)(hS:s.heap.get? S=some { cls:=.type "list",data:=.seq #[] })
  (hR:∀(h':Heap) (tk:Nat) (acc:Array Value) (c:Nat),(∀b o,b≠S->s.heap.get? b=some o->h'.get? b=some o)->h'.get? S=some { cls:=.type "list",dict:=none,data:=.seq acc c,slots := #[] }->acc.size=n->(∀(i:Nat) (x:Value),acc[i]? = some x->∃t,x = .int (i:Int) t)->R (.ok (.ret (.ref S))) { s with heap:=h',toks:=tk }) :
  codeAny (model prog w) A (.builtin "list.__iadd__" ⟨[.ref S,.ref r],[]⟩) R s:=by
 refine codeAny_builtin PySem.F.entry_list_iadd ?_;rw[Around.under_plainId PySem.F.plain_list_iadd _];have en:Builtin.Range.rangeSize 0 (n:Int) 1=((n:Nat):Int):=by rw[rangeSize_one];split <;> lia
 refine wpAny_extend_range hh hr (small_one (by lia) (by lia) (by lia) (by lia)) en (by lia) S (.ref S) _ hS λh' tk acc c hk UT gk=>hR h' tk acc c hk UT gk.1 λi x e=>?_
 obtain⟨t,z⟩:=gk.2 i x e;exact⟨t,by rw[z];congr 1;lia⟩
theorem UU{r:Addr}{n:Nat}{t u v:Tok}{Q:List Value->Shared->Prop}(hh:A.handled=none)(hr:IsRange s.heap r 0 (n:Int) 1 t u v)(hn:n<64)
  (hQ:∀(h':Heap) (tk:Nat) (vs:List Value),(∀b o,s.heap.get? b=some o->h'.get? b=some o)->s.heap.objs.size<h'.objs.size->vs.length=n->(∀(i:Nat) (x:Value),vs[i]? = some x->∃t,x = .int (i:Int) t)->Q vs { s with heap:=h',toks:=tk }) :
  wpAny (model prog w) A (collect (.ref r)) Q E s:=by
 unfold collect;refine wpAny_bind (wpAny_runValue (codeAny_builtin PySem.F.entry_proto_collect ?_));rw[Around.under_plainId PySem.F.plain_proto_collect _];show wpAny _ A.in1 (newList [] >>= λl=>again (.builtin "list.__iadd__" ⟨[l,.ref r],[]⟩)) _ _ s;refine wpAny_bind (wpAny_newObj_type (wpAny_pure ⟨plainId_quiet PySem.F.plain_list_iadd _,US hh (Heap.get?_push_of_some _ hr) hn (Heap.get?_push_size _ rfl) λh' tk acc c hk hS gk ha=>?_⟩))
 show wpAny _ A (load s.heap.objs.size >>= _) _ _ _;refine wpAny_bind (wpAny_load hS (wpAny_pure (hQ h' tk acc.toList (λb o e=>hk b o (Nat.ne_of_lt (Heap.lt_size e)) (Heap.get?_push_of_some _ e)) (Heap.lt_size hS) (by simpa using gk) λi x e=>ha i x (by simpa using e))))
end
section
variable{X:Cx}{pins:List (Addr×Obj)}{σ:St}{H:Hp}{s:Shared}
theorem Inv.chg{h':Heap}{tk:Nat}{k:Addr}{m:Str->Option Value}(I:Inv X pins σ H s)(hm:s.heap.Ns X.env.locals m)(rQ:h'.Ns X.env.locals m)(n:H k=none)(hs:X.aK.heap.objs.size<=k)(hL:k≠X.env.locals)
  (hc:∀x c,X.env.cells.lookup x=some c->c≠k) (hp:∀p∈X.pn++pins,p.1≠k) (ho:∃o,h'.get? k=some o) (kk:∀b o,b≠X.env.locals->b≠k->s.heap.get? b=some o->h'.get? b=some o):Inv X pins σ H { s with heap:=h',toks:=tk }:=by
 have nl:∀b v,H b=some v->b≠X.env.locals:=λb v e z=>by rw[z,I.free] at e;cases e
 have nk:∀b v,H b=some v->b≠k:=λb v e z=>by rw[z,n] at e;cases e
 refine I.step (g':=s.gens) (d':=s.drawn) (ch:=[k]) (λb z=>by rw[List.mem_singleton.mp z];exact⟨.inr hs,hL,hc,hp⟩) (λb o hb _ hk e _=>kk b o hb (by simpa using hk) e) (λb o hb _ hk e _=>⟨o.slots,kk b o hb (by simpa using hk) e⟩) (λ_ _ _ _ n=>n) (λb o hk e=>?_) (λ_ _ e=>e) (λ_ _ _ e=>e)
  (λb ps e=>⟨#[],by rw[e];simp⟩) (λm' vN=>?_) (λb v e=>(I.az b v e).d8 (λc o hc e'=>kk c o ?_ ?_ e') (λ_ e=>e) (λ_ _ e=>e)) I.bare
 ·by_cases hb:b=X.env.locals
  ·obtain⟨o',_,_,z,_⟩:=rQ;exact⟨o',by rw[hb];exact z⟩
  ·exact⟨o,kk b o hb (by simpa using hk) e⟩
 ·have:m' = m:=by
   obtain⟨o1,Cc,JJ,g1,d1,k1,z1⟩:=vN;obtain⟨o2,JK,JL,g2,d2,k2,z2⟩:=hm;rw[g1] at g2;cases g2;rw[d1] at d2;cases d2
   funext x
   rw[← z1 x,← z2 x]
  rw[this];exact rQ
 ·rcases hc with z | z
  ·rw[z];exact nl b v e
  ·exact nl c _ z
 ·rcases hc with z | z
  ·rw[z];exact nk b v e
  ·exact nk c _ z
theorem Inv.UW{h':Heap}{tk:Nat}{k D:Addr}{xs:List V}{m:Str->Option Value}(I:Inv X pins σ H s)(hm:s.heap.Ns X.env.locals m)(rQ:h'.Ns X.env.locals m)(nk:H k=none)(nD:H D=none)
  (two:∀b,b=k\/b=D->X.aK.heap.objs.size<=b/\b≠X.env.locals/\(∀x c,X.env.cells.lookup x=some c->c≠b)/\∀p∈X.pn++pins,p.1≠b)
  (kk:∀b o,b≠X.env.locals->b≠k->b≠D->s.heap.get? b=some o->h'.get? b=some o) (new:bW X.prog X.w (upd H D (.lst xs)) h' D (.lst xs)):Inv X pins σ (upd H D (.lst xs)) { s with heap:=h',toks:=tk }:=by
 have nl:∀b v,H b=some v->b≠X.env.locals:=λb v e z=>by rw[z,I.free] at e;cases e
 have n1:∀b v,H b=some v->b≠k:=λb v e z=>by rw[z,nk] at e;cases e
 have n2:∀b v,H b=some v->b≠D:=λb v e z=>by rw[z,nD] at e;cases e
 have up:∀b v,H b=some v->upd H D (.lst xs) b=some v:=λb v e=>by rw[au (n2 b v e)];exact e
 have mem:∀b,b∉[k,D]->b≠k/\b≠D:=λb h=>⟨λz=>h (by rw[z];exact .head _),λz=>h (by rw[z];exact .tail _ (.head _))⟩
 refine I.step (g':=s.gens) (d':=s.drawn) (ch:=[k,D]) (λb z=>?_) (λb o hb _ hk e _=>kk b o hb (mem b hk).1 (mem b hk).2 e) (λb o hb _ hk e _=>⟨o.slots,kk b o hb (mem b hk).1 (mem b hk).2 e⟩) (λb o hk _ n=>by rw[au (mem b hk).2];exact n) (λb o hk e=>?_) (λb xs e=>up b _ e) (λb o u e=>up b _ e)
  (λb ps e=>⟨#[],by rw[up b _ e];simp⟩) (λm' vN=>?_) (λb v e=>?_) I.bare
 ·have:b=k\/b=D:=by
   rcases List.mem_cons.mp z with q | q
   ·exact .inl q
   ·exact .inr (List.mem_singleton.mp q)
  obtain⟨a1,a2,a3,a4⟩:=two b this;exact⟨.inr a1,a2,a3,a4⟩
 ·by_cases hb:b=X.env.locals
  ·obtain⟨o',_,_,z,_⟩:=rQ;exact⟨o',by rw[hb];exact z⟩
  ·exact⟨o,kk b o hb (mem b hk).1 (mem b hk).2 e⟩
 ·have:m' = m:=by
   obtain⟨o1,Cc,JJ,g1,d1,k1,z1⟩:=vN;obtain⟨o2,JK,JL,g2,d2,k2,z2⟩:=hm;rw[g1] at g2;cases g2;rw[d1] at d2;cases d2
   funext x
   rw[← z1 x,← z2 x]
  rw[this];exact rQ
 ·by_cases hb:b=D
  ·subst hb;rw[aB] at e;cases e;exact new
  ·rw[au hb] at e;refine(I.az b v e).d8 (λc o hc e'=>?_) (λd e=>up d _ e) (λd xs e=>up d _ e);have q:∃v',H c=some v':=by
    rcases hc with z | z
    ·rw[z];exact⟨_,e⟩
    ·exact⟨_,z⟩
   obtain⟨v',q⟩:=q;exact kk c o (nl c _ q) (n1 c _ q) (n2 c _ q) e'
structure CT(X:Cx)(pins:List (Addr×Obj))(σ:St)(H1:Hp)(P:Addr)(pos:Pos)(qual:Str)(m:Str->Option Value)(kS:Addr)(kv:Nat->Int×Int)(ks:List Value)(e:Nat)(H:Hp)(s:Shared):Prop where
 I:Inv X ((kS,seqObj "list" ks.toArray e)::pins) σ H s
 ns:s.heap.Ns X.env.locals m
 sb:SameBut P H1 H
 tab:cD P pos qual H
 ky:∀(i:Nat) (hi:i<ks.length),∃a,ks[i] = .ref a/\H a=some (.tup [.int (kv i).1,.int (kv i).2])
variable{scope:Scope}{cl:List (Str×Addr)}{ps fs:List Str}{fv:List Nat}{A:Around}{qual name:Str}{f c' P kS:Addr}{params:Arguments}{body:Expr}{te:TE}{pm cW:Value}{pos:Pos}{kv:Nat->Int×Int}{n:Nat}{H1:Hp}{m:Str->Option Value}
theorem K9(S:jd X scope cl ps fs fv)(pJ:ps.length=1)(he:∀s H,PE (rP X A qual scope f c' cl (ps++fs) s H) body te)(hA:A.frames=some X.stack)(hd:X.calm=true->A.handled=none)(jF:A.depth<recursionLimit)(bX:X.stack=X.env::X.outer)(dD:X.env.frame=some X.env.locals)
  (hex:X.ex = []) (hf:(f,kla_obj name qual params body scope cl pm c' cW)∈pins) (hc:H1 c' = some (lI c' qual)) (pK:c'≠P) (iB:∀u,bindArgs (kla_fn name qual params body scope cl pm (.ref c') cW) ⟨[u],[]⟩=pure (ps.zip [u]))
  (kZ:∀(j:Nat) (H:Hp),j<n->SameBut P H1 H->cD P pos qual H->te (lH σ [.int (j:Int)] fv) H λv H'=>∃a,v = .ref a/\H a=none/\H' = upd H a (.tup [.int (kv j).1,.int (kv j).2]))
  (lo:X.aK.heap.objs.size<=kS) (vY:kS≠X.env.locals) (K_:∀x c,X.env.cells.lookup x=some c->c≠kS) (La:∀p∈X.pn++pins,p.1≠kS)
  {Fin:List Value->Nat->Shared->Prop} (Lb:∀ks e H s,CT X pins σ H1 P pos qual m kS kv ks e H s->ks.length=n->Fin ks e s) :
  ∀(r ks:List Value) (e:Nat) (H:Hp) (s:Shared),ks.length+r.length=n->(∀(i:Nat) (x:Value),r[i]? = some x->∃t,x = .int ((ks.length+i:Nat):Int) t)->CT X pins σ H1 P pos qual m kS kv ks e H s->KatKeys X.prog X.w A X.base X.env.locals m kS (.ref f) Fin r ks e s
 | [],ks,e,H,s,hl,_,K=>KatKeys.nil (Lb ks e H s K (by simpa using hl))
 | x::r,ks,e,H,s,hl,hi,K=>by
  rw[List.length_cons] at hl;obtain⟨t,rfl⟩:=hi 0 x rfl;have pf:=K.I.pin _ (List.mem_append_right _ (List.mem_cons_of_mem _ hf));have pk:=K.I.pin (kS,seqObj "list" ks.toArray e) (List.mem_append_right _ (List.mem_cons_self ..));have pH:s.heap.CodeRec (.ref c') qual:=UL K.I.az (K.sb _ _ hc pK);have hx:=kZ ks.length H (by lia) K.sb K.tab
  refine KatKeys.cons (wpAny_mono (UJ (us:=[.int ((ks.length+0:Nat):Int) t]) (vs:=[.int (ks.length:Int)]) S K.I hA hd jF pf.1 pH (iB _) (.cons ⟨t,by simp⟩ .nil) (by simpa using pJ.symm) (he s H) hx) (λu s' hq=>?_) λ_ _ z=>z)
  obtain⟨v,H',J,rv,⟨a,rfl,na,rfl⟩,un⟩:=hq;cases rv;have iD:s'.heap.Ns X.env.locals m:=by
   obtain⟨o,es,ep,eo,cJ,r'⟩:=K.ns;have mem:X.env.locals∈aX X.stack:=by unfold aX;rw[bX,List.filterMap_cons,dD];exact List.mem_cons_self ..
   obtain⟨sl,q⟩:=un.slot _ o eo K.I.free mem (by simp)
   exact⟨_,es,ep,q,cJ,r'⟩
  have bk:X.base.get? kS=none:=Heap.get?_none_of_le (Nat.le_trans K.I.ok.eN lo);have vZ:=J.pin (kS,seqObj "list" ks.toArray e) (List.mem_append_right _ (List.mem_cons_self ..));refine KatBack.intro (news:=(kS,seqObj "list" ks.toArray e)::rest X.base s'.heap X.env.locals kS) (g:=λo=>(kS,o)::rest X.base s'.heap X.env.locals kS) ⟨iD,J.bk,Nat.le_trans J.ok.eN J.ok.above⟩ (news_at vY bk vZ.1) (.head uP) λh2 c2 F2 N2=>?_;have kept:=uQ (d:=kS) J.bk F2 λp hp=>N2 p (List.mem_cons_of_mem _ hp);have Ld:=(N2 _ (List.mem_cons_self ..)).1;have J1:Inv X pins σ (upd H a (.tup [.int (kv ks.length).1,.int (kv ks.length).2])) s':=J.jr λp hp=>J.pin p (List.mem_append_right _ (List.mem_cons_of_mem _ hp));have J2:=J1.chg (tk:=s'.toks) iD F2.ns vZ.2.1 lo vY K_ La ⟨_,Ld⟩ λb o hb hk e=>kept b o hb hk e;have UX:∀v,(seqObj "list" (ks++[Value.ref a]).toArray c2).data≠.cell v:=λv z=>by cases z
  refine K9 S pJ he hA hd jF bX dD hex hf hc pK iB kZ lo vY K_ La Lb r (ks++[.ref a]) c2 _ { s' with heap:=h2 } (by simp;lia) (λi x e=>?_) ⟨J2.jr λp hp=>?_,F2.ns,?_,?_,λi gI=>?_⟩
  ·obtain⟨t',z⟩:=hi (i+1) x (by simpa using e)
   exact⟨t',by rw[z];congr 1;simp;lia⟩
  ·rcases List.mem_cons.mp hp with q | q
   ·rw[q];exact⟨Ld,vZ.2.1,vY,vZ.2.2.2.1,UX⟩
   ·exact J2.pin p (List.mem_append_right _ q)
  ·intro b o e hb;have:=K.sb b o e hb;rw[au (λz=>by rw[z,na] at this;cases this)];exact this
  ·obtain⟨vX,e1,e2,e3⟩:=K.tab;refine⟨vX,by rw[au (λz=>by rw[z,na] at e1;cases e1)];exact e1,e2,e3.imp id λ⟨c2,z1,z2⟩=>⟨c2,z1,by rw[au (λz=>by rw[z,na] at z2;cases z2)];exact z2⟩⟩
  ·by_cases bO:i<ks.length
   ·obtain⟨a',z1,z2⟩:=K.ky i bO;exact⟨a',by rw[List.getElem_append_left bO];exact z1,by rw[au (λz=>by rw[z,na] at z2;cases z2)];exact z2⟩
   ·have e:i=ks.length:=by simp at gI;lia
    subst e;exact⟨a,by simp,aB⟩
theorem Le{h:Heap}:∀ {ks:List Value} {rR:List (Int×Int)},vR h ks rR->∃fs,KatTups h ks fs/\fs.length=ks.length/\∀v∈fs,∃d t,v = .int d t
 | [],rR,_=>⟨[],trivial,rfl,λv z=>nomatch z⟩
 | k::ks,[],p=>absurd p.1 (by simp)
 | k::ks,q::rR,p=>by
  obtain⟨a,ea,o,t,u,n,e1,e2,e3⟩:=p.2 0 (by simp)
  have ea:k = .ref a:=by simpa using ea
  subst ea;obtain⟨fs,h1,h2,h3⟩:=Le (ks:=ks) (rR:=rR) ⟨by have:=p.1;simpa using this,λi hi=>by
   obtain⟨b,z1,z2⟩:=p.2 (i+1) (by simpa using hi)
   exact⟨b,by simpa using z1,by simpa using z2⟩⟩
  refine⟨.int _ t::fs,.cons e1 e2 e3 rfl h1,by simp[h2],λv hv=>?_⟩
  rcases List.mem_cons.mp hv with z | z
  ·exact⟨_,_,z⟩
  ·exact h3 v z
noncomputable def kj(kv:Nat->Int×Int)(n:Nat)(is:List Nat):Prop:=is.Perm (List.range n)/\∀i j,i<j->j<n->(kv (is.getD i 0)).1*64+(kv (is.getD i 0)).2<(kv (is.getD j 0)).1*64+(kv (is.getD j 0)).2
theorem UY{Q:VK}{rg:Addr}{t u v:Tok}(S:jd X scope cl ps fs fv)(pJ:ps.length=1)(he:∀s H,PE (rP X X.A.in1.in1 qual scope f c' cl (ps++fs) s H) body te)(CU:X.calm=true)(jF:X.A.in1.in1.depth<recursionLimit)(bX:X.stack=X.env::X.outer)(dD:X.env.frame=some X.env.locals)
  (hex:X.ex = []) (I:Inv X ((f,kla_obj name qual params body scope cl pm c' cW)::pins) σ H s) (hc:H c' = some (lI c' qual)) (pK:c'≠P) (tab:cD P pos qual H) (iB:∀u,bindArgs (kla_fn name qual params body scope cl pm (.ref c') cW) ⟨[u],[]⟩=pure (ps.zip [u]))
  (hr:IsRange s.heap rg 0 (n:Int) 1 t u v) (h2:2<=n) (i8:n<64) (hb:∀j,j<n->0<=(kv j).2/\(kv j).2<64) (CV:∀i j,i<n->j<n->kv i=kv j->i=j)
  (kZ:∀(j:Nat) (H2:Hp),j<n->SameBut P H H2->cD P pos qual H2->te (lH σ [.int (j:Int)] fv) H2 λv H'=>∃a,v = .ref a/\H2 a=none/\H' = upd H2 a (.tup [.int (kv j).1,.int (kv j).2]))
  (q:∀(D:Addr) (is:List Nat) (H':Hp),SameBut P H H'->cD P pos qual H'->H D=none->H' D=none->kj kv n is->Q (.ref D) (upd H' D (.lst (is.map λ(i:Nat)=>V.int (i:Int))))) :
  wpAny (model X.prog X.w) X.A (call (.builtin "sorted") [.ref rg] [(Str.ofString "key",.ref f)]) (EP X pins σ Q) X.xe s:=by
 have Lf:=I.ok.hd CU;refine call_function_entry_kw kind_sorted plain_sorted entry_sorted (ksk_s1 _ _) ?_;unfold Builtin.«sorted»;refine wpAny_bind (m:=checkCount "sorted" 1 1 _) (wpAny_pure ?_);refine wpAny_bind (UU (A:=X.A.in1) Lf hr i8 λh1 rS vs k1 sz len items=>?_);refine wpAny_bind (wpAny_newList ?_ (by rw[sizeLine_eq];lia))
 obtain⟨m,hm,acO⟩:=I.loc;have oD:(h1.push (seqObj "list" vs.toArray 0)).get? h1.objs.size=some (seqObj "list" vs.toArray 0):=Heap.get?_push_size _ rfl;have k2:∀b o,s.heap.get? b=some o->(h1.push (seqObj "list" vs.toArray 0)).get? b=some o:=λb o e=>Heap.get?_push_of_some _ (k1 b o e);have I1:=I.kept (t':=rS) k2;have v_:X.aK.heap.objs.size<=h1.objs.size:=Nat.le_trans I.sz (Nat.le_of_lt sz);have DL:h1.objs.size≠X.env.locals:=Nat.ne_of_gt (Nat.lt_trans I.lt sz);have nD:H h1.objs.size=none:=I.az.fresh (Nat.le_of_lt sz);have old:∀b o,s.heap.get? b=some o->b<h1.objs.size:=λb o e=>Nat.lt_trans (Heap.lt_size e) sz;have bD:X.base.get? h1.objs.size=none:=Heap.get?_none_of_le (Nat.le_trans I.ok.eN v_);have j_:(h1.push (seqObj "list" vs.toArray 0)).Ns X.env.locals m:=hm.keeps k2;have above:X.base.objs.size<=X.env.locals:=Nat.le_trans I.ok.eN I.ok.above
 show wpAny _ _ _ _ _ { s with heap:=h1.push (seqObj "list" vs.toArray 0),toks:=rS };refine wpAny_bind (wpAny_holding (wpAny_call_entry_kw slot_list_sort ⟨_,oD,rfl⟩ entry_list_sort ?body (ksk_l1 _ _)))
 case body =>
  show wpAny (model X.prog X.w) X.A.in1.in1 (Builtin.«list.sort» ⟨[.ref h1.objs.size],[(Str.ofString "key",.ref f)]⟩) _ _ _;rw[ksk_t1];refine kat_keyed (s:={ s with heap:=h1.push (seqObj "list" vs.toArray 0),toks:=rS }) (h₀:=X.base) (L:=X.env.locals) (m:=m) (news:=rest X.base (h1.push (seqObj "list" vs.toArray 0)) X.env.locals h1.objs.size) ⟨j_,I1.bk,above⟩ (λp hp=>AB p (List.mem_filter.mp hp).1) oD DL bD uP (by lia) (by lia) λkS e1 h' F' N' l0 l1=>?_
  have UZ:=uQ (d:=h1.objs.size) I1.bk F' λp hp=>N' p (List.mem_cons_of_mem _ (List.mem_cons_of_mem _ hp));have U0:=N' _ (List.mem_cons_self ..);have Lg:=N' _ (List.mem_cons_of_mem _ (List.mem_cons_self ..));have CW:X.aK.heap.objs.size<=kS:=Nat.le_trans v_ (Nat.le_of_lt l0);have wc:∀x c,X.env.cells.lookup x=some c->c<h1.objs.size:=λx c e=>by
   obtain⟨v,o,z,_⟩:=I.cell x c e;exact old _ _ z
  have we:∀p∈X.pn++((f,kla_obj name qual params body scope cl pm c' cW)::pins),p.1<h1.objs.size:=λp hp=>old _ _ (I.pin p hp).1;have Lh:X.env.locals<h1.objs.size:=Nat.lt_trans I.lt sz;have I2:=I1.chg (tk:=rS) j_ F'.ns nD v_ DL (λx c e=>Nat.ne_of_lt (wc x c e)) (λp hp=>Nat.ne_of_lt (we p hp)) ⟨_,Lg.1⟩ UZ;have nS:H kS=none:=I.az.fresh (Nat.le_of_lt (Nat.lt_trans sz l0));have Li:∀b,s.heap.objs.size<=b->b∉X.fs:=λb hb=>I.ql hb;have Lj:∀(a:Array Value) (e:Nat) v,(seqObj "list" a e).data≠.cell v:=λa e v z=>by cases z
  have K0:CT X ((h1.objs.size,seqObj "list" #[] e1)::(f,kla_obj name qual params body scope cl pm c' cW)::pins) σ H P pos qual m kS kv [] 0 H { s with heap:=h',toks:=rS }:=by
   refine⟨I2.jr λp hp=>?_,F'.ns,λb o e _=>e,tab,λi hi=>absurd hi (by simp)⟩
   rcases List.mem_cons.mp hp with z | hp
   ·rw[z];exact⟨U0.1,nS,Nat.ne_of_gt (Nat.lt_trans Lh l0),Li _ (Nat.le_of_lt (Nat.lt_trans sz l0)),Lj _ _⟩
   ·rcases List.mem_cons.mp hp with z | hp
    ·rw[z];exact⟨Lg.1,nD,DL,Li _ (Nat.le_of_lt sz),Lj _ _⟩
    ·exact I2.pin p (List.mem_append_right _ hp)
  have U1:∀p∈X.pn++((h1.objs.size,seqObj "list" #[] e1)::(f,kla_obj name qual params body scope cl pm c' cW)::pins),p.1≠kS:=λp hp=>by
   rcases List.mem_append.mp hp with hp | hp
   ·exact Nat.ne_of_lt (Nat.lt_trans (we p (List.mem_append_left _ hp)) l0)
   ·rcases List.mem_cons.mp hp with z | hp
    ·rw[z];exact Nat.ne_of_lt l0
    ·exact Nat.ne_of_lt (Nat.lt_trans (we p (List.mem_append_right _ hp)) l0)
  have SL:kS≠X.env.locals:=Nat.ne_of_gt (Nat.lt_trans Lh l0);refine K9 (n:=n) (pins:=(h1.objs.size,seqObj "list" #[] e1)::(f,kla_obj name qual params body scope cl pm c' cW)::pins) S pJ he I.ok.frames (λ_=>Lf) jF bX dD hex (List.mem_cons_of_mem _ (List.mem_cons_self ..)) hc pK iB kZ CW SL
   (λx c e=>Nat.ne_of_lt (Nat.lt_trans (wc x c e) l0)) U1 (λks e H3 s3 K hl=>?_) vs [] 0 H _ (by simpa using len) (λi x e=>by simpa using items i x e) K0
  have Lk:vR s3.heap ks ((List.range n).map kv):=by
   refine⟨by simp[hl],λi hi=>?_⟩
   have gI:i<ks.length:=by simp at hi;lia
   obtain⟨a,z1,z2⟩:=K.ky i gI;obtain⟨aA,r1,q1,_⟩:=K.I.tuple (bA.of (K:=X.K) z2);cases r1 with
   | cons w1 r1 =>
   cases r1 with
   | cons w2 r1 =>
   cases r1;obtain⟨t1,rfl⟩:=w1;obtain⟨t2,rfl⟩:=w2;obtain⟨o,e1,e2,n1,e3⟩:=q1;exact⟨a,by simp[gI,z1],o,t1,t2,n1,e1,e2,by simpa using e3⟩
  obtain⟨uM,t1,t2,t3⟩:=Le Lk;refine kat_kind (T:=.type "int") t1 (by lia) (λv hv=>?_) (by decide) ?_
  ·obtain⟨d,tt,rfl⟩:=t3 v hv;exact .now
  ·rw[show (Value.type "int" != Value.type "tuple")=true by decide]
   show (kas_sort vs.length).kasWp (kas_ask X.prog X.w X.A.in1.in1 (tuples' true) ks) _ s3;rw[len,show n=((List.range n).map kv).length by simp]
   refine UG (by simp;lia) Lk (λq' hq=>?_) ?_ λp hp U3=>?_
   ·obtain⟨j,hj,rfl⟩:=List.mem_map.mp hq;exact hb j (List.mem_range.mp hj)
   ·rw[List.nodup_iff_pairwise_ne,List.pairwise_map];exact List.Pairwise.imp_of_mem (λha j9 gm heq=>gm (CV _ _ (List.mem_range.mp ha) (List.mem_range.mp j9) heq)) List.nodup_range
   ·have bS:X.base.get? kS=none:=Heap.get?_none_of_le (Nat.le_trans I.ok.eN CW);have pk:=K.I.pin (kS,seqObj "list" ks.toArray e) (List.mem_append_right _ (List.mem_cons_self ..));have pd:=K.I.pin (h1.objs.size,seqObj "list" #[] e1) (List.mem_append_right _ (List.mem_cons_of_mem _ (List.mem_cons_self ..)));refine KatFin.intro (news:=(kS,seqObj "list" ks.toArray e)::rest X.base s3.heap X.env.locals kS) (g:=λo=>(kS,o)::rest X.base s3.heap X.env.locals kS) ⟨K.ns,K.I.bk,above⟩ (news_at SL bS pk.1) (.head uP) λh4 c4 F4 N4=>?_;have Ll:=uQ (d:=kS) K.I.bk F4 λp hp=>N4 p (List.mem_cons_of_mem _ hp);have U4:=Ll _ _ DL (Nat.ne_of_lt l0) pd.1;refine KasFin.intro (news:=(h1.objs.size,seqObj "list" #[] e1)::rest X.base h4 X.env.locals h1.objs.size) (g:=λo=>(h1.objs.size,o)::rest X.base h4 X.env.locals h1.objs.size) F4 (news_at DL bD U4) (.head uP) λh5 c5 F5 N5=>?_;have U5:∀b o,X.base.get? b=some o->h4.get? b=some o:=F4.keep;have U6:=uQ (d:=h1.objs.size) U5 F5 λp hp=>N5 p (List.mem_cons_of_mem _ hp);have U7:=(N5 _ (List.mem_cons_self ..)).1;refine⟨_,rfl,wpAny_pure ⟨_,rfl,?_⟩⟩;have CY:p.toList.Perm (List.range n):=by
     have:=hp.toList;simpa using this
    have Lm:∀i∈p.toList,i<n:=λi hi=>List.mem_range.mp (CY.mem_iff.mp hi);have U8:p.toList.length=n:=by simpa using CY.length_eq
    have gd:∀i,i<n->p.getD i 0=p.toList.getD i 0/\p.toList.getD i 0<n:=λi hi=>by
     have jE:i<p.toList.length:=by lia
     have e:p.toList.getD i 0=p.toList[i]:=by rw[List.getD_eq_getElem?_getD,List.getElem?_eq_getElem jE];rfl
     exact⟨by rw[Array.getD_eq_getD_getElem?,List.getD_eq_getElem?_getD,Array.getElem?_toList],by rw[e];exact Lm _ (List.getElem_mem jE)⟩
    have Ln:∀k,k<n->iI ((List.range n).map kv) k=(kv k).1*64+(kv k).2:=λk hk=>by
     unfold iI;have:((List.range n).map kv).getD k (0,0)=kv k:=by simp[hk]
     rw[this]
    have asc:kj kv n p.toList:=⟨CY,λi j h1 h2=>by
     have:=U3 i j h1 (by simpa using h2)
     rw[(gd i (by lia)).1,(gd j h2).1,Ln _ (gd i (by lia)).2,Ln _ (gd j h2).2] at this
     exact this⟩
    have vals:∀l:List Nat,(∀i∈l,i<n)->Vals (l.map λ(i:Nat)=>V.int (i:Int)) (l.map λi=>vs.getD i Value.none):=by
     intro l
     induction l with
     | nil=>intro _;exact .nil
     | cons i l ih =>
      intro vg;have hi:i<vs.length:=by rw[len];exact vg i (List.mem_cons_self ..)
      obtain⟨t5,e5⟩:=items i vs[i] (List.getElem?_eq_getElem hi);refine .cons ⟨t5,?_⟩ (ih λk hk=>vg k (List.mem_cons_of_mem _ hk));rw[← e5];simp[hi]
    refine⟨.ref h1.objs.size,_,(K.I.jr (AF:=pins) λp hp=>K.I.pin p (List.mem_append_right _ (List.mem_cons_of_mem _ (List.mem_cons_of_mem _ (List.mem_cons_of_mem _ hp))))).UW (tk:=s3.toks) (xs:=p.toList.map λ(i:Nat)=>V.int (i:Int)) K.ns F5.ns pk.2.1 pd.2.1 (λb h_=>?_)
     (λb o hL hS hD e=>U6 b o hL hD (Ll b o hL hS e)) ⟨by rw[List.length_map,U8,sizeLine_eq];lia,_,c5,vals p.toList Lm,U7⟩,rfl,q _ p.toList H3 K.sb K.tab nD pd.2.1 asc⟩
    have sub:∀p∈X.pn++pins,p.1<h1.objs.size:=λp hp=>we p (by
     rcases List.mem_append.mp hp with z | z
     ·exact List.mem_append_left _ z
     ·exact List.mem_append_right _ (List.mem_cons_of_mem _ z))
    rcases h_ with z | z
    ·rw[z];exact⟨CW,SL,λx c e=>Nat.ne_of_lt (Nat.lt_trans (wc x c e) l0),λp hp=>Nat.ne_of_lt (Nat.lt_trans (sub p hp) l0)⟩
    ·rw[z];exact⟨v_,DL,λx c e=>Nat.ne_of_lt (wc x c e),λp hp=>Nat.ne_of_lt (sub p hp)⟩
theorem SameBut.trans{H H1 H2:Hp}{x:Addr}(a:SameBut x H H1)(b:SameBut x H1 H2):SameBut x H H2:=λc o e h=>b c o (a c o e h) h
noncomputable def Lo(P:Addr)(pos:Pos)(qual:Str)(te:TE)(fv:List Nat)(ta:TA):TE:=λσ H Q=>ta σ H λvs H1=>∃(n:Nat) (kv:Nat->Int×Int),vs = [.int (n:Int)]/\2<=n/\n<64/\(∀j,j<n->0<=(kv j).2/\(kv j).2<64)/\(∀i j,i<n->j<n->kv i=kv j->i=j)/\cD P pos qual H1/\
 (∀(j:Nat) (H2:Hp),j<n->SameBut P H1 H2->cD P pos qual H2->te (lH σ [.int (j:Int)] fv) H2 λv H'=>∃a,v = .ref a/\H2 a=none/\H' = upd H2 a (.tup [.int (kv j).1,.int (kv j).2]))/\
 ∀(D:Addr) (is:List Nat) (H':Hp),SameBut P H1 H'->cD P pos qual H'->H1 D=none->H' D=none->kj kv n is->Q (.ref D) (upd H' D (.lst (is.map λ(i:Nat)=>V.int (i:Int))))
theorem U9{c:Addr}{e:Expr}{ta:TA}{p1 p2 p3 p4 kp:Pos}(U_:Gl X "sorted")(Va:X.mg "sorted" = none)(Vb:Gl X "range")(Vc:X.mg "range" = none)(B:bx X.mg X.base c P)(pH:X.env.code = .ref c)(S:jd X scope cl ps fs fv)(pJ:ps.length=1)
  (Vd:defaultsOf params X.env=([],[])) (hq:X.env.qual ++ "<lambda>" = qual) (iB:∀c' pm cW u,bindArgs (kla_fn "<lambda>" qual params body scope cl pm (.ref c') cW) ⟨[u],[]⟩=pure (ps.zip [u]))
  (he:∀f c' s H,PE (rP X X.A.in1.in1 qual scope f c' cl (ps++fs) s H) body te) (CU:X.calm=true) (jF:X.A.in1.in1.depth<recursionLimit) (bX:X.stack=X.env::X.outer) (dD:X.env.frame=some X.env.locals) (hex:X.ex = []) (ha:PA X [e] ta)
  (hs:starEach [e] X.env = [(false,eval e X.env)]:=by rfl) (fS:starEach [.Call (.Name "range" p2) [e] [] p3] X.env = [(false,eval (.Call (.Name "range" p2) [e] [] p3) X.env)]:=by rfl) :
  PE X (.Call (.Name "sorted" p1) [.Call (.Name "range" p2) [e] [] p3] [⟨some "key",.Lambda params body scope pos,kp⟩] p4) (Lo P pos qual te fv ta):=by
 intro pins s σ H Q I h;refine wpAny_Call_Name_kw (kN I U_ Va boot_sorted (callWith_kw ?_));rw[fS];refine Calls.spliced_cons ?_;refine Call_ (kN I Vb Vc boot_range (PyProof.Rows.callWith_type1 (aN (ha p3 pins s σ H _ I h) λus s1 ⟨vs,H1,I1,r1,q1⟩=>?_) (by rw[hs];rfl) (by rfl)))
 obtain⟨n,kv,e,h2,i8,hb,CV,tab,kZ,q⟩:=q1;subst e;obtain⟨u,rfl,ru⟩:=vals1 r1;obtain⟨t,rfl⟩:=ru;refine call_range_1 ?_;refine Calls.spliced_nil ?_;refine kws_cons (kla_eval Vd ?_);rw[hq];have k1:∀b o,s1.heap.get? b=some o->(s1.heap.push { cls:=.type "range",data:=.fields #[.int 0 s1.toks,.int (n:Int) t,.int 1 (s1.toks+1)] }).get? b=some o:=λb o e=>Heap.get?_push_of_some _ e;have I2:Inv X ((s1.heap.objs.size,{ cls:=.type "range",data:=.fields #[.int 0 s1.toks,.int (n:Int) t,.int 1 (s1.toks+1)] })::pins) σ H1 { s1 with heap:=s1.heap.push { cls:=.type "range",data:=.fields #[.int 0 s1.toks,.int (n:Int) t,.int 1 (s1.toks+1)] },toks:=s1.toks+1+1 }:=by
  refine(I1.kept k1).jr λp hp=>?_;rcases List.mem_cons.mp hp with z | hp
  ·rw[z];exact⟨Heap.get?_push_size _ rfl,I1.az.fresh (Nat.le_refl _),Nat.ne_of_gt I1.lt,I1.ql (Nat.le_refl _),λv z=>by cases z⟩
  ·exact(I1.kept (t':=s1.toks+1+1) k1).pin p (List.mem_append_right _ hp)
 refine UM B pH S.i7 I2 tab λf c' cW pm H' s' J sb pL hc=>kws_nil ?_;have pK:c'≠P:=by
  obtain⟨vX,z,_⟩:=pL;exact fZ hc z (by intro y;cases y)
 refine wpAny_mono (UY (n:=n) (kv:=kv) S pJ (he f c') CU jF bX dD hex J hc pK pL (iB c' pm cW) (J.pin _ (List.mem_append_right _ (List.mem_cons_of_mem _ (List.mem_cons_self ..)))).1 h2 i8 hb CV (λj H2 hj nB CZ=>kZ j H2 hj (sb.trans nB) CZ)
  (λD is H2 nB CZ n1 n2 ho=>q D is H2 (sb.trans nB) CZ ?_ n2 ho)) (λv oW z=>?_) (λ_ _ z=>z)
 ·cases z:H1 D with
  | none=>rfl
  | some o =>
   by_cases hD:D=P
   ·obtain⟨vX,z2,_⟩:=pL;rw[hD,z2] at n1;cases n1
   ·rw[sb _ _ z hD] at n1;cases n1
 ·obtain⟨v',Ve,K,rv,qv⟩:=z;exact⟨v',Ve,K.jr λp hp=>K.pin p (List.mem_append_right _ (List.mem_cons_of_mem _ hp)),rv,qv⟩
end
theorem Vf{P:Program}{w:World}{K:PySem.W.Frag}{mg mb:Str->Option Value}{k:Nat}{fa a:Addr}{fd:FuncData}{x:Str}{sp:Sp}{aE:Shared}{vs:List Value}{ns:List Int}{tabs:List (Addr×Addr)}
  (KX:K.In aE.heap) (iZ:aE.heap.Ns mainGlobals mg) (hb:aE.heap.Ns builtinsNs mb) (BV:∀x:Str,x≠"__name__"->mb x=bootBuiltins x) (BW:aE.heap.NoLimit) (hg:aE.gens = #[])
  (ha:aE.heap.get? a=some { cls:=.type "list",data:=.seq vs.toArray }) (hi:IntsAre vs ns) (hl:ns.length<=sizeLine) (hr:bR k callerA)
  (hT:TabsAt tabs aE.heap) (rT:noTabs K=true) (bm:∃bm ob,mg "__builtins__" = some (.ref bm)/\bm≠builtinsNs/\aE.heap.get? bm=some ob/\ob.cls = .type "module"/\ob.dict=some builtinsNs/\ob.data = .plain)
  (F:∀base:Heap,K.In base->base.Ns mainGlobals mg->(∀q∈tabs,bx mg base q.1 q.2)->aU P w K mg base br k fa fd [x] sp) (iB:∀(s:Shared) (u:Value),BindsTo s fd ⟨[u],[]⟩ [(x,u)])
  (dW:∀H:Hp,(∀q∈tabs,H q.2=some (.dm #[]))->aH K H a (ns.map V.int)->sp [.ref a] H (λv _=>v = .bl true) λ_ _ _=>False) :
  codeAny (model P w) callerA (.call (.ref fa) ⟨[.ref a],[]⟩) (λr s'=>r = .ok (.ret (.bool true))/\OldK aE.heap s'.heap/\s'.os=aE.os/\AllBare s'.gens) aE:=by
 have rv:=vt hi;have BY:=hi.length;have nF:∀b,b∈tabs.map (·.2)->aE.heap.get? b=some (tabObj #[])/\isCodeTable aE.heap b:=λb hb=>by
  obtain⟨q,hq,rfl⟩:=List.mem_map.mp hb;exact⟨(hT q hq).2,((hT q hq).1.tab (hT q hq).2).isCodeTable⟩
 have aT:a∉tabs.map (·.2):=λhb=>by
  have:=(nF a hb).1;rw[ha] at this;cases this
 have core:∀H:Hp,(∀b u,H b=some u->(b=a/\∃o xs,u = .eG o (.lst xs))\/(b∈tabs.map (·.2)/\u = .dm #[]))->(∀q∈tabs,H q.2=some (.dm #[]))->aH K H a (ns.map V.int)->bQ P w H aE.heap->(H a≠none->K.lookup a=none)->
   codeAny (model P w) callerA (.call (.ref fa) ⟨[.ref a],[]⟩) (λr s'=>r = .ok (.ret (.bool true))/\OldK aE.heap s'.heap/\s'.os=aE.os/\AllBare s'.gens) aE:=by
  intro H hO C1 hS az hK;have mQ:∀ {b:Addr} {o:Obj},aE.heap.get? b=some o->H b=none->(f9 aE.heap H).get? b=some o:=λe n=>HW e n;have free:∀ {b:Addr} {o:Obj},aE.heap.get? b=some o->(b≠a)->o≠tabObj #[]->H b=none:=λ{b o} e n1 n2=>by
   cases q:H b with
   | none=>rfl
   | some u =>
    rcases hO b u q with⟨z,_⟩ | ⟨z,_⟩
    ·exact absurd z n1
    ·have:=(nF b z).1;rw[e] at this;exact absurd (Option.some.inj this) n2
  have Lp:∀ {b:Addr} {o:Obj},aE.heap.get? b=some o->o.cls≠.type "list"->b≠a:=λ{b o} e n z=>by
   rw[z,ha] at e;cases e;exact n rfl
  have Vg:∀ {b:Addr} {o:Obj} {es:Array DictEntry} {ep:Nat},aE.heap.get? b=some o->o.data = .dict es ep->b≠a:=λ{b o es ep} e d z=>by
   rw[z,ha] at e;cases e;cases d
  have jX:∀ {b:Addr} {m:Str->Option Value},aE.heap.Ns b m->(f9 aE.heap H).Ns b m:=λ{b m} ⟨o,es,ep,e,d,r⟩=>⟨o,es,ep,mQ e (free e (Vg e d) (λz=>by rw[z] at d;cases d)),d,r⟩
  have qT:K.In (f9 aE.heap H):=λb o e=>mQ (KX b o e) (by
   cases q:H b with
   | none=>rfl
   | some u =>
    rcases hO b u q with⟨z,_⟩ | ⟨z,_⟩
    ·subst z;rw[hK (by rw[q];simp)] at e;cases e
    ·have e2:=KX b o e;rw[(nF b z).1] at e2;have h2:=List.all_eq_true.mp rT (b,o) (mem_of_lookupK e);cases e2;exact absurd (show false=true from h2) Bool.false_ne_true)
  have hM:Mod K mg (f9 aE.heap H):=⟨qT,jX iZ,⟨mb,jX hb,BV⟩,let ⟨mc,h1,h2⟩:=BW;⟨mc,jX h1,h2⟩⟩
  have hL:∀q∈tabs,bx mg (f9 aE.heap H) q.1 q.2:=λq hq=>by
   obtain⟨b,ob,b1,b2,b3,b4,b5,b6⟩:=bm;obtain⟨o,gQ,file,tf,flags,tg,Vh,text,tt,e1,r1,r2⟩:=(hT q hq).1;refine⟨⟨o,gQ,file,tf,flags,tg,Vh,text,tt,mQ e1 (free e1 (Lp e1 (by rw[r1];intro z;injection z with z;exact absurd z (by decide))) (λz=>by rw[z] at r1;cases r1)),r1,r2⟩,b,ob,b1,b2,mQ b3 (free b3 (Lp b3 (by rw[b4];intro z;injection z with z;exact absurd z (by decide))) (λz=>by rw[z] at b4;cases b4)),b4,b5,b6⟩
  have e0:jT P w K mg (f9 aE.heap H) callerA [] aE H:=⟨rfl,hM,λb o e=>HX e,Nat.le_of_eq (HV _ _),trivial,λb hb=>absurd (show b∈([]:List Addr) from hb) (by simp),az,.of_eq hg⟩
  refine codeAny_mono ((F _ qT (jX iZ) hL).run callerA [] aE H ⟨[.ref a],[]⟩ [.ref a] [.ref a] _ _ hr e0 (iB aE (.ref a)) (.cons rfl .nil) (dW H C1 hS)) λr s' h=>?_;cases r with
  | error e=>exact False.elim h
  | ok fl =>
   cases fl with
   | next=>exact False.elim h
   | brk=>exact False.elim h
   | cont=>exact False.elim h
   | ret u =>
    obtain⟨v,H',os,bare,un,o8,r',q⟩:=h;have q':v = .bl true:=q;subst q';obtain rfl:u=Value.bool true:=r';have Vi:∀b:Addr,b∉aX ([]:List Env):=λb z=>absurd (show b∈([]:List Addr) from z) (by simp)
    have all:∀b o,aE.heap.get? b=some o->asItWas aE.heap s'.heap b o/\∃o',s'.heap.get? b=some o':=λb o e=>by
     cases q:H b with
     | none =>
      have:=un.keep b o e q (Vi b) (by simp)
      exact⟨.inl this,o,this⟩
     | some u =>
      rcases hO b u q with⟨z,ob,xs,rfl⟩ | ⟨z,rfl⟩
      ·have z2:=un.d9 b ob _ q;obtain⟨e1,_⟩:=az b _ q;obtain⟨e2,_⟩:=o8 b _ z2;rw[e] at e1;cases e1;exact⟨.inl e2,_,e2⟩
      ·obtain⟨more,z2⟩:=un.eK b _ q;have e1:=(nF b z).1;rw[e] at e1;cases e1;have e2:s'.heap.get? b=some { cls:=.none,data:=.fields (#[]++more)}:=o8 b _ z2;exact⟨.inr (.inl ⟨(nF b z).2,rfl,#[],more,rfl,e2⟩),_,e2⟩
    exact⟨rfl,⟨λb o e=>(all b o e).1,λb o e=>(all b o e).2⟩,os,bare⟩
 have tq:∀q∈tabs,q.2∈tabs.map (·.2):=λq hq=>List.mem_map_of_mem hq;cases hk:K.lookup a with
 | some o =>
  have e:=KX a o hk;rw[ha] at e;cases e;refine core (λb=>if b∈tabs.map (·.2) then some (.dm #[]) else none) (λb u z=>?_) (λq hq=>if_pos (tq q hq)) (.inr ⟨_,vs.toArray,_,hk,rfl,rfl,rfl,by rw[List.size_toArray,BY];exact hl,by simpa using rv⟩) (λb u z=>?_) (λz=>absurd (if_neg aT) z)
  ·by_cases hb:b∈tabs.map (·.2)
   ·have z':=(if_pos hb).symm.trans z;cases z';exact .inr ⟨hb,rfl⟩
   ·have z':=(if_neg hb).symm.trans z;cases z'
  ·by_cases hb:b∈tabs.map (·.2)
   ·have z':=(if_pos hb).symm.trans z;cases z';exact(nF b hb).1
   ·have z':=(if_neg hb).symm.trans z;cases z'
 | none =>
  refine core (λb=>if b=a then some (.eG { cls:=.type "list",data:=.seq vs.toArray } (.lst (ns.map V.int))) else if b∈tabs.map (·.2) then some (.dm #[]) else none) (λb u z=>?_) (λq hq=>?_) (.inl (.inr ⟨{ cls:=.type "list",data:=.seq vs.toArray },if_pos rfl⟩)) (λb u z=>?_) λ_=>hk
  ·by_cases hb:b=a
   ·have z':=(if_pos hb).symm.trans z;cases z';exact .inl ⟨hb,_,_,rfl⟩
   ·have z':=(if_neg hb).symm.trans z;by_cases h_:b∈tabs.map (·.2)
    ·have z2:=(if_pos h_).symm.trans z';cases z2;exact .inr ⟨h_,rfl⟩
    ·have z2:=(if_neg h_).symm.trans z';cases z2
  ·have ne:q.2≠a:=λz=>aT (by rw[← z];exact tq q hq)
   exact(if_neg ne).trans (if_pos (tq q hq))
  ·by_cases hb:b=a
   ·have z':=(if_pos hb).symm.trans z;cases z';subst hb;exact⟨ha,by rw[List.length_map];exact hl,vs,_,rv,ha⟩
   ·have z':=(if_neg hb).symm.trans z;by_cases h_:b∈tabs.map (·.2)
    ·have z2:=(if_pos h_).symm.trans z';cases z2;exact(nF b h_).1
    ·have z2:=(if_neg h_).symm.trans z';cases z2
theorem jd.of{X:Cx}{scope:Scope}{cl:List (Str×Addr)}{ps fs:List Str}{fv:List Nat}(i7:closureFor scope X.env=pure cl)(kind:scope.kind = .function)(co:scope.isCoroutine=false)(gen:scope.isGenerator=false)
  (iC:(scope.names.all λy=>y.2 != .cell)=true) (par:(ps.all λy=>scope.names.lookup y == some .local)=true) (sub:AllP (λp:Str×Addr=>X.env.cells.lookup p.1=some p.2) cl) (has:(scope.names.all λy=>y.2 != .free || (cl.lookup y.1).isSome)=true)
  (free:fv.map (λj=>X.N[j]?)=fs.map some) (fk:(fs.all λy=>scope.names.lookup y == some .free && X.env.scope.names.lookup y == some .cell)=true) (nd:(ps++fs).Nodup):jd X scope cl ps fs fv where
 i7:=i7
 kind:=kind
 co:=co
 gen:=gen
 iC:=λy hy=>by have:=List.all_eq_true.mp iC y hy;simpa using this
 par:=λy hy=>by have:=List.all_eq_true.mp par y hy;simpa using this
 sub:=sub.mem
 has:=λy hy hl=>by
  have:=List.all_eq_true.mp has y hy;rw[hl] at this;exact Option.isSome_iff_exists.mp (by simpa only[bne_self_eq_false,Bool.false_or] using this)
 free:=free
 fk:=λy hy=>by have:=List.all_eq_true.mp fk y hy;simpa using this
 nd:=nd
theorem aP.Vj{P:Program}{w:World}{K:PySem.W.Frag}{mg:Str->Option Value}{base:Heap}{x qual:Str}{st:Stmt}{f:Addr}{fd:FuncData}{N ps:List Str}{k:Nat}{sp:Sp}(F:aP K x qual st f fd)(S:bB N ps (aQ st))(len:∀vs H Q E,sp vs H Q E->vs.length=ps.length)
  (iV:∀(A:Around) (outer:List Env) (s:Shared) (H:Hp) (vs:List V) (Q:VK) (E:XK),bR k (A.deeper (envOfC qual (aQ st) s.heap.objs.size f fd.code))->sp vs H Q E->
   ∃t,eO (fQ br P w K mg base N qual (aQ st) f fd.code A outer s H E).iu (cR st) t/\t { nx:=λ_ H'=>Q .aG H',rt:=Q } (start N vs) H):aU P w K mg base br (k+1) f fd ps sp:=by
 obtain⟨oc,od,kV,doc,pm,an,aO,ct,e7,rfl,lk,cu⟩:=F.ex;refine vd lk cu S len λA outer s H vs Q E hr dW=>?_;obtain⟨t,h,q⟩:=iV A outer s H vs Q E hr dW;exact⟨t,h.iu,q⟩
theorem Vk{l:PySem.W.OpenLaw}{n k:Nat}{q:Program}{loose:List Str}{XP:(Str->Option Value)->Heap->Prop}{YP:World->Heap->Prop}{d:DefRec}{K:Params->PySem.W.Frag}{sp:World->List (Addr×Addr)->Sp}{x:Str}
  (hn:l.most=some n) (oR:n<=sizeLine) (mO:d.params.defaults = []) (hr:bR k callerA)
  (hY:∀(w:World) (h:Heap),YP w h->(K w.params).In h) (rT:∀w:World,noTabs (K w.params)=true)
  (F:∀(w:World) (mg:Str->Option Value) (fa:Addr) (h:Heap),YP w h->(K w.params).In h->h.Ns mainGlobals mg->mg d.name=some (.ref fa)->
   ∃(fd:FuncData) (tabs:List (Addr×Addr)),(∀(s:Shared) (u:Value),BindsTo s fd ⟨[u],[]⟩ [(x,u)])/\TabsAt tabs h/\
    ∀base:Heap,(K w.params).In base->base.Ns mainGlobals mg->(∀q∈tabs,bx mg base q.1 q.2)->aU l.prog w (K w.params) mg base br k fa fd [x] (sp w tabs))
  (dW:∀(w:World) (tabs:List (Addr×Addr)) (H:Hp) (a:Addr) (ns:List Int),ns.length<=n->(∀q∈tabs,H q.2=some (.dm #[]))->aH (K w.params) H a (ns.map V.int)->sp w tabs [.ref a] H (λv _=>v = .bl true) λ_ _ _=>False) :
  PySem.W.WalkO q loose XP YP l.row.toRowW d [] (λf vs=>PySem.call f vs):=by
 refine BR.JA hn mO λw aK aE mg mb fa o pm cd doc a vs ns G Y ho hd cu hmg qR hints hlen hg=>?_;have KX:=hY w _ Y;obtain⟨fd,tabs,hb,hT,hF⟩:=F w mg fa _ Y KX G.T.g hmg;exact Vf KX G.T.g G.T.b G.T.builtins G.T.nolimit hg qR hints (Nat.le_trans hlen oR) hr hT (rT w) G.T.bmain hF hb λH C1 hS=>dW w tabs H a ns hlen C1 hS
noncomputable def nG(s:Stmt):Pos:=match cR s with
 | [.Return (some (.Call _ _ [⟨_,.Lambda _ _ _ pos,_⟩] _)) _]=>pos
 | _=>⟨0,0,0,0⟩
noncomputable def nH(x:Str):Str:=x ++ ".<locals>." ++ "<lambda>"
noncomputable def iJ(r:Int)(j:Nat):Int×Int:=(((j:Int) - r).natAbs,j)
noncomputable def Vl(P:Addr)(pos:Pos)(qual:Str):Sp:=λvs H Q _=>∃(r:Int) (n:Nat),vs = [.int r,.int (n:Int)]/\2<=n/\n<64/\cD P pos qual H/\
 ∀(l:Addr) (is:List Nat) (H':Hp),SameBut P H H'->cD P pos qual H'->H l=none->H' l=none->kj (iJ r) n is->Q (.ref l) (upd H' l (.lst (is.map λ(i:Nat)=>V.int (i:Int))))
end _L
namespace _L
open PySem PySem.Spec PyProof.Rows
noncomputable def fU(i:Nat):Nat:=(reduceHash (Builtin.Tuple.tupleHashOf [hashInt ((i / 60:Nat):Int),hashInt ((i % 60:Nat):Int)]) % 524291).toNat
noncomputable def wg:Nat->Nat->Bool
 | 0,_=>true
 | n+1,acc=>(Nat.land acc (Nat.shiftLeft 1 (fU n)) == 0) && wg n (Nat.lor acc (Nat.shiftLeft 1 (fU n)))
theorem Lq:∀(n acc:Nat),wg n acc=true->(∀i,i<n->acc.testBit (fU i)=false)/\∀i j,i<n->j<n->fU i=fU j->i=j
 | 0,_,_=>⟨λ_ h=>absurd h (by lia),λ_ _ h=>absurd h (by lia)⟩
 | n+1,acc,h=>by
  unfold wg at h;rw[Bool.and_eq_true,beq_iff_eq] at h;obtain⟨h1,h2⟩:=h;have e1:acc.testBit (fU n)=false:=by
   have z:(acc &&& 1 <<< fU n).testBit (fU n)=false:=by
    show Nat.testBit (Nat.land acc (Nat.shiftLeft 1 (fU n))) _=false;rw[h1,Nat.zero_testBit]
   rw[Nat.testBit_and,Nat.testBit_shiftLeft] at z;simpa using z
  obtain⟨g1,g2⟩:=Lq n _ h2;have e2:∀i,i<n->acc.testBit (fU i)=false/\fU i≠fU n:=λi hi=>by
   have z:(acc ||| 1 <<< fU n).testBit (fU i)=false:=g1 i hi
   rw[Nat.testBit_or,Nat.testBit_shiftLeft] at z;rw[Bool.or_eq_false_iff] at z;refine⟨z.1,λe=>?_⟩
   have:=z.2;rw[e] at this;simp at this
  refine⟨λi hi=>?_,λi j hi hj e=>?_⟩
  ·by_cases q:i=n
   ·rw[q];exact e1
   ·exact(e2 i (by lia)).1
  ·by_cases q:i=n
   ·by_cases q':j=n
    ·lia
    ·exact absurd (by rw[← e,q]) (e2 j (by lia)).2
   ·by_cases q':j=n
    ·exact absurd (by rw[e,q']) (e2 i (by lia)).2
    ·exact g2 i j (by lia) (by lia) e
theorem Vm:wg 3840 0=true:=by decide +kernel
theorem Vn{a b c d:Int}(a0:0<=a)(a1:a<64)(b0:0<=b)(b1:b<60)(c0:0<=c)(c1:c<64)(d0:0<=d)(d1:d<60)
  (h:reduceHash (Builtin.Tuple.tupleHashOf [hashInt a,hashInt b])=reduceHash (Builtin.Tuple.tupleHashOf [hashInt c,hashInt d])):a=c/\b=d:=by
 have e:∀ {x y:Int},0<=x->0<=y->y<60->fU (x.toNat*60+y.toNat)=(reduceHash (Builtin.Tuple.tupleHashOf [hashInt x,hashInt y]) % 524291).toNat:=λ{x y} h0 h1 h2=>by
  unfold fU;have q1:((x.toNat*60+y.toNat) / 60:Nat)=x.toNat:=by lia
  have q2:((x.toNat*60+y.toNat) % 60:Nat)=y.toNat:=by lia
  rw[q1,q2,Int.toNat_of_nonneg h0,Int.toNat_of_nonneg h1]
 have:=(Lq 3840 0 Vm).2 (a.toNat*60+b.toNat) (c.toNat*60+d.toNat) (by lia) (by lia) (by rw[e a0 b0 b1,e c0 d0 d1,h])
 lia
theorem Lr{α:Type}{f:α->Int}:∀ {l:List α},(l.map f).Nodup->∀h:Int,(l.filter λx=>f x == h).length<=1
 | [],_,_=>Nat.zero_le _
 | x::l,n,h=>by
  rw[List.map_cons,List.nodup_cons] at n;by_cases q:f x=h
  ·have z:(l.filter λy=>f y == h) = []:=by
    rw[List.filter_eq_nil_iff];intro y hy e;exact n.1 (by rw[q,← (beq_iff_eq.mp e)];exact List.mem_map_of_mem hy)
   rw[List.filter_cons,if_pos (by rw[q];exact beq_self_eq_true h),z]
   exact Nat.le_refl _
  ·rw[List.filter_cons,if_neg (by rw[beq_iff_eq];exact q)]
   exact Lr n.2 h
section
variable{M:Model}{prog:Program}{w:World}{A:Around}{E:Value->Shared->Prop}{s:Shared}
theorem Vo{id:String}{d:Addr}{o:Obj}{es:Array DictEntry}{ep}{Q:Array DictEntry->Shared->Prop}(ho:s.heap.get? d=some o)(hd:o.data = .dict es ep)
  (hT:∀e∈es.toList,∃t,e.key = .ref t/\s.TypeIs (.ref t) "tuple") (hn:(es.toList.map (·.hash)).Nodup) (h:Q es s):wpAny M A (Builtin.Dict.entriesForEmpty id d) Q E s:=by
 unfold Builtin.Dict.entriesForEmpty;refine wpAny_bind (wpAny_dictEntries ho hd ?_);refine wpAny_bind ?_;rw[← Array.forIn_toList];refine wpAny_forIn_list _ (λrest _ s'=>s' = s/\∀e∈rest,e∈es.toList) _ ?_ ?_ _ _ ⟨rfl,λe he=>he⟩
 ·rintro e rest b s' ⟨rfl,hr⟩;obtain⟨t,ek,C3⟩:=hT e (hr e (by simp))
  rw[ek];unfold Builtin.Dict.quietEq;refine wpAny_bind (wpAny_bind (wpAny_specialOf C3 PySem.F.slot_tuple_eq.lookup (wpAny_pure ?_)));have hz:¬ (es.filter (·.hash == e.hash)).size > 1:=by
   have:=Lr hn e.hash;have e2:(es.filter (·.hash == e.hash)).size=(es.toList.filter (·.hash == e.hash)).length:=by rw[← Array.length_toList,Array.toList_filter]
   lia
  have q:(some (Value.builtin "tuple.__eq__") == some (Value.builtin "object.__eq__"))=false:=by decide +kernel
  rw[q];simp only[Bool.not_false,if_true,if_neg hz];exact wpAny_pure ⟨rfl,λe he=>hr e (List.mem_cons_of_mem _ he)⟩
 ·rintro b s' ⟨rfl,_⟩;exact wpAny_pure h
theorem Vp{nm:String}{d o:Addr}{knd:HeapKind prog w (List Key)}{xs:List (List Key×Addr×Value)}{Q:Unit->Shared->Prop}(C4:d≠o)(C5:(o == sysModules)=false)
  (hd:s.heap.DictOfH knd d []) (ho:s.heap.DictOfH knd o xs) (hT:∀x∈xs,s.TypeIs (.ref x.2.1) "tuple") (hn:(xs.map λx=>knd.hash x.1).Nodup) (hsz:xs.length<=sizeLine)
  (hQ:∀h',(∃o' gU jq,h'.get? d=some o'/\o'.ExactDict/\o'.data = .dict gU jq/\gU.toList=xs.map (entryOfKey knd))->Heap.SameBut d s.heap h'->Q () { s with heap:=h' }) :
  wpAny (model prog w) A (Builtin.Dict.mergeDict nm d o) Q E s:=by
 obtain⟨od,Vq,Ls,jG,cu,je,Vr,_⟩:=id hd;obtain⟨oo,jH,Lu,nI,Lv,pM,jI,C6,rW⟩:=id ho;have Vs:Vq = #[]:=Array.toList_eq_nil_iff.mp Vr;subst Vs;unfold Builtin.Dict.mergeDict;rw[if_neg (by simpa using C4)]
 unfold Builtin.Dict.showsAll;rw[if_neg (by rw[C5];exact Bool.false_ne_true)]
 refine wpAny_bind (wpAny_pure ?_);refine wpAny_bind (wpAny_dictEntries nI pM ?_);dsimp only;cases hx:xs with
 | nil =>
  rw[hx] at jI;have h0:jH = #[]:=Array.toList_eq_nil_iff.mp jI;subst h0;rw[if_neg (by simp)]
  refine wpAny_bind (wpAny_dictEpoch nI pM ?_);refine wpAny_bind (wpAny_dictEntries nI pM ?_);refine wpAny_bind ?_;rw[Std.Legacy.Range.forIn_eq_forIn_range']
  show wpAny _ _ (forIn [] _ _) _ _ _;rw[List.forIn_nil];refine wpAny_pure (wpAny_pure (hQ s.heap ⟨od,#[],Ls,jG,cu,je,by rw[hx];rfl⟩ (Heap.SameBut.refl _ _)))
 | cons x rest =>
  have gm:jH.toList≠[]:=by rw[jI,hx];exact List.cons_ne_nil _ _
  have BQ:(decide (jH.size<=8) && jH.all λe=>(keyPart e.key).isSome)=false:=by
   rw[Bool.and_eq_false_iff];refine .inr ?_;rw[← Array.all_toList,jI,hx]
   rfl
  rw[BQ];refine wpAny_bind (wpAny_dictEntries jG je ?_);rw[if_pos (by rfl)]
  refine wpAny_bind (Vo nI pM (λe he=>?_) ?_ ?_)
  ·rw[jI] at he;obtain⟨y,hy,rfl⟩:=List.mem_map.mp he;exact⟨y.2.1,rfl,hT y hy⟩
  ·rw[jI,List.map_map];exact hn
  have Vt:jH.isEmpty=false:=by
   cases q:jH.isEmpty with
   | false=>rfl
   | true=>exact absurd (by rw[Array.isEmpty_iff.mp q]) gm
  rw[if_pos (by rw[Vt];rfl)]
  have Vu:jH.size<=sizeLine+1:=by
   have:jH.size=xs.length:=by rw[← Array.length_toList,jI,List.length_map]
   lia
  exact wpAny_bind (wpAny_updateDictKeysTo jG je (wpAny_pure (hQ _ ⟨_,_,Ls+1,Heap.get?_update_self _ jG (Obj.isFreed_of_dict (Obj.data_mapDictKeys je _)),cu.mapDictKeys _,Obj.data_mapDictKeys je _,jI⟩ (Heap.SameBut.update ..))) Vu)
end
section
variable{prog:Program}{w:World}{A:Around}{E:Value->Shared->Prop}{s:Shared}
theorem Vv{o:Addr}{xs:List (List Key×Addr×Value)}{Q:Value->Shared->Prop}(C5:(o == sysModules)=false)(ho:s.heap.DictOfH (tupleKind (c9 prog w)) o xs)(hsz:xs.length<=sizeLine)
  (hn:(xs.map λx=>(tupleKind (c9 prog w)).hash x.1).Nodup)
  (h:∀h',(∃o' gU jq,h'.get? s.heap.objs.size=some o'/\o'.ExactDict/\o'.data = .dict gU jq/\gU.toList=xs.map (entryOfKey (tupleKind (c9 prog w))))->Heap.SameBut s.heap.objs.size (s.heap.push { cls:=.type "dict",data:=.dict #[] }) h'->Q (.ref s.heap.objs.size) { s with heap:=h' }) :
  wpAny (model prog w) A (call (.type "dict") [.ref o]) Q E s:=by
 refine callType_codes (Q₁:=λobj aE=>obj = .ref s.heap.objs.size/\aE = { s with heap:=s.heap.push { cls:=.type "dict",data:=.dict #[] }}) PySem.F.kt_called_dict (PySem.F.kt_typeCall_dict_1 _) PySem.F.entry_dict_init (kt_code_dict_new _ ⟨rfl,rfl⟩) ?_;rintro obj aE ⟨rfl,rfl⟩;have qO:(s.heap.push { cls:=.type "dict",data:=.dict #[] }).DictOfH (tupleKind (c9 prog w)) s.heap.objs.size []:=Heap.DictOfH.new s.heap;obtain⟨oo,jH,Lu,nI,Lv,pM,jI,C6,rW⟩:=id ho;have C3:∀x∈xs,({ s with heap:=s.heap.push { cls:=.type "dict",data:=.dict #[] }}:Shared).TypeIs (.ref x.2.1) "tuple" := λx hx=>by
  obtain⟨o1,aA,n,g1,c1,_⟩:=(show IsTupleKey (c9 prog w) s.heap x.1 x.2.1 from C6 x hx);exact⟨o1,Heap.get?_push_of_some _ g1,c1⟩
 have C7:∀x∈xs,(tupleKind (c9 prog w)).is (s.heap.push { cls:=.type "dict",data:=.dict #[] }) x.1 x.2.1:=λx hx=>by
  obtain⟨o1,aA,n,g1,c1⟩:=(show IsTupleKey (c9 prog w) s.heap x.1 x.2.1 from C6 x hx);exact⟨o1,aA,n,Heap.get?_push_of_some _ g1,c1⟩
 have f_:(s.heap.push { cls:=.type "dict",data:=.dict #[] }).DictOfH (tupleKind (c9 prog w)) o xs:=⟨oo,jH,Lu,Heap.get?_push_of_some _ nI,Lv,pM,jI,C7,rW⟩;have C4:s.heap.objs.size≠o:=λe=>absurd (Heap.lt_size nI) (by rw[e];exact Nat.lt_irrefl _)
 refine⟨qO.typeIs,PySem.F.args_dict_init_2 _ _,?_⟩;unfold Builtin.«dict.__init__»;refine wpAny_bind ?_;unfold Builtin.Dict.selfAndRest;refine wpAny_bind (wpAny_notOrdered_dict qO.typeIs ?_)
 show wpAny _ _ (pure (s.heap.objs.size,[Value.ref o])) _ _ _;refine wpAny_pure ?_
 show wpAny _ _ (Builtin.Dict.updateFrom "dict.__init__" s.heap.objs.size (.ref o) [] .none) _ _ _;unfold Builtin.Dict.updateFrom;refine wpAny_bind (wpAny_typeOf f_.typeIs ?_);rw[if_neg (by decide)]
 refine wpAny_bind ?_;unfold Builtin.Dict.merge;refine wpAny_bind ?_;unfold Builtin.Dict.readDirectly;refine wpAny_bind (wpAny_isInstance f_.typeIs isSubtype_dict_dict ?_);simp only[Bool.not_true,Bool.false_eq_true,if_false];refine wpAny_bind (wpAny_specialOf f_.typeIs PySem.F.slot_dict_iter.lookup (wpAny_pure ?_));simp only[beq_self_eq_true,if_true];refine wpAny_bind (wpAny_pure ?_);refine Vp (xs:=xs) (knd:=tupleKind (c9 prog w)) C4 C5 qO f_ C3 hn hsz λh' cJ eU=>?_
 show wpAny _ _ (Builtin.Dict.addKeywords s.heap.objs.size [] >>= _) _ _ _;exact wpAny_bind (wpAny_pure (wpAny_pure ⟨rfl,h h' cJ eU⟩))
end
noncomputable def wj(ks:List (List Key)):Prop:=∀(P:Program) (w:World),(ks.map (tupleKeyHash (c9 P w))).Nodup
theorem KT.keys{H:Hp}{aq:List (List Key×V)}{xs:List (List Key×Addr×Value)}(h:KT H aq xs):xs.map (·.1)=aq.map (·.1):=by
 induction h with
 | nil=>rfl
 | cons hq _ ih=>rw[List.map_cons,List.map_cons,ih,hq.1]
theorem KT.len{H:Hp}{aq:List (List Key×V)}{xs:List (List Key×Addr×Value)}(h:KT H aq xs):xs.length=aq.length:=by
 have:=congrArg List.length h.keys;simpa using this
section
variable{X:Cx}
theorem Vw:fP X (.type "dict") (λxs H Q=>∃a aq,xs = [.ref a]/\H a=some (.dT aq)/\wj (aq.map (·.1))/\∀p,H p=none->Q (.ref p) (upd H p (.dT aq))):=by
 intro pins s σ H xs us Q I r h;obtain⟨a,aq,rfl,ha,pN,q⟩:=h;obtain⟨u,rfl,ru⟩:=vals1 r;cases ru;obtain⟨z,hs,ks,kt,dd⟩:=BI I.az ha;obtain⟨o,es,ep,h1,h2,h3,h4,h5,h6⟩:=id dd;refine Vv (xs:=ks) hs dd (by rw[kt.len];exact z) (by have:=pN X.prog X.w;rw[← kt.keys,List.map_map] at this;exact this) λh' o7 eU=>?_
 obtain⟨o',gU,jq,g1,g2,g3,g4⟩:=o7;have fr:H s.heap.objs.size=none:=I.az.fresh (Nat.le_refl _);have Vx:∀ob,KT (upd H s.heap.objs.size ob) aq ks:=λob=>by
  clear q ha pN z h4 h5 h6 g4 dd
  induction kt with
  | nil=>exact .nil
  | cons hq _ ih =>
   refine .cons ⟨hq.1,?_,hq.2.2⟩ ih;rw[au (bK hq.2.1 fr)];exact hq.2.1
 refine⟨.ref s.heap.objs.size,upd H s.heap.objs.size (.dT aq),?_,rfl,q _ fr⟩;refine I.laid (a:=s.heap.objs.size) (o:=.dT aq) (t':=s.toks) (λb q hq=>?_) (Nat.le_refl _) ?_
 ·exact(eU.2 b (Nat.ne_of_lt (Heap.lt_size hq))).trans (Heap.get?_push_of_some _ hq)
 ·exact⟨z,beq_eq_false_iff_ne.mpr (Ne.symm (Nat.ne_of_lt I.big)),ks,Vx _,o',gU,jq,g1,g2,g3,g4,h6⟩
end
theorem Lw(P:Program)(w:World)(p:Int×Int):tupleKeyHash (c9 P w) (kT p)=reduceHash (Builtin.Tuple.tupleHashOf [hashInt p.1,hashInt p.2]):=by
 have e:(kT p).map (c9 P w).hash = [hashInt p.1,hashInt p.2]:=rfl;unfold tupleKeyHash;rw[e]
theorem Vy{z:List (Int×Int)}(h:∀p∈z,0<=p.1/\p.1<64/\0<=p.2/\p.2<60)(nd:z.Nodup):wj (z.map kT):=by
 intro P w;rw[List.map_map]
 induction z with
 | nil=>exact List.nodup_nil
 | cons x z ih =>
  rw[List.nodup_cons] at nd;rw[List.map_cons,List.nodup_cons];refine⟨λhm=>?_,ih (λp hp=>h p (List.mem_cons_of_mem _ hp)) nd.2⟩;obtain⟨y,hy,e⟩:=List.mem_map.mp hm;have hx:=h x (by simp)
  have wk:=h y (List.mem_cons_of_mem _ hy);rw[Function.comp_apply,Function.comp_apply,Lw,Lw] at e;obtain⟨e1,e2⟩:=Vn wk.1 wk.2.1 wk.2.2.1 wk.2.2.2 hx.1 hx.2.1 hx.2.2.1 hx.2.2.2 e;exact nd.1 (by rw[show x=y from Prod.ext e1.symm e2.symm];exact hy)
noncomputable def iK(h:Heap)(d:Addr)(es:Array DictEntry)(ep:Nat):Prop:=∃o,h.get? d=some o/\o.ExactDict/\o.data = .dict es ep
section
variable{prog:Program}{w:World}{A:Around}{E:Value->Shared->Prop}{s:Shared}{d it:Addr}{es:Array DictEntry}{ep i:Nat}
theorem iK.type(m:iK s.heap d es ep):s.TypeIs (.ref d) "dict" := let ⟨o,h1,h2,_⟩:=m;⟨o,h1,h2.1⟩
theorem iK.lt{h:Heap}(m:iK h d es ep):d<h.objs.size:=let ⟨_,h1,_⟩:=m;Heap.lt_size h1
theorem iK.keep{h h':Heap}(m:iK h d es ep)(k:∀o,h.get? d=some o->h'.get? d=some o):iK h' d es ep:=let ⟨o,h1,r⟩:=m;⟨o,k o h1,r⟩
theorem Vz{Q:Value->Shared->Prop}(hd:(d == sysModules)=false)(m:iK s.heap d es ep)
  (q:Q (.ref s.heap.objs.size) { s with heap:=s.heap.push { cls:=.type "dict_keyiterator",data:=.fields #[.ref d,.int 0 0,.int es.size 0,.int ep 0] }}):wpAny (model prog w) A (pyIter (.ref d)) Q E s:=by
 obtain⟨o,h1,h2,h3⟩:=id m;refine wpAny_pyIter_slot m.type PySem.F.slot_dict_iter (wpAny_call_entry PySem.F.slot_dict_iter m.type PySem.F.entry_dict_iter ?_ (PySem.F.args_dict_iter_1 _));unfold Builtin.«dict.__iter__» Builtin.Dict.dictSlotNone;refine wpAny_bind (wpAny_bind (wpAny_notOrdered_dict m.type (show wpAny _ _ (pure (Value.ref d)) _ _ s from wpAny_pure ?_)))
 show wpAny _ _ (Builtin.Dict.showsAll d >>= _) _ _ s;unfold Builtin.Dict.showsAll;rw[if_neg (by rw[hd];exact Bool.false_ne_true)]
 refine wpAny_bind (wpAny_pure (wpAny_bind (wpAny_dictEntries h1 h3 (wpAny_bind (wpAny_dictEpoch h1 h3 ?_)))));refine wpAny_bind (wpAny_newObj_type (wpAny_pure ⟨_,rfl, "dict_keyiterator",_,⟨_,Heap.get?_push_size _ rfl,rfl⟩,PySem.F.slot_dict_keyiterator_next.lookup,?_⟩));simpa[rawInt] using q
theorem VA{Q:Option Value->Shared->Prop}(hit:s.heap.IsKeyIter it d i es.size ep)(m:iK s.heap d es ep)(hi:i<es.size)
  (q:∀h',h'.IsKeyIter it d (i+1) es.size ep->Heap.SameBut it s.heap h'->Q (some es[i].key) { s with heap:=h' }):wpAny (model prog w) A (pyNext (.ref it)) Q E s:=by
 obtain⟨o,ho,hc,hd⟩:=id hit;obtain⟨od,jG,_,je⟩:=id m;unfold pyNext;refine wpAny_bind (wpAny_attempt (wpAny_callSpecial?_slot (name:=Str.ofString "__next__") hit.typeIs PySem.F.slot_dict_keyiterator_next
  (wpAny_call_entry PySem.F.slot_dict_keyiterator_next hit.typeIs PySem.F.entry_dict_keyiterator_next ?_ (PySem.F.args_dict_keyiterator_next_1 _))))
 refine wpAny_bind (wpAny_pure (wpAny_bind (wpAny_bind ?_)))
 first | refine wpAny_bind (wpAny_typeNameOfWhole_keyiter hit.typeIs (wpAny_pure ?_)) | refine wpAny_bind (wpAny_typeNameOf_keyiter hit.typeIs (wpAny_pure ?_))
 refine wpAny_bind (wpAny_fieldsOf ho hd ?_);simp only[show Builtin.Dict_items.ownsTuple "dict_keyiterator" = false by decide,Bool.false_eq_true,if_false]
 show wpAny _ _ (if (Value.ref d == Value.none)=true then _ else _) _ _ s
 rw[if_neg (show ¬ ((Value.ref d == Value.none)=true) from Bool.false_ne_true)];refine wpAny_bind (wpAny_pure (wpAny_bind (wpAny_dictEntries jG je ?_)));rw[if_neg (by simp)]
 refine wpAny_bind (wpAny_pure (wpAny_bind (wpAny_dictEpoch jG je ?_)));rw[if_neg (by simp)]
 refine wpAny_pure ?_;simp only[show ¬ ((i:Int)<0) from by lia,if_false,Int.toNat_natCast,Array.getElem?_eq_getElem hi]
 refine wpAny_bind ?_
 first | refine wpAny_bind (wpAny_typeNameOfWhole_keyiter hit.typeIs (wpAny_pure ?_)) | refine wpAny_bind (wpAny_typeNameOf_keyiter hit.typeIs (wpAny_pure ?_))
 refine wpAny_bind (wpAny_isOneOf_keyiter hit.typeIs ?_)
 show wpAny _ _ (setField (.ref it) 1 (rawInt ((i:Int)+1)) >>= _) _ _ s;refine wpAny_bind (wpAny_setField ho hd (by simp) ?_)
 have mV:(s.heap.update it (Obj.mapFields (·.setIfInBounds 1 (rawInt ((i:Int)+1))))).IsKeyIter it d (i+1) es.size ep :=
  ⟨_,Heap.get?_update_self _ ho (Obj.isFreed_of_fields (Obj.data_mapFields hd _)),(Obj.cls_mapFields ..).trans hc,by rw[Obj.data_mapFields hd];simp[rawInt]⟩
 refine wpAny_bind (wpAny_holding (wpAny_bind (wpAny_isOneOf_keyiter (s:={ s with heap:=s.heap.update it (Obj.mapFields (·.setIfInBounds 1 (rawInt ((i:Int)+1))))}) mV.typeIs ?_)))
 show wpAny _ _ (pure es[i].key) _ _ _;exact wpAny_pure (wpAny_pure ⟨_,rfl,wpAny_pure (q _ mV (Heap.SameBut.update ..))⟩)
theorem VB{Q:Option Value->Shared->Prop}(hh:A.handled=none)(hit:s.heap.IsKeyIter it d es.size es.size ep)(m:iK s.heap d es ep)(q:∀h',Heap.ExtBut it s.heap h'->Q none { s with heap:=h' }):wpAny (model prog w) A (pyNext (.ref it)) Q E s:=by
 obtain⟨o,ho,hc,hd⟩:=id hit;obtain⟨od,jG,_,je⟩:=id m;unfold pyNext;refine wpAny_bind (wpAny_attempt (wpAny_callSpecial?_slot (name:=Str.ofString "__next__") hit.typeIs PySem.F.slot_dict_keyiterator_next
  (wpAny_call_entry PySem.F.slot_dict_keyiterator_next hit.typeIs PySem.F.entry_dict_keyiterator_next ?_ (PySem.F.args_dict_keyiterator_next_1 _))))
 refine wpAny_bind (wpAny_pure (wpAny_bind (wpAny_bind ?_)))
 first | refine wpAny_bind (wpAny_typeNameOfWhole_keyiter hit.typeIs (wpAny_pure ?_)) | refine wpAny_bind (wpAny_typeNameOf_keyiter hit.typeIs (wpAny_pure ?_))
 refine wpAny_bind (wpAny_fieldsOf ho hd ?_);simp only[show Builtin.Dict_items.ownsTuple "dict_keyiterator" = false by decide,Bool.false_eq_true,if_false]
 show wpAny _ _ (if (Value.ref d == Value.none)=true then _ else _) _ _ s
 rw[if_neg (show ¬ ((Value.ref d == Value.none)=true) from Bool.false_ne_true)];refine wpAny_bind (wpAny_pure (wpAny_bind (wpAny_dictEntries jG je ?_)));rw[if_neg (by simp)]
 refine wpAny_bind (wpAny_pure (wpAny_bind (wpAny_dictEpoch jG je ?_)));rw[if_neg (by simp)]
 refine wpAny_pure ?_;simp only[show ¬ ((es.size:Int)<0) from by lia,if_false,Int.toNat_natCast,Array.getElem?_eq_none (Nat.le_refl es.size)]
 refine wpAny_bind ?_
 first | refine wpAny_bind (wpAny_typeNameOfWhole_keyiter hit.typeIs (wpAny_pure ?_)) | refine wpAny_bind (wpAny_typeNameOf_keyiter hit.typeIs (wpAny_pure ?_))
 show wpAny _ _ (setField (.ref it) 0 .none >>= _) _ _ s;refine wpAny_bind (wpAny_setField ho hd (by simp) ?_)
 show wpAny _ _ (newExc (.type "StopIteration") [] >>= _) _ _ _;refine wpAny_bind ?_;simp only[newExc,newTuple];refine wpAny_bind (wpAny_newObj_type ?_ (by size_fits))
 refine wpAny_bind (m:=firstArgMember _ _) (wpAny_of_eq (a:=Value.none) (by first | rfl | (simp only[firstArgMember];rfl)) ?_)
 refine wpAny_newObj_type ?_ (by size_fits)
 simp only[raiseNew];refine wpAny_bind (wpAny_handled ?_);rw[show A.in1.handled=none from hh];refine wpAny_bind (wpAny_pure (wpAny_throw ?_));refine wpAny_bind (wpAny_isInstance (T := "StopIteration") (b:=true) ⟨_,Heap.get?_push_size _ rfl,rfl⟩ isSubtype_stop ?_);exact wpAny_pure (q _ (((Heap.SameBut.update ..).extBut.push _).push _))
theorem VC(hh:A.handled=none)(I:Addr)(gm:d≠I):Walks prog w A I [I,d] [I] es.size (λi v=>∃e,es[i]? = some e/\v=e.key) (λi h=>h.IsKeyIter I d i es.size ep/\iK h d es ep) where
 sub:=λb hb=>by simp at hb;simp[hb]
 frame:=λ_ _ _ st hk=>⟨st.1.at λo e=>hk I (by simp) o e,st.2.keep λo e=>hk d (by simp) o e⟩
 item:=λi s Q E hi st hQ=>VA st.1 st.2 hi λh' mV eU=>hQ _ h' s.toks ⟨_,Array.getElem?_eq_getElem hi,rfl⟩ ⟨mV,st.2.keep λo e=>eU.extBut d o gm e⟩ λb o hb e=>eU.extBut b o (λh=>hb (by simp[h])) e
 done:=λs Q E st hQ=>VB hh st.1 st.2 λh' e_=>hQ h' s.toks λb o hb e=>e_ b o (λh=>hb (by simp[h])) e
 self:=λ_ _ _ _ st hQ=>wpAny_pyIter_keyiter st.1 hQ
theorem VD(lo:(d == sysModules)=false):PySem.W.KdlSrc prog w "dict" d d es.size (λi v=>∃e,es[i]? = some e/\v=e.key) (λh=>iK h d es ep) where
 type:=λ_ hm=>hm.type
 there:=λ_ hm=>⟨hm.lt,hm.lt⟩
 keep:=λ_ _ hm hk=>hm.keep λo e=>hk d (.inl rfl) o e
 notList:=by decide
 notTuple:=by decide
 hint:=λ_ _ _ _ hm hq=>PySem.W.kdl_hint_dict hm.type hq
 iter:=λ_ _ hh hm=>⟨_,_,(λ_ _ hq=>Vz lo hm hq),VC hh _ (Nat.ne_of_lt hm.lt),⟨⟨_,Heap.get?_push_size _ rfl,rfl,rfl⟩,hm.keep λ_ e=>Heap.get?_push_of_some _ e⟩⟩
end
section
variable{X:Cx}
noncomputable def wm(H:Hp)(aq:List (List Key×V))(ts:List Addr):Prop:=ts.length=aq.length/\∀(i:Nat) (t:Addr) (kv:List Key×V),ts[i]? = some t->aq[i]? = some kv->H t=some (.tup (kv.1.map kV))
theorem KT.at{H:Hp}{aq:List (List Key×V)}{xs:List (List Key×Addr×Value)}(h:KT H aq xs):∀(i:Nat) (x:List Key×Addr×Value) (kv:List Key×V),xs[i]? = some x->aq[i]? = some kv->H x.2.1=some (.tup (kv.1.map kV)):=by
 induction h with
 | nil=>intro i x kv e;cases e
 | @cons p q ps qs hq _ ih =>
  intro i x kv e1 e2;cases i with
  | zero =>
   rw[List.getElem?_cons_zero] at e1 e2;cases e1;cases e2;exact hq.2.1
  | succ i =>
   rw[List.getElem?_cons_succ] at e1 e2;exact ih i x kv e1 e2
theorem VE(hc:X.calm=true):fP X (.type "list") (λxs H Q=>∃a aq,xs = [.ref a]/\H a=some (.dT aq)/\∀l ts,H l=none->wm H aq ts->Q (.ref l) (upd H l (.lst (ts.map V.ref)))):=by
 intro pins s σ H xs us Q I r h;obtain⟨a,aq,rfl,ha,q⟩:=h;obtain⟨u,rfl,ru⟩:=vals1 r;cases ru;obtain⟨z,hs,ks,kt,dd⟩:=BI I.az ha;obtain⟨o,es,ep,h1,h2,h3,h4,h5,h6⟩:=id dd;have C8:es.size=ks.length:=by rw[← Array.length_toList,h4,List.length_map]
 refine PySem.W.kdl_call (VD (es:=es) (ep:=ep) hs) (I.ok.hd hc) ⟨o,h1,h2,h3⟩ (by rw[C8,kt.len];exact z) λh' tk acc c' keep hl gk=>?_
 have fr:H s.heap.objs.size=none:=I.az.fresh (Nat.le_refl _);have al:acc.toList=ks.map λx=>Value.ref x.2.1:=by
  refine List.ext_getElem? λi=>?_
  by_cases hi:i<ks.length
  ·have jE:i<acc.size:=by rw[gk.1,C8];exact hi
   obtain⟨e,e1,e2⟩:=gk.2 i acc[i] (Array.getElem?_eq_getElem jE);have e3:es.toList[i]? = some e:=by rw[Array.getElem?_toList];exact e1
   rw[h4,List.getElem?_map,List.getElem?_eq_getElem hi] at e3;rw[Array.getElem?_toList,Array.getElem?_eq_getElem jE,List.getElem?_map,List.getElem?_eq_getElem hi,e2,← Option.some.inj e3]
   rfl
  ·rw[List.getElem?_eq_none (by rw[Array.length_toList,gk.1,C8];lia),List.getElem?_eq_none (by rw[List.length_map];lia)]
 have ka:wm H aq (ks.map λx=>x.2.1):=⟨by rw[List.length_map];exact kt.len,λi t kv e1 e2=>by
  obtain⟨x,ex,rfl⟩:=j6 e1;exact kt.at i x kv ex e2⟩
 refine⟨.ref s.heap.objs.size,upd H s.heap.objs.size (.lst ((ks.map λx=>x.2.1).map V.ref)),?_,rfl,q _ _ fr ka⟩;refine I.laid (a:=s.heap.objs.size) (o:=.lst ((ks.map λx=>x.2.1).map V.ref)) (t':=tk) (λb o hb=>keep b o hb) (Nat.le_refl _) ?_;refine⟨by rw[List.length_map,List.length_map,kt.len];exact z,acc.toList,c',?_,by rw[Array.toArray_toList];exact hl⟩
 rw[al];clear al gk;generalize ks=ks
 induction ks with
 | nil=>exact .nil
 | cons x ks ih=>exact .cons rfl ih
end
section
variable{α:Type}{lt:α->α->Prop}
end
noncomputable abbrev Th:=Int×List Int×Int
noncomputable def C9(a b:Th):Prop:=a.1<b.1\/(a.1=b.1/\(_H.lexLt a.2.1 b.2.1=true\/(a.2.1=b.2.1/\a.2.2<b.2.2)))
section
open PySem.SeqAt PySem.MeetsSeq PySem.MeetsSeq2 PySem.MeetsSeq3
open PySem.AutoSeq1 (wpAny_loadPart')
end
section
variable{prog:Program}{w:World}{A:Around}{E:Value->Shared->Prop}{s:Shared}
end
noncomputable def Lx(H:Hp)(a:Addr)(t:Th):Prop:=∃p,H a=some (.tup [.int t.1,.ref p,.int t.2.2])/\H p=some (.tup (t.2.1.map V.int))
noncomputable instance (a b:Th):Decidable (C9 a b):=by unfold C9;infer_instance
section
variable{X:Cx}{pins:List (Addr×Obj)}{σ:St}{H:Hp}{s:Shared}
end
section
variable{X:Cx}
noncomputable abbrev Zs:=List (Addr×Th)
noncomputable def zV(zs:Zs):List V:=zs.map λz=>V.ref z.1
noncomputable def VF(H:Hp)(zs:Zs):Prop:=∀z,z∈zs->Lx H z.1 z.2
noncomputable def Ly:V->List V->Hp->VK->Prop:=λx vs H Q=>∃l a zs t,x = .ref l/\vs = [.ref a]/\H l=some (.lst (zV zs))/\VF H zs/\Lx H a t/\t∈zs.map (·.2)/\
 ∀(k:Nat) (h:k<zs.length),zs[k].2=t->Q .aG (upd H l (.lst (zV (zs.eraseIdx k))))
end
section
variable{H H':Hp}{a:Addr}{ts:List Addr}{z:List (List Int)}
theorem gM.ints{n:Nat}:∀(r:List Int),gM H n (r.map V.int) (r.map Dt.int)
 | []=>trivial
 | i::r=>⟨.int i,gM.ints r⟩
theorem Zn.start{l:Addr}:Zn (upd H l (.lst [])) l [] []:=⟨aB,rfl,λi t r e=>by simp at e⟩
end
section
variable{ta:TA}{g:TG}{tt:TT}{te:TE}{nt:Nat}{fv:List Nat}{Q:VK}{σ:St}{H:Hp}
theorem VG(n:Int)(Pv:Addr->Nat->List V->St->Hp->Prop)(dY:∀Q:List V->Hp->Prop,Q [.int n] H->ta σ H Q)(b1 : -1000000000000<n)(b2:n<1000000000000)
  (h0:∀D,H D=none->Pv D 0 [] (gH σ nt fv) (upd H D (.lst []))) (hD:∀D i ys σ H,Pv D i ys σ H->H D=some (.lst ys)/\ys.length<sizeLine)
  (hs:∀D i ys aD H2 (N:List V->St->Hp->Prop),(∀ys σ H,Pv D (i+1) ys σ H->N ys σ H)->i<n.toNat->Pv D i ys aD H2->g (.int (i:Int)) aD H2 λbU H4=>tt bU H4 λb H5=>if b=true then te bU H5 λv H6=>H6 D=some (.lst ys)/\N (ys++[v]) bU (upd H6 D (.lst (ys++[v]))) else N ys bU H5)
  (hd:∀D ys aD H2,Pv D n.toNat ys aD H2->Q (.ref D) H2):jZ (qy ta) g tt te nt fv σ H Q:=by
 refine dY _ ⟨n,rfl,by lia,by lia,λD mW=>?_⟩
 refine⟨λi m ys aD H2=>m=n.toNat - i/\i<=n.toNat/\Pv D i ys aD H2,⟨_,rfl,Nat.zero_le _,h0 D mW⟩,?_⟩;rintro i m ys aD H2 ⟨rfl,gI,p⟩;obtain⟨d1,d2⟩:=hD D i ys aD H2 p;refine⟨d1,d2,?_⟩;by_cases bO:i<n.toNat
 ·refine .inr ⟨bO,λx H3 y=>?_⟩;obtain⟨e1,e2⟩:=y;subst e1 e2;have e2:(0:Int)+(i:Int)=i:=by lia
  rw[e2];exact hs D i ys aD _ _ (λ_ _ _ z=>NX.of bO z) bO p
 ·have e:i=n.toNat:=by lia
  subst e;exact .inl ⟨Nat.le_refl _,hd D ys aD H2 p⟩
end
noncomputable def gR(rc:List Int)(s:Int)(o:Nat):List (Int×Int):=(List.range s.toNat).map λ(j:Nat)=>((o:Int),rc.getD o 0 - s+(j:Int))
noncomputable def iL(rc:List Int)(s:Int)(us:List (Int×Int))(is:List Nat):Option (Int×Int):=(is.flatMap (gR rc s)).find? λc=>decide (c∉us)
structure Kp(P:Addr)(pos:Pos)(qual:Str)(H H':Hp):Prop where
 b:SameBut P H H'
 t:cD P pos qual H'
theorem cD.same{P:Addr}{pos:Pos}{qual:Str}{H H':Hp}(h:cD P pos qual H)(s:ah H H'):cD P pos qual H':=by
 obtain⟨ps,e,k,c⟩:=h;refine⟨ps,s _ _ e,k,?_⟩;rcases c with c | ⟨c',c1,c2⟩
 ·exact .inl c
 ·exact .inr ⟨c',c1,s _ _ c2⟩
section
variable{P:Addr}{pos:Pos}{qual:Str}{H H1 H2:Hp}
theorem Kp.step(k:Kp P pos qual H H1)(s:ah H1 H2):Kp P pos qual H H2:=⟨k.b.step s,k.t.same s⟩
theorem Kp.trans(k:Kp P pos qual H H1)(k2:Kp P pos qual H1 H2):Kp P pos qual H H2:=⟨k.b.trans k2.b,k2.t⟩
theorem Kp.of(t:cD P pos qual H)(s:ah H H1):Kp P pos qual H H1:=⟨.of s,t.same s⟩
theorem cD.ne(t:cD P pos qual H){a:Addr}{o:HO}(e:H a=some o)(n:∀ps,o≠.dm ps):a≠P:=λz=>by
 obtain⟨ps,e',_⟩:=t;rw[z,e'] at e;exact n ps (Option.some.inj e).symm
theorem Kp.get(k:Kp P pos qual H H1)(t:cD P pos qual H){a:Addr}{o:HO}(e:H a=some o)(n:∀ps,o≠.dm ps:=by intro _ z;cases z):H1 a=some o:=k.b _ _ e (t.ne e n)
theorem Kp.free(k:Kp P pos qual H H1){a:Addr}(n:H1 a=none):H a=none:=by
 cases e:H a with
 | none=>rfl
 | some o =>
  by_cases z:a=P
  ·obtain⟨ps,e',_⟩:=k.t;rw[z,e'] at n;cases n
  ·rw[k.b _ _ e z] at n;cases n
theorem Kp.seq{K:PySem.W.Frag}{a:Addr}{xs:List V}(k:Kp P pos qual H H1)(t:cD P pos qual H)(h:aH K H a xs):aH K H1 a xs:=by
 rcases h with(h | ⟨o,h⟩) | h
 ·exact .inl (.inl (k.get t h))
 ·exact .inl (.inr ⟨o,k.get t h⟩)
 ·exact .inr h
end
theorem cD.put{P:Addr}{pos:Pos}{qual:Str}{H:Hp}{a:Addr}{o ob:HO}(t:cD P pos qual H)(e:H a=some ob)(n1:∀ps,ob≠.dm ps:=by intro _ z;cases z)(n2:∀φ,ob≠.ext φ:=by intro _ z;cases z):cD P pos qual (upd H a o):=by
 obtain⟨ps,e',k,c⟩:=t;refine⟨ps,?_,k,?_⟩
 ·rw[au (λz=>n1 ps (by rw[z,e] at e';exact Option.some.inj e'))];exact e'
 ·rcases c with c | ⟨c',c1,c2⟩
  ·exact .inl c
  ·refine .inr ⟨c',c1,?_⟩;rw[au (λz=>n2 _ (by rw[z,e] at c2;exact Option.some.inj c2))];exact c2
theorem cD.keep{P:Addr}{pos:Pos}{qual:Str}{H H':Hp}{x:Addr}{ob:HO}(t:cD P pos qual H)(h:∀b,b≠x->H' b=H b)(e:H x=some ob)(n1:∀ps,ob≠.dm ps:=by intro _ z;cases z)(n2:∀φ,ob≠.ext φ:=by intro _ z;cases z):cD P pos qual H':=by
 obtain⟨ps,e',k,c⟩:=t;refine⟨ps,?_,k,?_⟩
 ·rw[h _ (λz=>n1 ps (by rw[z,e] at e';exact Option.some.inj e'))];exact e'
 ·rcases c with c | ⟨c',c1,c2⟩
  ·exact .inl c
  ·refine .inr ⟨c',c1,?_⟩;rw[h _ (λz=>n2 _ (by rw[z,e] at c2;exact Option.some.inj c2))];exact c2
theorem Kp.put{P:Addr}{pos:Pos}{qual:Str}{H H1:Hp}{a:Addr}{o ob:HO}(k:Kp P pos qual H H1)(n:H a=none)(e:H1 a=some ob)(n1:∀ps,ob≠.dm ps:=by intro _ z;cases z)(n2:∀φ,ob≠.ext φ:=by intro _ z;cases z):Kp P pos qual H (upd H1 a o) :=
 ⟨λb u q h=>by rw[au (bK q n)];exact k.b b u q h,k.t.put e n1 n2⟩
theorem VH{rc:List Int}{s:Int}{us:List (Int×Int)}{is:List Nat}{o:Int×Int}(h:iL rc s us is=some o):o∉us:=by
 have:=List.find?_some h;simpa using this
theorem VI{rc:List Int}{s:Int}{us:List (Int×Int)}{is:List Nat}{i o:Nat}(h:∀c∈(is.take i).flatMap (gR rc s),c∈us)(e:is[i]? = some o)(h2:∀c∈gR rc s o,c∈us) :
  ∀c∈(is.take (i+1)).flatMap (gR rc s),c∈us:=by
 intro c hc;rw[take_succ_get e,List.flatMap_append,List.mem_append] at hc;rcases hc with hc | hc
 ·exact h c hc
 ·exact h2 c (by simpa using hc)
theorem VJ{rc:List Int}{s:Int}{us:List (Int×Int)}{is:List Nat}(h:∀c∈is.flatMap (gR rc s),c∈us):iL rc s us is=none:=by
 unfold iL;rw[List.find?_eq_none];intro c hc;simpa using h c hc
theorem VL{rc:List Int}{s:Int}{us:List (Int×Int)}{is:List Nat}{i o j:Nat}(h:∀c∈(is.take i).flatMap (gR rc s),c∈us)(e:is[i]? = some o)(hj:j<s.toNat)
  (h2:∀j',j' < j->((o:Int),rc.getD o 0 - s+(j':Int))∈us) (h3:((o:Int),rc.getD o 0 - s+(j:Int))∉us):iL rc s us is=some ((o:Int),rc.getD o 0 - s+(j:Int)):=by
 have hi:=iF e;have e1:is=is.take i++o::is.drop (i+1):=by
  have:is.drop i=o::is.drop (i+1):=by
   rw[List.drop_eq_getElem_cons hi];rw[List.getElem?_eq_getElem hi] at e;rw[Option.some.inj e]
  rw[← this,List.take_append_drop]
 have e2:gR rc s o=(List.range j).map (λ(j:Nat)=>((o:Int),rc.getD o 0 - s+(j:Int)))++((o:Int),rc.getD o 0 - s+(j:Int))::((List.range s.toNat).drop (j+1)).map λ(j:Nat)=>((o:Int),rc.getD o 0 - s+(j:Int)):=by
  unfold gR;have:List.range s.toNat=List.range j++j::(List.range s.toNat).drop (j+1):=by
   have q:(List.range s.toNat).drop j=j::(List.range s.toNat).drop (j+1):=by
    rw[List.drop_eq_getElem_cons (by simpa using hj)]
    rw[List.getElem_range]
   have q2:(List.range s.toNat).take j=List.range j:=by
    rw[List.take_range,Nat.min_eq_left (by lia)]
   rw[← q,← q2,List.take_append_drop]
  conv=>lhs;rw[this]
  rw[List.map_append,List.map_cons]
 unfold iL;rw[e1,List.flatMap_append,List.flatMap_cons,e2,List.find?_append,List.find?_eq_none.mpr (λc hc=>by simpa using h c hc),Option.none_or,List.append_assoc,List.find?_append,
  List.find?_eq_none.mpr (λc hc=>by
   obtain⟨j',lG,rfl⟩:=List.mem_map.mp hc;simpa using h2 j' (List.mem_range.mp lG)),Option.none_or,List.cons_append,List.find?_cons_of_pos (by simpa using h3)]
noncomputable def VM(K:PySem.W.Frag)(P:Addr)(pos:Pos)(qual:Str):Sp:=λvs H Q _=>∃(ra ud:Addr) (r s:Int) (rc:List Int) (us:List (Int×Int)),vs = [.ref ra,.int s,.int r,.ref ud]/\aH K H ra (rc.map V.int)/\2<=rc.length/\rc.length<64/\0<=s/\s<=1000/\(∀c∈rc,s<=c/\c<=1000)/\
 H ud=some (.dT (cy us))/\cD P pos qual H/\∀(is:List Nat) (H':Hp),kj (iJ r) rc.length is->Kp P pos qual H H'->
  (iL rc s us is=none->Q .aG H')/\∀c t,iL rc s us is=some c->H t=none->H' t=some (.tup [.int c.1,.int c.2])->Q (.ref t) H'
inductive lJ (rc:List Int) (s:Int) (z:List (Int×Int)) (us:List (Int×Int)):List Nat->List (Nat×(Int×Int)×(Int×Int))->Prop
 | nil:lJ rc s z us [] []
 | snoc {ns:List Nat} {ms:List (Nat×(Int×Int)×(Int×Int))} {n:Nat} {c o:Int×Int} (h:lJ rc s z us ns ms) (hc:z[n]? = some c) {is:List Nat} (ho:kj (iJ c.1) rc.length is)
   (hf:iL rc s (us++ms.map λm=>m.2.2) is=some o):lJ rc s z us (ns++[n]) (ms++[(n,c,o)])
theorem lJ.len{rc:List Int}{s:Int}{z us:List (Int×Int)}{ns:List Nat}{ms:List (Nat×(Int×Int)×(Int×Int))}(h:lJ rc s z us ns ms):ms.length=ns.length:=by
 induction h with
 | nil=>rfl
 | snoc _ _ _ _ ih=>simp[ih]
structure fV(H:Hp)(l:Addr)(ts us os:List Addr)(ms:List (Nat×(Int×Int)×(Int×Int))):Prop where
 l:H l=some (.lst (us.map V.ref))
 n:us.length=ms.length
 no:os.length=ms.length
 t:∀(i:Nat) (u:Addr) (m:Nat×(Int×Int)×(Int×Int)),us[i]? = some u->ms[i]? = some m->∃tc to,os[i]? = some to/\H u=some (.tup [.int (m.1:Int),.ref tc,.ref to])/\ts[m.1]? = some tc/\H tc=some (.tup [.int m.2.1.1,.int m.2.1.2])/\H to=some (.tup [.int m.2.2.1,.int m.2.2.2])
theorem fV.but{P:Addr}{pos:Pos}{qual:Str}{H H':Hp}{l:Addr}{ts us os:List Addr}{ms:List (Nat×(Int×Int)×(Int×Int))}(h:fV H l ts us os ms)(t:cD P pos qual H)(k:Kp P pos qual H H'):fV H' l ts us os ms :=
 ⟨k.get t h.l,h.n,h.no,λi u m e1 e2=>let ⟨tc,to,x,a,b,c,d⟩:=h.t i u m e1 e2;⟨tc,to,x,k.get t a,b,k.get t c,k.get t d⟩⟩
theorem fV.same{H H':Hp}{l:Addr}{ts us os:List Addr}{ms:List (Nat×(Int×Int)×(Int×Int))}(h:fV H l ts us os ms)(k:ah H H'):fV H' l ts us os ms :=
 ⟨k _ _ h.l,h.n,h.no,λi u m e1 e2=>let ⟨tc,to,x,a,b,c,d⟩:=h.t i u m e1 e2;⟨tc,to,x,k _ _ a,b,k _ _ c,k _ _ d⟩⟩
theorem fV.other{H:Hp}{l x:Addr}{o:HO}{ts us os:List Addr}{ms:List (Nat×(Int×Int)×(Int×Int))}(h:fV H l ts us os ms)(hx:∃aq,H x=some (.dT aq)):fV (upd H x o) l ts us os ms:=by
 obtain⟨aq,hx⟩:=hx;have ne:∀ {a:Addr} {o':HO},H a=some o'->(∀aq,o'≠.dT aq)->a≠x:=λe n z=>n aq (by rw[z,hx] at e;exact(Option.some.inj e).symm)
 refine⟨by rw[au (ne h.l (by intro _ z;cases z))];exact h.l,h.n,h.no,λi u m e1 e2=>?_⟩
 obtain⟨tc,to,x,a,b,c,d⟩:=h.t i u m e1 e2;exact⟨tc,to,x,by rw[au (ne a (by intro _ z;cases z))];exact a,b,by rw[au (ne c (by intro _ z;cases z))];exact c,by rw[au (ne d (by intro _ z;cases z))];exact d⟩
theorem fV.snoc{H:Hp}{l:Addr}{ts us os:List Addr}{ms:List (Nat×(Int×Int)×(Int×Int))}(h:fV H l ts us os ms){u tc to:Addr}{m:Nat×(Int×Int)×(Int×Int)}(hu:H u=some (.tup [.int (m.1:Int),.ref tc,.ref to]))(ht:ts[m.1]? = some tc)
  (hc:H tc=some (.tup [.int m.2.1.1,.int m.2.1.2])) (ho:H to=some (.tup [.int m.2.2.1,.int m.2.2.2])):fV (upd H l (.lst (us.map V.ref++[V.ref u]))) l ts (us++[u]) (os++[to]) (ms++[m]):=by
 have ne:∀ {a:Addr} {xs:List V},H a=some (.tup xs)->a≠l:=λe q=>by rw[q,h.l] at e;cases e
 refine⟨by rw[aB,List.map_append];rfl,by simp[h.n],by simp[h.no],λi u' m' e1 e2=>?_⟩
 by_cases hi:i<us.length
 ·rw[List.getElem?_append_left hi] at e1;rw[List.getElem?_append_left (by rw[← h.n];exact hi)] at e2
  obtain⟨VN,VO,x,a,b,c,d⟩:=h.t i u' m' e1 e2;exact⟨VN,VO,by rw[List.getElem?_append_left (iF x)];exact x,by rw[au (ne a)];exact a,b,by rw[au (ne c)];exact c,by rw[au (ne d)];exact d⟩
 ·rw[List.getElem?_append_right (by lia)] at e1
  rw[List.getElem?_append_right (by rw[← h.n];lia),← h.n] at e2
  have hj:i - us.length=0:=by
   have:=(List.getElem?_eq_some_iff.mp e1).1;simp at this;lia
  rw[hj] at e1 e2;cases e1;cases e2;exact⟨tc,to,by rw[List.getElem?_append_right (by rw[h.no,← h.n];lia),h.no,← h.n,hj];rfl,by rw[au (ne hu)];exact hu,ht,by rw[au (ne hc)];exact hc,by rw[au (ne ho)];exact ho⟩
noncomputable def fh(bz:List (Int×Int)):Nat->List (Int×Int)->List Nat
 | _,[]=>[]
 | i,q::z=>if q∈bz then i::fh bz (i+1) z else fh bz (i+1) z
theorem wu(bz:List (Int×Int)):∀(z:List (Int×Int)) (i:Nat),gO (cy bz) i z=(fh bz i z).map λ(n:Nat)=>(n:Int)
 | [],i=>rfl
 | q::z,i=>by
  rw[gO,fh];by_cases h:q∈bz
  ·rw[Cn h,if_pos (show (some (V.bl true)).isSome=true from rfl),if_pos h,List.map_cons,wu bz z]
  ·rw[rA h,if_neg (by simp),if_neg h,wu bz z]
theorem Lz{bz:List (Int×Int)}:∀ {z:List (Int×Int)} {i n:Nat},n∈fh bz i z->i<=n/\∃c,z[n - i]? = some c/\c∈bz
 | [],i,n,h=>by cases h
 | q::z,i,n,h=>by
  rw[fh] at h;have tl:n∈fh bz (i+1) z->i<=n/\∃c,(q::z)[n - i]? = some c/\c∈bz:=λh=>by
   obtain⟨h1,c,h2,h3⟩:=Lz h;refine⟨by lia,c,?_,h3⟩
   rw[show n - i=(n - (i+1))+1 by lia,List.getElem?_cons_succ]
   exact h2
  split at h
  ·rename_i hq;rcases List.mem_cons.mp h with rfl | h
   ·exact⟨Nat.le_refl _,q,by simp,hq⟩
   ·exact tl h
  ·exact tl h
theorem VP(bz z:List (Int×Int)):(fh bz 0 z).length<=z.length:=by
 have:=Cm (cy bz) z 0;rw[wu,List.length_map] at this;exact this
theorem LA(us:List (Int×Int)){o:Int×Int}(h:o∉us):putK (cy us) (kT o) (.bl true)=cy (us++[o]):=by
 rw[Js _ (rA h)];simp[cy]
noncomputable def VQ(K:PySem.W.Frag)(P:Addr)(pos:Pos)(qual:Str):Sp:=λvs H Q _=>∃(ra na d:Addr) (s:Int) (rc:List Int) (ts:List Addr) (z bz:List (Int×Int)),vs = [.ref ra,.int s,.ref na,.ref d]/\aH K H ra (rc.map V.int)/\2<=rc.length/\rc.length<64/\0<=s/\s<=1000/\(∀c∈rc,s<=c/\c<=1000)/\
 Zn H na ts z/\z.length<=1000000/\H d=some (.dT (cy bz))/\wj (bz.map kT)/\bz.length<=1000/\cD P pos qual H/\
 (∀(os:List (Int×Int)) (r:Int) (is:List Nat),os.length<(fh bz 0 z).length->kj (iJ r) rc.length is->iL rc s (bz++os) is≠none)/\
 ∀l us os ms H',Kp P pos qual H H'->H l=none->(∀t∈os,H t=none)->lJ rc s z bz (fh bz 0 z) ms->fV H' l ts us os ms->Q (.ref l) H'
theorem VR{n j:Nat}(h:j<n):iW n (j:Int)=some j:=by
 unfold iW;rw[if_pos (by lia),if_pos (by lia)]
 simp
noncomputable def kq(nc:List (Int×Int))(ms:List (Nat×(Int×Int)×(Int×Int))):List (Int×Int):=ms.foldl (λa m=>a.set m.1 m.2.2) nc
theorem VS(nc:List (Int×Int))(ms:List (Nat×(Int×Int)×(Int×Int)))(m:Nat×(Int×Int)×(Int×Int)):kq nc (ms++[m])=(kq nc ms).set m.1 m.2.2:=by
 unfold kq;rw[List.foldl_append];rfl
theorem wz(nc:List (Int×Int))(ms:List (Nat×(Int×Int)×(Int×Int))):(kq nc ms).length=nc.length:=by
 unfold kq
 induction ms generalizing nc with
 | nil=>rfl
 | cons m ms ih=>rw[List.foldl_cons,ih,List.length_set]
theorem Zn.setAt{H:Hp}{l t:Addr}{ts:List Addr}{z:List (Int×Int)}(h:Zn H l ts z){k:Nat}{c:Int×Int}(ht:H t=some (.tup [.int c.1,.int c.2])):Zn (upd H l (.lst ((ts.set k t).map V.ref))) l (ts.set k t) (z.set k c):=by
 have ne:∀ {a:Addr} {xs:List V},H a=some (.tup xs)->a≠l:=λe q=>by rw[q,h.l] at e;cases e
 refine⟨aB,by simp[h.n],λi t' p e1 e2=>?_⟩
 rw[List.getElem?_set] at e1 e2;by_cases hk:k=i
 ·subst hk;rw[if_pos rfl] at e1 e2;have hl:k<ts.length:=by
   by_cases q:k<ts.length
   ·exact q
   ·rw[if_neg q] at e1;cases e1
  rw[if_pos hl] at e1;rw[if_pos (by rw[← h.n];exact hl)] at e2
  cases e1;cases e2;rw[au (ne ht)];exact ht
 ·rw[if_neg hk] at e1 e2;have:=h.t i t' p e1 e2;rw[au (ne this)];exact this
noncomputable def VT(K:PySem.W.Frag)(C P:Addr)(pos:Pos)(qual:Str):Sp:=λvs H Q _=>∃(p dx za sa ba:Addr) (fF iG:List Addr) (z bz:List (Int×Int)) (aW cj s:Int) (sw:List Int),vs = [.ref p,.ref za,.int aW,.int cj,.ref sa,.int s,.ref ba]/\CP K C/\bM K C "moves"/\H p=some (.ins C dx [])/\Zn H za fF z/\lg z/\
 1<=aW/\aW<=1000000000/\0<=cj/\cj<aW/\(∀p∈z,aW % p.2=0)/\aH K H sa (sw.map V.int)/\SwOk sw (z.map (·.1)).sum/\Zn H ba iG bz/\bz.length<=1000/\bz.Nodup/\(∀q∈bz,0<=q.1/\q.1<(counts z).length/\0<=q.2/\q.2<(counts z).getD q.1.toNat 0)/\
 (counts z).length<64/\0<=s/\(∀c∈counts z,s<c)/\cD P pos qual H/\
 (∀(os:List (Int×Int)) (r:Int) (is:List Nat),os.length<(fh bz 0 (dJ (counts z) s)).length->kj (iJ r) (counts z).length is->iL (counts z) s (bz++os) is≠none)/\
 ∀H' fp mv ts us os ms,(∀b o,H b=some o->b≠p->b≠P->H' b=some o)->cD P pos qual H'->(∀b∈mv::fp,H b=none)->lJ (counts z) s (dJ (counts z) s) bz (fh bz 0 (dJ (counts z) s)) ms->
  Co K C H' p ⟨counts z,aW,cj,sw,kq (dJ (counts z) s) ms⟩ fp mv (us.map V.ref)->fV H' mv ts us os ms->Q .aG H'
theorem C_{α:Type}[DecidableEq α]:∀ {l l':List α},l.Nodup->(∀x∈l,x∈l')->l.length<=l'.length
 | [],_,_,_=>Nat.zero_le _
 | x::l,l',n,h=>by
  rw[List.nodup_cons] at n;have hx:=h x (by simp)
  have:=C_ (l:=l) (l':=l'.erase x) n.2 λy hy=>(List.mem_erase_of_ne (λ(e:y=x)=>n.1 (by rw[← e];exact hy))).mpr (h y (List.mem_cons_of_mem _ hy))
  rw[List.length_erase_of_mem hx] at this;have:=List.length_pos_of_mem hx;simp only[List.length_cons];lia
theorem Dc(bz:List (Int×Int)):∀(z:List (Int×Int)) (i:Nat),(fh bz i z).length=(z.filter λc=>decide (c∈bz)).length
 | [],_=>rfl
 | q::z,i=>by
  rw[fh,List.filter_cons];by_cases h:q∈bz
  ·rw[if_pos h,if_pos (decide_eq_true h),List.length_cons,List.length_cons,Dc bz z]
  ·rw[if_neg h,if_neg (by simpa using h),Dc bz z]
theorem LB{s:Int}:∀(rc:List Int) (r:Nat) (c:Int×Int),c∈dg s r rc->∃j:Nat,j<rc.length/\c.1=((r+j:Nat):Int)/\0<=c.2/\c.2<rc.getD j 0 - s
 | [],r,c,h=>by cases h
 | x::rc,r,c,h=>by
  rw[dg,List.mem_append] at h;rcases h with h | h
  ·obtain⟨k,hk,rfl⟩:=List.mem_map.mp h;have:=List.mem_range.mp hk;exact⟨0,by simp,by simp,by show 0<=(k:Int);lia,by show (k:Int)<x - s;lia⟩
  ·obtain⟨j,h1,h2,h3,h4⟩:=LB rc (r+1) c h;exact⟨j+1,by simpa using h1,by rw[h2];congr 1;lia,h3,by simpa using h4⟩
theorem LC(rc:List Int)(s:Int):∀is:List Nat,(is.flatMap (gR rc s)).length=is.length*s.toNat
 | []=>by simp
 | o::is=>by
  rw[List.flatMap_cons,List.length_append,LC rc s is,List.length_cons,Nat.succ_mul];unfold gR;simp;lia
theorem LD{rc:List Int}{s:Int}{is:List Nat}{c:Int×Int}(h:c∈is.flatMap (gR rc s)):∃o∈is,c.1=(o:Int)/\rc.getD o 0 - s<=c.2/\c.2<rc.getD o 0 - s+s.toNat:=by
 obtain⟨o,ho,hc⟩:=List.mem_flatMap.mp h;obtain⟨j,hj,rfl⟩:=List.mem_map.mp hc;have:=List.mem_range.mp hj;exact⟨o,ho,rfl,by show _<=rc.getD o 0 - s+(j:Int);lia,by show rc.getD o 0 - s+(j:Int)<_;lia⟩
theorem LF(rc:List Int)(s:Int):∀ {is:List Nat},is.Nodup->(is.flatMap (gR rc s)).Nodup
 | [],_=>by simp
 | o::is,n=>by
  rw[List.nodup_cons] at n;rw[List.flatMap_cons,List.nodup_append];refine⟨?_,LF rc s n.2,λa ha b hb e=>?_⟩
  ·unfold gR;rw[List.nodup_iff_pairwise_ne,List.pairwise_map];refine List.Pairwise.imp ?_ (List.nodup_iff_pairwise_ne.mp List.nodup_range);intro a b h e;have:=congrArg Prod.snd e;simp only at this;lia
  ·obtain⟨j,hj,rfl⟩:=List.mem_map.mp ha;obtain⟨o',f_,e1,_⟩:=LD hb;rw[← e] at e1;have e1:(o:Int)=(o':Int):=e1;have:o=o':=by lia
   exact n.1 (this▸f_)
theorem VU{rc:List Int}{s:Int}{bz:List (Int×Int)}(hs:0<=s)(hb:bz.length<=s.toNat*rc.length)(os:List (Int×Int))(r:Int)(is:List Nat)
  (ho:os.length<(fh bz 0 (dJ rc s)).length) (ord:kj (iJ r) rc.length is):iL rc s (bz++os) is≠none:=by
 intro h;unfold iL at h;rw[List.find?_eq_none] at h;have nd:is.Nodup:=ord.1.nodup_iff.mpr List.nodup_range;have il:is.length=rc.length:=by rw[ord.1.length_eq,List.length_range]
 have K1:=LC rc s is;have K2:=LF rc s nd;have c1:=C_ (l':=(bz.filter λc => !decide (c∈dJ rc s))++os) K2 λc hc=>by
  have:=h c hc;have hm:c∈bz++os:=by
   by_cases q:c∈bz++os
   ·exact q
   ·exact absurd (decide_eq_true q) this
  rw[List.mem_append] at hm ⊢;rcases hm with hm | hm
  ·refine .inl (List.mem_filter.mpr ⟨hm,?_⟩);rw[Bool.not_eq_true',decide_eq_false_iff_not];intro hz;obtain⟨o,f_,e1,e2,_⟩:=LD hc;obtain⟨j,j1,j2,j3,j4⟩:=LB rc 0 c hz;have:o=j:=by lia
   rw[this] at e2;lia
  ·exact .inr hm
 have c2:=C_ (l:=(dJ rc s).filter λc=>decide (c∈bz)) (l':=bz.filter λc=>decide (c∈dJ rc s)) ((Km rc 0).filter _) λc hc=>by
  obtain⟨h1,h2⟩:=List.mem_filter.mp hc;exact List.mem_filter.mpr ⟨by simpa using h2,by simpa using h1⟩
 have c3:(bz.filter λc=>decide (c∈dJ rc s)).length+(bz.filter λc => !decide (c∈dJ rc s)).length=bz.length:=by
  clear h ho hb c1 c2
  induction bz with
  | nil=>rfl
  | cons x bz ih =>
   rw[List.filter_cons,List.filter_cons];by_cases q:x∈dJ rc s
   ·rw[if_pos (decide_eq_true q),if_neg (by simpa using q)];simp only[List.length_cons];lia
   ·rw[if_neg (by simpa using q),if_pos (by simpa using q)];simp only[List.length_cons];lia
 rw[Dc] at ho;rw[List.length_append] at c1;rw[K1,il,Nat.mul_comm] at c1;lia
noncomputable def VV(K:PySem.W.Frag):Sp:=λvs H Q _=>∃(ca:Addr) (s a:Int) (rc:List Int),vs = [.ref ca,.int s,.int a]/\H ca=some (.lst (rc.map V.int))/\1<=rc.length/\rc.length<=100/\0<=s/\s<=1000/\(∀i:Nat,i<rc.length->1<=rc.getD i 0/\rc.getD i 0<=1000)/\
 ∀(l:Addr) (ts:List Addr) (bz:List (Int×Int)) (H':Hp),ah H H'->H l=none->bz.Nodup->(∀q∈bz,0<=q.1/\q.1<rc.length/\0<=q.2/\q.2<rc.getD q.1.toNat 0)->bz.length<=6->bz.length<=s.toNat*rc.length->Zn H' l ts bz->Q (.ref l) H'
theorem VW(us:List (Int×Int)){o:Int×Int}(h:o∈us):putK (cy us) (kT o) (.bl true)=cy us:=by
 unfold putK;rw[vj,Cn h,if_pos (show (some (V.bl true)).isSome=true from rfl)];unfold cy;rw[List.map_map];refine List.map_congr_left λx _=>?_
 show (if kT x=kT o then(kT x,V.bl true) else(kT x,V.bl true))=_
 split <;> rfl
theorem wm.zn{H:Hp}{l:Addr}{ts:List Addr}{bz:List (Int×Int)}(h:wm H (cy bz) ts)(nl:H l=none):Zn (upd H l (.lst (ts.map V.ref))) l ts bz:=by
 refine⟨aB,by rw[h.1,cy,List.length_map],λi t p e1 e2=>?_⟩
 have e3:(cy bz)[i]? = some (kT p,V.bl true):=by unfold cy;rw[List.getElem?_map,e2];rfl
 have:=h.2 i t _ e1 e3;rw[au (bK this nl)];exact this
noncomputable def wA(K:PySem.W.Frag)(tabs:List (Addr×Addr)):Sp:=λvs H Q _=>∃(a:Addr) (ns:List Int),vs = [.ref a]/\aH K H a (ns.map V.int)/\ns.length<=63/\(∀q∈tabs,H q.2=some (.dm #[]))/\∀H',Q (.bl true) H'
theorem walk_lawT{l:PySem.W.OpenLaw}{k:Nat}{q:Program}{loose:List Str}{XP:(Str->Option Value)->Heap->Prop}{YP:World->Heap->Prop}{d:DefRec}{K:Params->PySem.W.Frag}{x:Str}
  (hn:l.most=some 63) (mO:d.params.defaults = []) (hr:bR k callerA) (hY:∀(w:World) (h:Heap),YP w h->(K w.params).In h) (rT:∀w:World,PySem.W.noTabs (K w.params)=true)
  (F:∀(w:World) (mg:Str->Option Value) (fa:Addr) (h:Heap),YP w h->(K w.params).In h->h.Ns mainGlobals mg->mg d.name=some (.ref fa)->
   ∃(fd:FuncData) (tabs:List (Addr×Addr)),(∀(s:Shared) (u:Value),BindsTo s fd ⟨[u],[]⟩ [(x,u)])/\PySem.W.TabsAt tabs h/\
    ∀base:Heap,(K w.params).In base->base.Ns mainGlobals mg->(∀q∈tabs,bx mg base q.1 q.2)->aU l.prog w (K w.params) mg base br k fa fd [x] (wA (K w.params) tabs)) :
  PySem.W.WalkO q loose XP YP l.row.toRowW d [] (λf vs=>PySem.call f vs) :=
 Vk (n:=63) (sp:=λw tabs=>wA (K w.params) tabs) hn (by decide) mO hr hY rT F (λ_ tabs H a ns hl hT hS=>⟨a,ns,rfl,hS,hl,hT,λ_=>rfl⟩)
structure lK(K:PySem.W.Frag)(x qual:Str)(st:Stmt)(f:Addr)(fd:FuncData):Prop where
 ex:∃(oc:Value) (od:Option Addr) (dV kV doc pm:Value) (an:Option Addr) (aO ct:Value) (e7:Array (Option Value)),
  fd=PySem.W.fnOf x qual (dH st) (cR st) (aQ st) dV kV doc pm an aO ct/\K.lookup f=some ⟨oc,od,.func fd,e7⟩/\PySem.W.codeIn K aO qual=true
 kp:PySem.W.keepIn K (.ref f)=true
section
variable{P:Program}{w:World}{K:PySem.W.Frag}{mg:Str->Option Value}{base:Heap}
theorem lK.ok{x qual:Str}{st:Stmt}{f:Addr}{fd:FuncData}{N ps:List Str}{k:Nat}{sp:Sp}(F:lK K x qual st f fd)(S:bB N ps (aQ st))(len:∀vs H Q E,sp vs H Q E->vs.length=ps.length)
  (iV:∀(aO:Value) (A:Around) (outer:List Env) (s:Shared) (H:Hp) (vs:List V) (Q:VK) (E:XK),bR k (A.deeper (envOfC qual (aQ st) s.heap.objs.size f aO))->sp vs H Q E->
   ∃t,eO (fQ br P w K mg base N qual (aQ st) f aO A outer s H E).iu (cR st) t/\t { nx:=λ_ H'=>Q .aG H',rt:=Q } (start N vs) H):aU P w K mg base br (k+1) f fd ps sp:=by
 obtain⟨oc,od,dV,kV,doc,pm,an,aO,ct,e7,rfl,lk,cu⟩:=F.ex;refine vd lk cu S len λA outer s H vs Q E hr dW=>?_;obtain⟨t,h,q⟩:=iV aO A outer s H vs Q E hr dW;exact⟨t,h.iu,q⟩
theorem Dd{x qual:Str}{st:Stmt}{f:Addr}{oc:Value}{od an:Option Addr}{e7:Array (Option Value)}{dV kV doc pm aO ct:Value}(l:K.lookup f=some ⟨oc,od,.func (PySem.W.fnOf x qual (dH st) (cR st) (aQ st) dV kV doc pm an aO ct),e7⟩)
  (c:PySem.W.codeIn K aO qual=true) (k:PySem.W.keepIn K (.ref f)=true):lK K x qual st f (PySem.W.fnOf x qual (dH st) (cR st) (aQ st) dV kV doc pm an aO ct):=⟨⟨oc,od,dV,kV,doc,pm,an,aO,ct,e7,rfl,l,c⟩,k⟩
end
section
variable{X:Cx}
noncomputable def LG(ta:TA):TE:=λσ H Q=>ta σ H λvs H1=>∃i j:Int,vs = [.int i,.int j]/\(-1000000000000<i/\i<1000000000000/\-1000000000000<j/\j<1000000000000)/\(j - i).toNat<=1000000/\
 ∀l,H1 l=none->Q (.ref l) (upd H1 l (.lst ((List.range (j - i).toNat).map λ(k:Nat)=>V.int (i+(k:Int)))))
end
structure Ak where
 kind:Str
 first:Int
 many:Int
 marks:List Int
 at_:Int
 eE:Int
 eX:Option Int
 behind:List Int
 early:Bool
noncomputable def fG:Option Int->V
 | none=>.aG
 | some i=>.int i
noncomputable def nJ(q:Ak)(m b:Addr):List (Str×V):=[("kind",.str q.kind),("first",.int q.first),("many",.int q.many),("marks",.ref m),("at",.int q.at_),("asker",.int q.eE),("latest",fG q.eX),("behind",.ref b),("early",.bl q.early)]
structure gS(K:PySem.W.Frag)(C:Addr)(H:Hp)(p:Addr)(q:Ak)(m b dx:Addr):Prop where
 o:H p=some (.ins C dx (nJ q m b))
 ms:H m=some (.tup (q.marks.map V.int))
 bh:H b=some (.tup (q.behind.map V.int))
theorem gS.same{K:PySem.W.Frag}{C:Addr}{H H':Hp}{p:Addr}{q:Ak}{m b dx:Addr}(h:gS K C H p q m b dx)(s:ah H H'):gS K C H' p q m b dx:=⟨s _ _ h.o,s _ _ h.ms,s _ _ h.bh⟩
theorem De{K:PySem.W.Frag}{C:Addr}{H H1:Hp}{x dx m b:Addr}{q:Ak}(s:ah H H1)(nx:H1 x=none)(gn:H1 dx=none)(gm:dx≠x)(hm:H1 m=some (.tup (q.marks.map V.int)))(hb:H1 b=some (.tup (q.behind.map V.int))) :
  ah H (upd (upd (upd H1 dx (.own x)) x (.ins C dx [])) x (.ins C dx (nJ q m b)))/\H x=none/\gS K C (upd (upd (upd H1 dx (.own x)) x (.ins C dx [])) x (.ins C dx (nJ q m b))) x q m b dx:=by
 have s1:=ah.put (o:=.own x) gn;have rX:upd H1 dx (.own x) x=none:=by rw[au (Ne.symm gm)];exact nx
 have s2:ah H1 (upd (upd (upd H1 dx (.own x)) x (.ins C dx [])) x (.ins C dx (nJ q m b))):=ah.put2 (s1.trans (ah.put rX)) nx;exact⟨s.trans s2,s.free nx,⟨aB,s2 _ _ hm,s2 _ _ hb⟩⟩
structure fW(ns:List Int):Prop where
 up:ns.Pairwise (· < ·)
 lo:∀n∈ns,0<=n
 hi:∀n∈ns,n<=99
noncomputable def rY(x:Int)(ns:List Int)(i:Nat):Int:=if i=0 then x else ns.getD (i - 1) 0
theorem fW.step{ns:List Int}(h:fW ns){i:Nat}{n:Int}(e:ns[i]? = some n):rY (-1) ns i+1<=n/\n<=99:=by
 refine⟨?_,h.hi n (get_mem e)⟩;unfold rY;split
 ·have:=h.lo n (get_mem e);lia
 ·have hi:=iF e;obtain⟨h1,e1⟩:=List.getElem?_eq_some_iff.mp e;have e2:ns.getD (i - 1) 0=ns[i - 1]:=by simp[List.getD_eq_getElem?_getD,List.getElem?_eq_getElem (show i - 1<ns.length by lia)]
  have:=List.pairwise_iff_getElem.mp h.up (i - 1) i (by lia) h1 (by lia)
  rw[e2];lia
theorem VX{x:Int}{ns:List Int}{i:Nat}{n:Int}(e:ns[i]? = some n):rY x ns (i+1)=n:=by
 simp[rY,List.getD_eq_getElem?_getD,e]
noncomputable def Df(K:PySem.W.Frag)(H:Hp)(v:V)(ns:List Int):Prop:=(v = .aG/\ns = [])\/∃a,v = .ref a/\(aH K H a (ns.map V.int)\/H a=some (.tup (ns.map V.int)))
structure lM(first many at_ eE:Int)(VY:Option Int):Prop where
 f0:0<=first
 f1:first<=1000000
 m0:1<=many
 m1:many<=16
 a0:0<=at_
 a1:at_<=1000000000000
 s0:0<=eE
 s1:eE<=20
 l:∀x,VY=some x->0<=x/\x<=10000000000000
noncomputable def VZ:Sp:=λvs H Q _=>∃(n lo hi:Int) (w:Str),vs = [.int n,.int lo,.int hi,.str w]/\lo<=n/\n<=hi/\Q .aG H
noncomputable def V0(K:PySem.W.Frag):Sp:=λvs H Q _=>∃(b:Addr) (ns:List Int),vs = [.ref b]/\bA K H b (ns.map V.int)/\fW ns/\Q .aG H
noncomputable def V1(K:PySem.W.Frag):Sp:=λvs H Q _=>∃(f m a s:Int) (l:Option Int) (b:Addr) (ns:List Int),vs = [.int f,.int m,.int a,.int s,fG l,.ref b]/\lM f m a s l/\bA K H b (ns.map V.int)/\fW ns/\Q .aG H
noncomputable def V2(K:PySem.W.Frag):Sp:=λvs H Q _=>∃(v:V) (ns:List Int),vs = [v]/\Df K H v ns/\∀b H',ah H H'->H' b=some (.tup (ns.map V.int))->Q (.ref b) H'
noncomputable def V3(C:Addr):Sp:=λvs H Q _=>∃(p dx:Addr) (v1 v2 v3 v4 v5 v6 v7 v8 v9:V),vs = [.ref p,v1,v2,v3,v4,v5,v6,v7,v8,v9]/\H p=some (.ins C dx [])/\
 Q .aG (upd H p (.ins C dx [("kind",v1),("first",v2),("many",v3),("marks",v4),("at",v5),("asker",v6),("latest",v7),("behind",v8),("early",v9)]))
noncomputable def V4(K:PySem.W.Frag)(C:Addr):Sp:=λvs H Q _=>∃(f m a s:Int) (l:Option Int) (bv:V) (ns:List Int),vs = [.int f,.int m,.int a,.int s,fG l,bv]/\lM f m a s l/\Df K H bv ns/\fW ns/\
 ∀p mk b dx H',ah H H'->H p=none->gS K C H' p ⟨"read",f,m,[],a,s,l,ns,false⟩ mk b dx->Q (.ref p) H'
noncomputable def V5(K:PySem.W.Frag)(C:Addr):Sp:=λvs H Q _=>∃(f a s:Int) (ma:Addr) (ms:List Int) (l:Option Int) (bv:V) (ns:List Int) (e:Bool),vs = [.int f,.ref ma,.int a,.int s,fG l,bv,.bl e]/\aH K H ma (ms.map V.int)/\(∀x∈ms,0<=x/\x<=1000000000)/\
 lM f ms.length a s l/\Df K H bv ns/\fW ns/\∀p mk b dx H',ah H H'->H p=none->gS K C H' p ⟨"write",f,ms.length,ms,a,s,l,ns,e⟩ mk b dx->Q (.ref p) H'
noncomputable def V6(K:PySem.W.Frag)(C:Addr):Sp:=λvs H Q _=>∃(a:Int),vs = [.int a]/\0<=a/\a<=1000000000000/\∀p mk b dx H',ah H H'->H p=none->gS K C H' p ⟨"rest",0,0,[],a,0,none,[],false⟩ mk b dx->Q (.ref p) H'
section
variable{K:PySem.W.Frag}{tl:TE}{g:TG}{tb:TS}{D:Ends}{σ:St}{H:Hp}
theorem rt(a:Addr)(xs:List V)(Pv:Nat->St->Hp->Prop)(j5:∀Q:VK,Q (.ref a) H->tl σ H Q)(cE:bA K H a xs)(h0:Pv 0 σ H)(hl:∀i σ H,i<=xs.length->Pv i σ H->bA K H a xs)
  (hs:∀i x σ H (N:St->Hp->Prop),(∀σ H,Pv (i+1) σ H->N σ H)->xs[i]? = some x->Pv i σ H->g x σ H λaD H2=>tb { D with nx:=N,ct:=N,bk:=D.nx } aD H2) (hd:∀σ H,Pv xs.length σ H->D.nx σ H):iA (Ir K tl) g tb D σ H :=
 j5 _ ⟨a,rfl,⟨xs,cE⟩,RD Pv h0 hl (λi x σ H hx p=>hs i x σ H _ (λ_ _ z=>z) hx p) hd⟩
end
structure Sq where
 kind:Str
 first:Int
 many:Int
 marks:List Int
 at_:Int
 eE:Int
 eX:Option Int
 behind:List Int
structure pO(H:Hp)(t:Addr)(q:Sq)(m b:Addr):Prop where
 o:H t=some (.tup [.str q.kind,.int q.first,.int q.many,.ref m,.int q.at_,.int q.eE,fG q.eX,.ref b])
 ms:H m=some (.tup (q.marks.map V.int))
 bh:H b=some (.tup (q.behind.map V.int))
theorem pO.same{H H':Hp}{t:Addr}{q:Sq}{m b:Addr}(h:pO H t q m b)(s:ah H H'):pO H' t q m b:=⟨s _ _ h.o,s _ _ h.ms,s _ _ h.bh⟩
inductive rZ (T:Int) (q:Sq):Prop where
 | rest (h1:q.kind = "rest") (h2:q.first=0) (h3:q.many=0) (h4:q.marks = []) (h5:q.eE=0) (h6:q.eX=none) (h7:q.behind = []) (h8:0<=q.at_) (h9:q.at_<=1000000000000)
 | read (h1:q.kind = "read") (h2:q.marks = []) (h3:lM q.first q.many q.at_ q.eE q.eX) (h4:fW q.behind) (h5:q.first+q.many<=T)
 | write (h1:q.kind = "write"\/q.kind = "early") (h2:(q.marks.length:Int)=q.many) (Dg:∀x∈q.marks,0<=x/\x<=1000000000) (h3:lM q.first q.many q.at_ q.eE q.eX) (h4:fW q.behind) (h5:q.first+q.many<=T)
structure V7(T:Int)(os:List Int)(a:Int)(q:Sq):Prop where
 k:rZ T q
 a0:a<=q.at_
 a1:q.at_<=a+1500000000
 bh:∀n∈q.behind,n∈os
noncomputable def r9:List V:=[.str "read",.str "read",.str "read",.str "read",.str "write",.str "write",.str "write",.str "write",.str "early",.str "early",.str "rest"]
theorem V8{i:Int}(h0:0<=i)(h1:i<11):∃k:Str,gZ r9 i=some (.str k)/\(k = "rest"\/k = "read"\/k = "write"\/k = "early"):=by
 have:i=0\/i=1\/i=2\/i=3\/i=4\/i=5\/i=6\/i=7\/i=8\/i=9\/i=10:=by lia
 rcases this with rfl | rfl | rfl | rfl | rfl | rfl | rfl | rfl | rfl | rfl | rfl
 all_goals first
  | exact⟨"read",rfl,.inr (.inl rfl)⟩
  | exact⟨"write",rfl,.inr (.inr (.inl rfl))⟩
  | exact⟨"early",rfl,.inr (.inr (.inr rfl))⟩
  | exact⟨"rest",rfl,.inl rfl⟩
theorem V9{x y aW:Int}(h0:0<=x)(h1:x<4)(h2:0<=y)(h3:y<aW / 2+1)(h4:aW<=1000000000):0<=x*y/\x*y<=1500000000:=by
 have:x=0\/x=1\/x=2\/x=3:=by lia
 rcases this with rfl | rfl | rfl | rfl <;> lia
noncomputable def V_:Sp:=λvs H Q _=>∃(c m:Int),vs = [.int c,.int m]/\0<=m/\m<=16/\∀(l:Addr) (ms:List Int) (H':Hp),ah H H'->H l=none->H' l=some (.lst (ms.map V.int))->(ms.length:Int)=m->(∀x∈ms,0<=x/\x<=1000000000)->Q (.ref l) H'
noncomputable def Wa(K:PySem.W.Frag):Sp:=λvs H Q _=>∃(c T aW a:Int) (oa:Addr) (os:List Int),vs = [.int c,.int T,.int aW,.int a,.ref oa]/\1<=T/\T<=1000001/\1<=aW/\aW<=1000000000/\0<=a/\a<=900000000000/\H oa=some (.lst (os.map V.int))/\fW os/\
 ∀t q m b H',ah H H'->H t=none->pO H' t q m b->V7 T os a q->Q (.ref t) H'
theorem fW.len{ns:List Int}(h:fW ns):ns.length<=100:=by
 have key:∀(l:List Int) (k:Int),l.Pairwise (· < ·)->(∀n∈l,k<=n)->(∀n∈l,n<=99)->(l.length:Int)<=100 - k\/l = []:=by
  intro l
  induction l with
  | nil=>intro k _ _ _;exact .inr rfl
  | cons x l ih =>
   intro k hp h1 h2;obtain⟨hx,hp⟩:=List.pairwise_cons.mp hp;have a1:=h1 x List.mem_cons_self;have a2:=h2 x List.mem_cons_self;left;rcases ih (x+1) hp (λn hn=>hx n hn) λn hn=>h2 n (List.mem_cons_of_mem _ hn) with e | e
   ·rw[List.length_cons];lia
   ·rw[e];simp;lia
 rcases key ns 0 h.up h.lo h.hi with e | e
 ·lia
 ·rw[e];simp
theorem fW.sub{ns ms:List Int}(h:fW ns)(s:ms.Sublist ns):fW ms:=⟨h.up.sublist s,λn hn=>h.lo n (s.subset hn),λn hn=>h.hi n (s.subset hn)⟩
section
variable{X:Cx}
noncomputable def LH(K:PySem.W.Frag):R2:=λx y H Q=>∃l k xs,x = .ref l/\y = .int k/\H l=some (.tup xs)/\xs≠[]/\xs.length<=1000/\1<=k/\k<=1000/\∀p H',ah H H'->H' p=some (.tup (List.replicate k.toNat xs).flatten)->Q (.ref p) H'
end
noncomputable def d7(q:Sq):Ak:=⟨if q.kind = "early" then "write" else q.kind,q.first,q.many,q.marks,q.at_,q.eE,q.eX,q.behind,decide (q.kind = "early")⟩
theorem kr{a b:String}(h:a≠b):(a:Str)≠(b:Str):=λe=>h (by rw[q9] at e;exact e)
theorem Wb{T:Int}{q:Sq}(h:q.kind = "rest")(k:rZ T q):d7 q=⟨"rest",0,0,[],q.at_,0,none,[],false⟩/\0<=q.at_/\q.at_<=1000000000000:=by
 cases k with
 | rest h1 h2 h3 h4 h5 h6 h7 h8 h9 =>
  refine⟨?_,h8,h9⟩;unfold d7;rw[h1,h2,h3,h4,h5,h6,h7,if_neg (kr (by decide)),decide_eq_false (kr (by decide))]
 | read h1=>rw[h] at h1;exact absurd h1 (kr (by decide))
 | write h1 =>
  rw[h] at h1;rcases h1 with z | z <;> exact absurd z (kr (by decide))
theorem Wc{T:Int}{q:Sq}(h:q.kind = "read")(k:rZ T q):d7 q=⟨"read",q.first,q.many,[],q.at_,q.eE,q.eX,q.behind,false⟩/\lM q.first q.many q.at_ q.eE q.eX/\fW q.behind:=by
 cases k with
 | rest h1=>rw[h] at h1;exact absurd h1 (kr (by decide))
 | read h1 h2 h3 h4 h5 =>
  refine⟨?_,h3,h4⟩;unfold d7;rw[h1,h2,if_neg (kr (by decide)),decide_eq_false (kr (by decide))]
 | write h1 =>
  rw[h] at h1;rcases h1 with z | z <;> exact absurd z (kr (by decide))
theorem Wd{T:Int}{q:Sq}(n1:q.kind≠"rest")(n2:q.kind≠"read")(k:rZ T q):d7 q=⟨"write",q.first,q.marks.length,q.marks,q.at_,q.eE,q.eX,q.behind,decide (q.kind = "early")⟩/\lM q.first q.marks.length q.at_ q.eE q.eX/\fW q.behind/\∀x∈q.marks,0<=x/\x<=1000000000:=by
 cases k with
 | rest h1=>exact absurd h1 n1
 | read h1=>exact absurd h1 n2
 | write h1 h2 Dg h3 h4 h5 =>
  refine⟨?_,by rw[h2];exact h3,h4,Dg⟩
  unfold d7;rw[h2];rcases h1 with z | z
  ·rw[z,if_neg (kr (by decide))]
  ·rw[z,if_pos rfl]
noncomputable def We(K:PySem.W.Frag)(C:Addr):Sp:=λvs H Q _=>∃(t:Addr) (q:Sq) (m b:Addr) (T:Int),vs = [.ref t]/\pO H t q m b/\rZ T q/\∀p mk bb dx H',ah H H'->H p=none->gS K C H' p (d7 q) mk bb dx->Q (.ref p) H'
noncomputable def Wf(K:PySem.W.Frag)(C:Addr):Sp:=λvs H Q _=>∃(p t:Addr) (q:Sq) (mk bb dx m b:Addr),vs = [.ref p,.ref t]/\gS K C H p (d7 q) mk bb dx/\pO H t q m b/\q.marks.length<=1000000/\q.behind.length<=1000000/\∀H',ah H H'->Q (.bl true) H'
noncomputable def LI:Option Int->Dt
 | none=>.aG
 | some i=>.int i
theorem Wg{H:Hp}{n:Nat}(o:Option Int):Rep H n (fG o) (LI o):=by
 cases o with
 | none=>exact .aG
 | some i=>exact .int i
noncomputable def LJ(q:Sq):Dt:=.lst [.str (d7 q).kind,.int q.first,.int q.many,.tup (q.marks.map Dt.int),.int q.at_,.int q.eE,LI q.eX,.tup (q.behind.map Dt.int),.bl (decide (q.kind = "early"))]
theorem LK{H:Hp}{l m b:Addr}{q:Sq}(h:H l=some (.lst [.str (d7 q).kind,.int q.first,.int q.many,.ref m,.int q.at_,.int q.eE,fG q.eX,.ref b,.bl (decide (q.kind = "early"))]))(hm:H m=some (.tup (q.marks.map V.int)))(hb:H b=some (.tup (q.behind.map V.int)))
  (l1:q.marks.length<=1000000) (l2:q.behind.length<=1000000):Rep H 4 (.ref l) (LJ q) :=
 Rep.pA (n:=3) h ⟨.str _,.int _,.int _,Rep.nq (n:=2) hm (gM.ints _) (by simpa using l1),.int _,.int _,Wg _,Rep.nq (n:=2) hb (gM.ints _) (by simpa using l2),.bl _,trivial⟩
section
variable{K:PySem.W.Frag}{C:Addr}{H H':Hp}{l:Addr}{ps:List Addr}{qs:List Ak}
end
noncomputable abbrev Us:=List (Addr×List Int)
noncomputable def uV(zs:Us):List V:=zs.map λz=>V.ref z.1
noncomputable def LL(H:Hp)(zs:Us):Prop:=∀z,z∈zs->H z.1=some (.tup (z.2.map V.int))
section
variable{X:Cx}{pins:List (Addr×Obj)}{σ:St}{H:Hp}{s:Shared}
end
section
variable{X:Cx}
noncomputable def LM(K:PySem.W.Frag)(neg:Bool):R2:=λx y H Q=>∃(a p:Addr) (c:List Int) (zs:Us),x = .ref a/\y = .ref p/\H a=some (.tup (c.map V.int))/\aH K H p (uV zs)/\LL H zs/\
 Q (.bl (if neg then !decide (c∈zs.map (·.2)) else decide (c∈zs.map (·.2)))) H
noncomputable def LN:V->List V->Hp->VK->Prop:=λx vs H Q=>∃(l a:Addr) (zs:Us) (c:List Int),x = .ref l/\vs = [.ref a]/\H l=some (.lst (uV zs))/\LL H zs/\H a=some (.tup (c.map V.int))/\c∈zs.map (·.2)/\
 ∀(k:Nat) (h:k<zs.length),zs[k].2=c->(∀m (hm:m<zs.length),m<k->zs[m].2≠c)->Q .aG (upd H l (.lst (uV (zs.eraseIdx k))))
end
noncomputable def zU:List Addr->List (Int×Int)->Us:=λts z=>(ts.zip z).map λp=>(p.1,[p.2.1,p.2.2])
section
variable{K:PySem.W.Frag}{tl:TE}{g:TG}{tt:TT}{te:TE}{nt:Nat}{fv:List Nat}{Q:VK}{σ:St}{H:Hp}
end
section
variable{prog:Program}{w:World}{A:Around}{E:Value->Shared->Prop}{h:Heap}{g:Array GenState}{d:Drawn}{t:Nat}{os:OsState}
variable{nm q:Str}{C N:Addr}{bs bm c8:List Value}{hdct:Bool}{sn:List Str}{sub:List Value}{ab:Bool}{col:Option Bool}{dd:Option Addr}{k0 k1 k2 k3 k5:Option Value}{B newId eW:String}
theorem Wh(F:ExcBaseFacts B newId eW c8)(T:OwnTail h c8 bm){mN:Str->Option Value}{rest:List Value}{fI:Addr}{oI:Obj}{Q:Fin->Shared->Prop}
  (hC:h.get? C=some (excClassObj nm q C N bs bm hdct sn sub ab col dd k0 k1 k2 k3 k5 newId)) (hn:h.Ns N mN) (hi:mN "__init__" = some (.ref fI)) (Dh:h.get? fI=some oI) (nK:oI.cls = .type "function")
  (hq:∀h' e,Heap.MadeExcOf h h' e (.ref C) rest->wpAny (model prog w) A (call (.ref fI) (.ref e::rest)) (λr s'=>r = .none/\Q (.done (.ret (.ref e))) s') E ⟨h',g,d,t,os⟩) (hrest:rest.length<=sizeLine) :
  wpAny (model prog w) A (Builtin.«type.__call__» ⟨.ref C::rest,[]⟩) Q E ⟨h,g,d,t,os⟩:=by
 repeat (first | with_reducible refine wpAny_loadPart_at hC ?_ | with_reducible refine wpAny_madeBy_exc hC ?_ | wp_step)
 refine codeAny_call_builtin_code (Code.quiet_builtin _ F.quiet) (wpAny_check_new_subT F T hC ?_);refine codeAny_exc_new_subT F T hC ?_ hrest
 show wpAny _ _ _ _ _ _;generalize hh:(h.push { cls:=.type "tuple",data:=.seq rest.toArray }).push { cls:=.ref C,data:=.fields #[.ref h.objs.size,.none,.none,.none,.bool false,.none] }=h2;have keeps:∀b o,h.get? b=some o->h2.get? b=some o:=λb o e=>by rw[← hh];exact Heap.get?_push_of_some _ (Heap.get?_push_of_some _ e)
 have LO:h2.get? (h.objs.size+1)=some { cls:=.ref C,data:=.fields #[.ref h.objs.size,.none,.none,.none,.bool false,.none] }:=by rw[← hh];heap_get
 have Wi:h2.get? h.objs.size=some { cls:=.type "tuple",data:=.seq rest.toArray }:=by rw[← hh];exact Heap.get?_push_of_some _ (Heap.get?_push_at rfl rfl)
 have Wj:(Value.ref C::bm).contains (.ref C)=true:=by simp
 have rG:=keeps _ _ hC;unfold isInstance
 repeat (first | with_reducible refine wpAny_loadPart_at LO ?_ | (with_reducible refine wpAny_isSubtype_exc rG ?_;rw[Wj]) | wp_step)
 show wpAny _ _ (typeLookup (.ref C) _) _ _ _;refine wpAny_typeLookup_tail rG (hn.keeps keeps) (T.keeps keeps) F.mroIs F.init.lookup ?_;rw[hi];refine wpAny_holding (wpAny_bind ?_);unfold bindSpecial;refine wpAny_bind (wpAny_typeOf (T := "function") ⟨_,keeps _ _ Dh,nK⟩ ?_);rw[if_pos (by decide)]
 refine wpAny_pure (wpAny_bind (wpAny_mono (hq h2 (h.objs.size+1) ⟨keeps,Heap.get?_none_of_le (Nat.le_succ _),h.objs.size,LO,Heap.get?_none_of_le (Nat.le_refl _),Wi⟩) (λr s' hr=>?_) λ_ _ x=>x));obtain⟨rfl,hQ⟩:=hr;wp_walk;exact hQ
theorem LQ(F:ExcBaseFacts B newId eW c8)(T:OwnTail h c8 bm){mN:Str->Option Value}{rest:List Value}{fI:Addr}{oI:Obj}{Q:Value->Shared->Prop}
  (hC:h.get? C=some (excClassObj nm q C N bs bm hdct sn sub ab col dd k0 k1 k2 k3 k5 newId)) (hn:h.Ns N mN) (hi:mN "__init__" = some (.ref fI)) (Dh:h.get? fI=some oI) (nK:oI.cls = .type "function")
  (hq:∀h' e,Heap.MadeExcOf h h' e (.ref C) rest->wpAny (model prog w) (A.under (.builtin "type.__call__" ⟨.ref C::rest,[]⟩)) (call (.ref fI) (.ref e::rest)) (λr s'=>r = .none/\Q (.ref e) s') E ⟨h',g,d,t,os⟩) (hrest:rest.length<=sizeLine) :
  wpAny (model prog w) A (call (.ref C) rest) Q E ⟨h,g,d,t,os⟩:=by
 have f1:=tc_lookup;have f2:=tc_bind (.ref C);have hT:(⟨h,g,d,t,os⟩:Shared).TypeIs (.ref C) "type" := ⟨_,hC,rfl⟩;refine wpAny_call (codeAny_of_tree ?_)
 show wpAny _ _ (callAny (.ref C) _) _ _ _
 repeat (any_goals (first | assumption | with_reducible refine wpAny_loadPart_at hC ?_ | wp_step))
 refine⟨rfl,?_⟩;refine codeAny_call_builtin_at (Code.quiet_builtin _ (by decide +kernel)) entry_typeCall (wpAny_check_type_call_sub hC (Wh (hrest:=hrest) F T hC hn hi Dh nK λh' e hm=>?_))
 exact hq h' e hm
theorem Wk{s:Shared}{M:Model}{env:Env}{x:Sem Value}{Q:Flow->Shared->Prop}(iX:bm.contains (.type "BaseException")=true)(hh:A.handled=none)
  (h:wpAny M A x (λv aE=>∃(e:Addr) (od:Option Addr) (vs:Array Value) (sl:Array (Option Value)),v = .ref e/\aE.heap.get? C=some (excClassObj nm q C N bs bm hdct sn sub ab col dd k0 k1 k2 k3 k5 newId)/\
   aE.heap.get? e=some { cls:=.ref C,dict:=od,data:=.fields vs,slots:=sl }/\vs[1]? = some .none/\E (.ref e) aE) E s) :
  wpAny M A (raiseStmt env (some x) none) Q E s:=by
 have pC:(Value.ref C::bm).contains (.type "BaseException")=true:=by rw[List.contains_cons,iX,Bool.or_true]
 unfold raiseStmt;refine wpAny_bind (wpAny_mono h (λv aE cT=>?_) λ_ _ x=>x);obtain⟨e,od,vs,sl,rfl,hC,he,h1,hE⟩:=cT;obtain⟨hp,g,d,tk,os⟩:=aE
 repeat (first | with_reducible refine wpAny_loadPart_at he ?_ | with_reducible refine wpAny_loadPart_at hC ?_ | (with_reducible refine wpAny_isSubtype_exc hC ?_;rw[pC]) | wp_step)
 rw[h1];exact wpAny_pure (by rw[if_neg (by decide)];exact wpAny_pure (wpAny_raiseNew_none hh hE))
end
end _L
namespace _L
open PySem PySem.W PySem.Builtin.ObjectAttr
noncomputable def r_(c8:List Value):List Value->Bool
 | []=>c8 == []
 | v::r=>(v::r) == c8 || match v with
  | .ref _=>r_ c8 r
  | _=>false
theorem LR{self:Value}{wB:Str}{c8:List Value}(h:refuseLoop self wB c8=pure ()):∀ {l:List Value},r_ c8 l=true->refuseLoop self wB l=pure ()
 | [],e=>by have e:=beq_iff_eq.mp e;rw[e] at h;exact h
 | v::r,e=>by
  unfold r_ at e;rcases Bool.or_eq_true_iff.mp e with q | q
  ·rw[beq_iff_eq.mp q];exact h
  ·cases v <;> first | (cases q;done) | (rw[refuseLoop_ref];exact LR h q)
structure ku(K:Frag)(C:Addr):Prop where
 sa:findIn K (.ref C) "__setattr__" = some (some (.builtin "object.__setattr__"))
 hd:hasDictIn K C=true
 mro:PySem.W.mroIn K C (.type "object")=some true
 tl:(clsIn K C).any (λcd=>r_ [.type "ValueError",.type "Exception",.type "BaseException",.type "object"] cd.mro)=true
section
variable{prog:Program}{w:World}{A:Around}{E:Value->Shared->Prop}{R:Result->Shared->Prop}{s:Shared}{K:Frag}{x C:Addr}{o:Obj}{name:Str}{v:Value}
theorem Wl{tk:Tok}(X:K.In s.heap)(hx:s.heap.get? x=some o)(hc:o.cls = .ref C)(S:ku K C)(ht:findIn K (.ref C) name=some none)
  (h:wpAny (model prog w) A.in1 (storeInOwnDict (.ref x) (.ref C) (.str name tk) name v false)
   (λfin s'=>match fin with | .done f=>R (.ok f) s' | .again c'=>c'.quiet=true/\codeAny (model prog w) A c' R s') (λe s'=>R (.error e) s') s) :
  codeAny (model prog w) A (.call (.builtin "object.__setattr__") ⟨[.ref x,.str name tk,v],[]⟩) R s:=by
 have SF:=PySem.F.store_ValueError;obtain⟨cd,cu,ho⟩:=any_some S.tl;have T:Looks (model prog w) s.heap (typeOf (.ref x)) (.ref C):=hc▸(Looks.ld hx).andThen .now;have sub:Looks (model prog w) s.heap (isInstance (.ref x) (.type "object")) true:=T.andThen (looks_mroIn X S.mro);refine codeAny_call_builtin SF.slot.plain SF.entry (@check_slot (model prog w) _ _ s "object.__setattr__" "object" "__setattr__" (.ref x) [.str name tk,v] [] _ SF.kind SF.split sub (SF.args (.ref x) (.str name tk) v) ?_);have hm:Looks (model prog w) s.heap (mroOf (.ref C)) cd.mro:=(looks_clsIn X cu).andThen .now;have L3:Looks (model prog w) s.heap (storeTaker? none) none:=.now;rw[osa_eq,refuse_eq];refine wpAny_bind (wpAny_bind (T.here (wpAny_bind (hm.here ?_))));rw[LR (SF.passes _) ho];refine wpAny_pure (wpAny_bind (T.here (wpAny_bind ((looks_findIn X ht).here (wpAny_bind (L3.here ?_))))));exact h
theorem LS{Q:Unit->Shared->Prop}(X:K.In s.heap)(hx:s.heap.get? x=some o)(hc:o.cls = .ref C)(S:ku K C)(ht:findIn K (.ref C) name=some none)
  (h:wpAny (model prog w) A.in1 (storeInOwnDict (.ref x) (.ref C) (.str name s.toks) name v false)
   (λfin s'=>match fin with | .done (.ret _)=>Q () s' | _=>False) (λe s'=>False) { s with toks:=s.toks+1 }) :
  wpAny (model prog w) A (setAttr (.ref x) name v) Q E s:=by
 have T:Looks (model prog w) s.heap (typeOf (.ref x)) (.ref C):=hc▸(Looks.ld hx).andThen .now;refine wpAny_bind (wpAny_mkText (wpAny_bind (wpAny_bind (wpAny_bind (T _ _ _ _ (λ_ _ e=>e) (looks_findIn X S.sa _ _ _ _ (λ_ _ e=>e) (wpAny_holding ?_)))))));rw[PySem.F.store_object.slot.bind];refine wpAny_bind (wpAny_pure (wpAny_bind (wpAny_call (codeAny_mono (Wl (s:={ s with toks:=s.toks+1 }) (R:=λr s'=>match r with | .ok (.ret _)=>Q () s' | .ok _=>False | .error e=>False) X hx hc S ht (wpAny_mono h (λfin s' z=>?_) λ_ _ z=>z)) λr s' z=>?_))))
 ·rcases fin with(_ | _ | _ | v) | _ <;> first | exact z.elim | exact z
 ·rcases r with e | (v | _ | _ | _) <;> first | exact z.elim | exact wpAny_pure (wpAny_pure z)
theorem Wm{Q:Unit->Shared->Prop}{vs:Array Value}{sl:Array (Option Value)}(X:K.In s.heap)(hx:s.heap.get? x=some { cls:=.ref C,dict:=none,data:=.fields vs,slots:=sl })(S:ku K C)(ht:findIn K (.ref C) name=some none)
  (h:∀h' d tk,d=s.heap.objs.size->h'.Ns1 d (λy=>if y=name then some v else none)->h'.get? x=some { cls:=.ref C,dict:=some d,data:=.fields vs,slots:=sl }->(∀b ob,b≠x->s.heap.get? b=some ob->h'.get? b=some ob)->Q () { s with heap:=h',toks:=tk }) :
  wpAny (model prog w) A (setAttr (.ref x) name v) Q E s:=by
 refine LS X hx rfl S ht ?_;obtain⟨cd,cu,cJ⟩:=any_some S.hd;obtain⟨hh,g,dr,t,os⟩:=s;have rM:hh.get? x=some { cls:=.ref C,dict:=none,data:=.fields vs,slots:=sl }:=hx;have Lc:=looks_clsIn (M:=model prog w) X cu;have LU:(hh.push { cls:=.type "dict",data:=.dict #[] }).get? x=some { cls:=.ref C,dict:=none,data:=.fields vs,slots:=sl }:=Heap.get?_push_of_some _ rM;have LV:x≠hh.objs.size:=Nat.ne_of_lt (Heap.lt_size rM);unfold storeInOwnDict ownDictForStores instanceDict;have dD:Obj.isFreed { cls:=.ref C,dict:=some hh.objs.size,data:=.fields vs,slots:=sl }=false:=rfl;refine wpAny_bind (wpAny_pure (wpAny_bind ?_));refine wpAny_bind (wpAny_loadPart rM (wpAny_bind (Lc.here (s:=⟨hh,g,dr,t+1,os⟩) ?_)));rw[cJ]
 show wpAny _ _ (alloc _ >>= λd=>update x _ >>= λ_=>dictMade (.ref C) x d) _ _ _;refine wpAny_bind (wpAny_alloc (wpAny_bind (wpAny_update LU (wpAny_pure ?_))));have Wn:((hh.push { cls:=.type "dict",data:=.dict #[] }).update x λo=>{ cls:=o.cls,dict:=some hh.objs.size,data:=o.data,slots:=o.slots }).get? hh.objs.size=some { cls:=.type "dict",data:=.dict #[] } :=
  (Heap.get?_update_ne _ _ _ _ LV.symm).trans (Heap.get?_push_at rfl rfl)
 have Wo:((hh.push { cls:=.type "dict",data:=.dict #[] }).update x λo=>{ cls:=o.cls,dict:=some hh.objs.size,data:=o.data,slots:=o.slots }).Ns hh.objs.size (λ_=>none):=⟨_,#[],_,Wn,rfl,λe he=>absurd he (by simp),λ_=>rfl⟩
 show wpAny _ _ (storeInDict hh.objs.size (.str name t) name v) _ _ _;unfold storeInDict newKeyGuard;refine wpAny_bind (wpAny_pure (wpAny_bind (wpAny_nsSet1 (Heap.Ns1.of_empty Wo) λh' fM hs=>?_)));obtain⟨oD,IJ,IK,qG,qH,qI⟩:=fM.count (Within.cons name v Within.nil);refine wpAny_bind (wpAny_lookBehind qG (by rw[qH];exact pastItsLine_dict (Nat.le_trans qI (by rw[List.length_cons,List.length_nil,sizeLine_eq];lia))) ?_)
 refine wpAny_pure (h h' hh.objs.size _ rfl fM ?_ λb ob hb e=>?_)
 ·exact(hs.2 x LV).trans (Heap.get?_update_self _ LU dD)
 ·exact(hs.2 b (Nat.ne_of_lt (Heap.lt_size e))).trans ((Heap.get?_update_ne _ _ _ _ hb).trans (Heap.get?_push_of_some _ e))
theorem Wq{Q:Unit->Shared->Prop}{d:Addr}{mA:Str->Option Value}{ns:List Str}{vs:Array Value}{sl:Array (Option Value)}(X:K.In s.heap)(hx:s.heap.get? x=some { cls:=.ref C,dict:=some d,data:=.fields vs,slots:=sl })(S:ku K C)(ht:findIn K (.ref C) name=some none)
  (hn:s.heap.Ns1 d mA) (hw:Within mA ns) (hz:ns.length<1000)
  (h:∀h' tk,h'.Ns1 d (λy=>if y=name then some v else mA y)->(∀b,b≠d->h'.get? b=s.heap.get? b)->Q () { s with heap:=h',toks:=tk }) :
  wpAny (model prog w) A (setAttr (.ref x) name v) Q E s:=by
 refine LS X hx rfl S ht ?_;obtain⟨cd,cu,cJ⟩:=any_some S.hd;obtain⟨hh,g,dr,t,os⟩:=s;have Lc:=looks_clsIn (M:=model prog w) X cu;unfold storeInOwnDict ownDictForStores instanceDict;refine wpAny_bind (wpAny_pure (wpAny_bind ?_));refine wpAny_bind (wpAny_loadPart hx (wpAny_bind (Lc.here (s:=⟨hh,g,dr,t+1,os⟩) ?_)));rw[cJ]
 show wpAny _ _ (pure (some d)) _ _ _;refine wpAny_pure ?_
 show wpAny _ _ (storeInDict d (.str name t) name v) _ _ _;unfold storeInDict newKeyGuard;refine wpAny_bind (wpAny_pure (wpAny_bind (wpAny_nsSet1 hn λh' fM hs=>?_)));obtain⟨oD,IJ,IK,qG,qH,qI⟩:=fM.count (Within.cons name v hw);refine wpAny_bind (wpAny_lookBehind qG (by rw[qH];exact pastItsLine_dict (Nat.le_trans qI (by rw[List.length_cons,sizeLine_eq];lia))) ?_)
 exact wpAny_pure (h h' _ fM hs.2)
end
end _L
namespace _L
open PySem PySem.Spec PyProof.Rows
noncomputable def se(K:PySem.W.Frag)(C fI:Addr):Bool:=match K.lookup C with
 | some ⟨_,_,.cls cd,_⟩=>PySem.W.nsIn K cd.ns "__init__" == some (some (.ref fI))
 | _=>false
theorem Wr{K:PySem.W.Frag}{h:Heap}{N:Addr}{mg:Str->Option Value}{n:Str}{v:Value}(X:K.In h)(G:h.Ns N mg)(e:PySem.W.nsIn K N n=some (some v)):mg n=some v:=by
 obtain⟨o,es,ep,ho,hd,_,hf⟩:=G;unfold PySem.W.nsIn at e;split at e
 ·rename_i c d gU n' sl q;have:=X _ _ q;rw[ho] at this;cases this;cases hd;rw[← hf n];unfold nsFind findBy;rw[← Array.find?_toList];split at e
  ·rename_i y q';rw[q'];exact Option.some.inj e
  ·split at e <;> cases e
 ·cases e
theorem Di{K:PySem.W.Frag}{h₀:Heap}{C fI:Addr}{c8:List Value}{newId:String}(X:K.In h₀)(q:ki K C c8 newId=true)(qi:se K C fI=true) :
  ∃bm N nm q bs hdct sn sub ab col dd k0 k1 k2 k3 k5 mN,h₀.get? C=some (excClassObj nm q C N bs bm hdct sn sub ab col dd k0 k1 k2 k3 k5 newId)/\h₀.Ns N mN/\mN "__init__" = some (.ref fI)/\OwnTail h₀ c8 bm:=by
 unfold ki at q;unfold se at qi;cases e:K.lookup C with
 | none=>rw[e] at q;cases q
 | some o =>
  rw[e] at q qi;split at q
  ·rename_i dd cd sl ho;cases ho;split at q
   ·rename_i C' bm k0 k1 k2 k3 n k5 hm hs;simp only[Bool.and_eq_true,beq_iff_eq,Bool.not_eq_true'] at q qi;obtain⟨⟨⟨⟨c1,c2⟩,c3⟩,c4⟩,c5⟩:=q;obtain⟨nm,bs,mro,ns,qn,hd,sn,sub,ab,col,del⟩:=cd;obtain⟨l⟩:=sl;dsimp only at hm hs c3 c5 qi;subst c1 c2 hm c3 hs;have hN:h₀.Ns ns (h₀.nsMap ns):=.of_isNs (PySem.W.isNs_of_in X c5);exact⟨bm,ns,nm,qn,bs,hd,sn,sub,ab,col,dd,k0,k1,k2,k3,k5,_,X _ _ e,hN,Wr X hN qi,PySem.W.tail_of_in X c4⟩
   ·cases q
  ·cases q
noncomputable def dh(a C:Addr)(od:Option Addr):HO:=.ext λh=>∃(vs:Array Value) (sl:Array (Option Value)),h.get? a=some { cls:=.ref C,dict:=od,data:=.fields vs,slots:=sl }/\(vs[1]? = some .none/\vs[2]? = some .none/\4<vs.size)/\∃a0,vs[0]? = some a0
noncomputable def dF(d:Addr)(fs:List (Str×V)):HO:=.ext λh=>∃mA,h.Ns1 d mA/\∀f,dO (fs.lookup f) (mA f)
section
variable{P:Program}{w:World}{H:Hp}{h:Heap}{a C d:Addr}{od:Option Addr}{fs:List (Str×V)}
theorem wC{vs:Array Value}{sl:Array (Option Value)}{a0:Value}(e:h.get? a=some { cls:=.ref C,dict:=od,data:=.fields vs,slots:=sl })(h1:vs[1]? = some .none/\vs[2]? = some .none/\4<vs.size)(h0:vs[0]? = some a0):bW P w H h a (dh a C od) :=
 ⟨⟨vs,sl,e,h1,a0,h0⟩,⟨_,e⟩,λ_ _ ⟨vs,sl,q,z⟩ k=>⟨vs,sl,k _ q,z⟩⟩
theorem LW{mA:Str->Option Value}(n:h.Ns1 d mA)(r:∀f,dO (fs.lookup f) (mA f)):bW P w H h d (dF d fs) :=
 ⟨⟨mA,n,r⟩,let ⟨o,_,_,e,_⟩:=n;⟨o,e⟩,λ_ _ ⟨mA,⟨o,es,ep,e,c⟩,r⟩ k=>⟨mA,⟨o,es,ep,k _ e,c⟩,r⟩⟩
theorem sf(ok:bQ P w H h)(e:H a=some (dh a C od)):∃(vs:Array Value) (sl:Array (Option Value)),h.get? a=some { cls:=.ref C,dict:=od,data:=.fields vs,slots:=sl }/\(vs[1]? = some .none/\vs[2]? = some .none/\4<vs.size)/\∃a0,vs[0]? = some a0:=by
 obtain⟨z,_,_⟩:=(show bW P w H h a (dh a C od) from ok a _ e);exact z
theorem LX(ok:bQ P w H h)(e:H d=some (dF d fs)):∃mA,h.Ns1 d mA/\∀f,dO (fs.lookup f) (mA f):=by
 obtain⟨z,_,_⟩:=(show bW P w H h d (dF d fs) from ok d _ e);exact z
end
theorem lookup_none{f:Str}:∀ {fs:List (Str×V)},f∉fs.map (·.1)->fs.lookup f=none
 | [],_=>rfl
 | (g,x)::r,h=>by
  rw[List.map_cons,List.mem_cons,not_or] at h;have hb:(f == g)=false:=beq_eq_false_iff_ne.mpr h.1;simp only[List.lookup,hb];exact lookup_none h.2
theorem Within.Ws{fs:List (Str×V)}{mA:Str->Option Value}(r:∀f,dO (fs.lookup f) (mA f)):PySem.Within mA (fs.map (·.1)):=λf h=>by
 by_cases m:f∈fs.map (·.1)
 ·exact m
 ·exact absurd (dO.none_of (by rw[← lookup_none m];exact r f)) h
section
variable{X:Cx}{pins:List (Addr×Obj)}{σ:St}{H:Hp}{s:Shared}{a C d:Addr}{od:Option Addr}{fs:List (Str×V)}{f:Str}{A:Around}{E:Value->Shared->Prop}
theorem Inv.Dj{o:HO}(I:Inv X pins σ H s)(n:H a=none)(e0:X.aK.heap.get? a=none)(nL:a≠X.env.locals)(nc:∀x c,X.env.cells.lookup x=some c->c≠a)(np:∀p∈X.pn++pins,p.1≠a)(new:bW X.prog X.w (upd H a o) s.heap a o):Inv X pins σ (upd H a o) s:=by
 have ne:∀b v,H b=some v->b≠a:=λb v q z=>by rw[z,n] at q;cases q
 have up:∀b v,H b=some v->upd H a o b=some v:=λb v q=>by rw[au (ne b v q)];exact q
 have un:∀b,b≠a->H b=none->upd H a o b=none:=λb z q=>by rw[au z];exact q
 refine⟨I.ok,I.os,I.bare,⟨I.base.keep,I.base.slot,λb o q n' hx=>un b (λz=>by rw[z,e0] at q;cases q) (I.base.free b o q n' hx),I.base.there,λb xs q=>up b _ (I.base.eZ b xs q),λb o u q=>up b _ (I.base.d9 b o u q),λb ps q=>let ⟨m,z⟩:=I.base.eK b ps q;⟨m,up b _ z⟩⟩,
  I.loc,I.cell,un _ (Ne.symm nL) I.free,λx c q=>un c (nc x c q) (I.fu x c q),λp hp=>let ⟨q1,q2,q3⟩:=I.pin p hp;⟨q1,un _ (np p hp) q2,q3⟩,λb v q=>?_,I.len⟩
 by_cases z:b=a
 ·subst z;rw[aB] at q;cases q;exact new
 ·rw[au z] at q;exact(I.az b v q).d8 (λ_ _ _ e=>e) (λd e=>up d _ e) λd xs e=>up d _ e
theorem Wt{y:V}{u:Value}{Q:Unit->Shared->Prop}(I:Inv X pins σ H s)(ea:H a=some (dh a C none))(S:ku X.K C)(n:bM X.K C f)(ry:RelV y u)
  (h:∀d s',H d=none->Inv X pins σ (upd (upd H a (dh a C (some d))) d (dF d [(f,y)])) s'->Q () s'):wpAny (model X.prog X.w) A (setAttr (.ref a) f u) Q E s:=by
 obtain⟨vs,sl,e,h1,a0,h0⟩:=sf I.az ea;refine Wm I.bC e S n λh' d tk ed hn sr kp=>?_;have nd:H d=none:=I.az.fresh (by rw[ed];exact Nat.le_refl _)
 have da:d≠a:=λz=>by rw[z,ea] at nd;cases nd
 have old:∀b o,s.heap.get? b=some o->b≠d:=λb o q=>by rw[ed];exact Nat.ne_of_lt (Heap.lt_size q)
 have I1:Inv X pins σ (upd H a (dh a C (some d))) { s with heap:=h',toks:=tk }:=I.write (x:=a) (e:=a) (by rw[ea];exact True.intro) (.inl rfl) (λb o hb q=>kp b o hb q) ⟨_,sr⟩ (wC sr h1 h0)
 obtain⟨m,⟨oL,_,_,jt,_⟩,_⟩:=I.loc;refine h d _ nd (I1.Dj (by rw[au da];exact nd) ?_ (Ne.symm (old _ _ jt)) (λy c e=>?_) (λp hp=>old _ _ (I.pin p hp).1) (LW hn λg=>?_))
 ·cases q:X.aK.heap.get? d with
  | none=>rfl
  | some o =>
   have h1:=Heap.lt_size q;have h2:=I.ok.above;have h3:=Heap.lt_size jt;rw[ed] at h1;exact absurd (Nat.lt_of_lt_of_le h1 h2) (Nat.lt_asymm h3)
 ·obtain⟨v,o,q,_⟩:=I.cell y c e;exact old _ _ q
 ·show dO (List.lookup g [(f,y)]) (if g=f then some u else none)
  by_cases q:g=f
  ·have hb:(g == f)=true:=beq_iff_eq.mpr q;simp only[List.lookup,hb,if_pos q];exact ry
  ·have hb:(g == f)=false:=beq_eq_false_iff_ne.mpr q;simp only[List.lookup,hb,if_neg q];exact True.intro
theorem Wu{y:V}{u:Value}{Q:Unit->Shared->Prop}(I:Inv X pins σ H s)(ea:H a=some (dh a C (some d)))(ed:H d=some (dF d fs))(S:ku X.K C)(n:bM X.K C f)(hl:fs.length<1000)(ry:RelV y u)
  (h:∀s',Inv X pins σ (upd H d (dF d (cX f y fs))) s'->Q () s'):wpAny (model X.prog X.w) A (setAttr (.ref a) f u) Q E s:=by
 obtain⟨vs,sl,e,h1,a0,h0⟩:=sf I.az ea;obtain⟨mA,hn,r⟩:=LX I.az ed;refine Wq I.bC e S n hn (Within.Ws r) (by rw[List.length_map];exact hl) λh' tk fM kp=>h _ ?_
 have cJ:∃o,h'.get? d=some o:=let ⟨o,_,_,e',_⟩:=fM;⟨o,e'⟩
 refine I.write (x:=d) (e:=d) (by rw[ed];exact True.intro) (.inl rfl) (λb o hb q=>(kp b hb).trans q) cJ (LW fM λg=>?_)
 rw[A7];by_cases q:g=f
 ·rw[if_pos q,if_pos q];exact ry
 ·rw[if_neg q,if_neg q];exact r g
end
noncomputable def Dl(K:PySem.W.Frag)(ta tv:TE)(f:Str):TS:=λD σ H=>tv σ H λy H1=>ta σ H1 λx H2=>∃a C,x = .ref a/\H2 a=some (dh a C none)/\ku K C/\bM K C f/\∀d,H2 d=none->D.nx σ (upd (upd H2 a (dh a C (some d))) d (dF d [(f,y)]))
noncomputable def Dm(K:PySem.W.Frag)(ta tv:TE)(f:Str):TS:=λD σ H=>tv σ H λy H1=>ta σ H1 λx H2=>∃a C d fs,x = .ref a/\H2 a=some (dh a C (some d))/\H2 d=some (dF d fs)/\ku K C/\bM K C f/\fs.length<1000/\D.nx σ (upd H2 d (dF d (cX f y fs)))
section
variable{X:Cx}{o value:Expr}{f:Str}{pos pos':Pos}{ta tv:TE}
theorem LY(ha:PE X o ta)(hv:PE X value tv)(hs:swapsWith value (some (.Attribute o f pos')) pos.line X.env=pure false):PS X (.Assign [.Attribute o f pos'] value pos) (Dl X.K ta tv f):=by
 intro pins s σ H D I h;refine plainObj_wpAny_Assign_Attribute (aN (hv pins s σ H _ I h) λu s1 ⟨y,H1,I1,ry,q⟩=>aN (ha pins s1 σ H1 _ I1 q) λov s2 ⟨x,H2,I2,rx,a,C,ex,ea,S,n,q2⟩=>?_) hs;subst ex;obtain rfl:ov=Value.ref a:=rx;exact Wt I2 ea S n ry λd s3 nd I3=>⟨σ,_,I3,q2 d nd⟩
theorem LZ(ha:PE X o ta)(hv:PE X value tv)(hs:swapsWith value (some (.Attribute o f pos')) pos.line X.env=pure false):PS X (.Assign [.Attribute o f pos'] value pos) (Dm X.K ta tv f):=by
 intro pins s σ H D I h;refine plainObj_wpAny_Assign_Attribute (aN (hv pins s σ H _ I h) λu s1 ⟨y,H1,I1,ry,q⟩=>aN (ha pins s1 σ H1 _ I1 q) λov s2 ⟨x,H2,I2,rx,a,C,d,fs,ex,ea,ed,S,n,l,q2⟩=>?_) hs;subst ex;obtain rfl:ov=Value.ref a:=rx;exact Wu I2 ea ed S n l ry λs3 I3=>⟨σ,_,I3,q2⟩
end
structure L4(K:PySem.W.Frag)(C:Addr)(m:Str)(id:String):Prop where
 ga:PySem.W.specialIn K (.ref C) "__getattribute__" = some (some (.builtin "type.__getattribute__"))
 rd:PySem.W.readsIn K C (.type "type")=true
 at_:PySem.W.findCls K (.ref C) (.type "type") m=some (.val (.builtin id))
 hh:PySem.W.handedIn (.builtin id)=true
theorem Wv{M:Model}{A:Around}{E:Value->Shared->Prop}{s:Shared}{env:Env}{pos:Pos}{id:String}{first:List Value}{Q:Value->Shared->Prop}{e:Expr}{rest:List Expr}
  (h:wpAny M A (spliced (backTo pos (starEach (e::rest) env))) (λvs aE=>wpAny M A (call (.builtin id) (first++vs)) Q E aE) E s)
  (he:starEach (e::rest) env=(false,eval e env)::starEach rest env) (mH:(backTo pos (starEach rest env)).any (·.1)=false) :
  wpAny M A (callWith pos (.builtin id) first (backTo pos (starEach (e::rest) env)) []) Q E s:=by
 rw[he] at h ⊢;exact PySem.W.callWith_of (P:=λ_=>True) (by show ((false || (backTo pos (starEach rest env)).any (·.1)) || false)=false;rw[mH];rfl) (λh _=>⟨.machine,.inr (.inl rfl),.now⟩) (Calls.evalArgs_plain (wpAny_mono h (λvs aE z=>⟨trivial,z⟩) λ_ _ z=>z))
section
variable{prog:Program}{w:World}{A:Around}{E:Value->Shared->Prop}{h:Heap}{g:Array GenState}{d:Drawn}{t:Nat}{os:OsState}
variable{nm q:Str}{C N e:Addr}{bs bm c8:List Value}{hdct:Bool}{sn:List Str}{sub:List Value}{ab:Bool}{col:Option Bool}{dd:Option Addr}{k0 k1 k2 k3 k5:Option Value}{B newId eW:String}
theorem Ww(F:ExcBaseFacts B newId eW c8)(T:OwnTail h c8 bm){rest:List Value}{od:Option Addr}{vs:Array Value}{sl:Array (Option Value)}{a0:Value}{Q:Value->Shared->Prop}
  (hC:h.get? C=some (excClassObj nm q C N bs bm hdct sn sub ab col dd k0 k1 k2 k3 k5 newId)) (he:h.get? e=some { cls:=.ref C,dict:=od,data:=.fields vs,slots:=sl }) (h0:vs[0]? = some a0) (hrest:rest.length<=sizeLine)
  (hq:Q .none ⟨(h.push { cls:=.type "tuple",data:=.seq rest.toArray }).update e (Obj.mapFields (·.setIfInBounds 0 (.ref h.objs.size))),g,d,t,os⟩) :
  wpAny (model prog w) A (call (.builtin eW) (.ref e::rest)) Q E ⟨h,g,d,t,os⟩:=by
 refine wpAny_call (codeAny_call_builtin F.init.plain F.initEntry (wpAny_check_init_subT F T hC he rfl ?_));have hz:0<vs.size:=(Array.getElem?_eq_some_iff.mp h0).1;wp_walk;rw[h0];refine wpAny_pure (wpAny_bind (wpAny_setField (Heap.get?_push_of_some _ he) rfl hz ?_));cases a0 <;> (wp_walk;exact hq)
end
noncomputable def Dn(K:PySem.W.Frag)(bm:List Value)(newId:String)(t:TA):TE:=λσ H Q=>t σ H λvs H1=>∃a C fI ws,vs = .ref a::ws/\H1 a=some (dh a C none)/\ki K C bm newId=true/\se K C fI=true/\ws.length<=sizeLine/\Q .aG H1
section
variable{X:Cx}{x:Str}{C0:Addr}{bm:List Value}{newId eW B:String}{p pos apos:Pos}{e:Expr}{es:List Expr}{t:TA}
theorem L5{pl:Sem Bool}(hg:Gl X x)(hm:X.mg x=some (.ref C0))(c:L4 X.K C0 "__init__" eW)(FB:ExcBaseFacts B newId eW bm)(ha:PA X (e::es) t)
  (bX:starEach (e::es) X.env=(false,eval e X.env)::starEach es X.env:=by rfl) (cZ:(backTo pos (starEach es X.env)).any (·.1)=false:=by rfl) (c_:(x == ("__debug__" : Str))=false:=by decide)
  (ht:eval (.Call (.Attribute (.Name x p) "__init__" apos) (e::es) [] pos) X.env=(do
   let ov ← eval (.Name x p) X.env
   standAt apos.atName
   let (f,first) ← holding [ov] (getMethod ov "__init__" pl)
   callWith pos f first (backTo pos (starEach (e::es) X.env)) (backToKw pos (keywordEach [] X.env))):=by rfl) :
  PE X (.Call (.Attribute (.Name x p) "__init__" apos) (e::es) [] pos) (Dn X.K bm newId t):=by
 intro pins s σ H Q I h;refine PySem.W.methodCall_KW (pl:=pl) (iR I hg hm ?_ c_) ht;refine PySem.W.method_cls I.bC c.ga (PySem.W.cls_value I.bC c.rd c.at_ c.hh ?_);have I':=I.tok (s.toks+1);refine Wv (first:=[]) (aN (ha pos pins _ σ H _ I' h) λus s2 ⟨vs,H2,I2,r,a,C,fI,ws,ev,ea,q,qi,hz,q2⟩=>?_) bX cZ
 subst ev;obtain⟨Dp,sl,ex,h1,a0,h0⟩:=sf I2.az ea;obtain⟨tl,N,nm,qn,bs,hdct,sn,sub,ab,col,dd,k0,k1,k2,k3,k5,mN,hC,hN,hi,T⟩:=Di I2.bC q qi;cases r with
 | @cons _ u _ L6 ru r =>
  obtain rfl:u=Value.ref a:=ru;obtain⟨hh,g,d,tk,os⟩:=s2;have dD:Obj.isFreed { cls:=.ref C,dict:=none,data:=.fields (Dp.setIfInBounds 0 (.ref hh.objs.size)),slots:=sl }=false:=rfl;have sr:((hh.push { cls:=.type "tuple",data:=.seq L6.toArray }).update a (Obj.mapFields (·.setIfInBounds 0 (.ref hh.objs.size)))).get? a=some { cls:=.ref C,dict:=none,data:=.fields (Dp.setIfInBounds 0 (.ref hh.objs.size)),slots:=sl } :=
   Heap.get?_update_self _ (Heap.get?_push_of_some _ ex) dD
  have I3:Inv X pins σ (upd H2 a (dh a C none)) ⟨(hh.push { cls:=.type "tuple",data:=.seq L6.toArray }).update a (Obj.mapFields (·.setIfInBounds 0 (.ref hh.objs.size))),g,d,tk,os⟩:=by
   refine I2.write (x:=a) (e:=a) (t':=tk) (by rw[ea];exact True.intro) (.inl rfl) (λb o hb q=>?_) ⟨_,sr⟩ (wC sr ?_ (a0:=.ref hh.objs.size) ?_)
   ·rw[Heap.get?_update_other _ _ (Ne.symm hb)];exact Heap.get?_push_of_some _ q
   ·rw[Array.getElem?_setIfInBounds_ne (by decide),Array.getElem?_setIfInBounds_ne (by decide),Array.size_setIfInBounds];exact h1
   ·have hz:0<Dp.size:=(Array.getElem?_eq_some_iff.mp h0).1;simp[hz]
  have eH:upd H2 a (dh a C none)=H2:=by
   funext b
   by_cases z:b=a
   ·subst z;rw[aB];exact ea.symm
   ·exact au z
  rw[eH] at I3;exact Ww FB T hC ex h0 (by rw[← r.length];exact hz) ⟨.aG,H2,I3,rfl,q2⟩
end
section
variable{prog:Program}{w:World}{A:Around}{E:Value->Shared->Prop}{s:Shared}{env:Env}
variable{nm q:Str}{C N:Addr}{bs bm c8:List Value}{hdct:Bool}{sn:List Str}{sub:List Value}{ab:Bool}{col:Option Bool}{dd:Option Addr}{k0 k1 k2 k3 k5:Option Value}{B newId eW:String}
noncomputable def Wx(C:Addr)(E:Value->Shared->Prop)(v:Value)(aE:Shared):Prop:=∃(e:Addr) (od:Option Addr) (vs:Array Value) (sl:Array (Option Value)),v = .ref e/\aE.heap.get? e=some { cls:=.ref C,dict:=od,data:=.fields vs,slots:=sl }/\vs[1]? = some .none/\E (.ref e) aE
theorem Wy{x:Str}{np bG pos:Pos}{args:List Expr}{Q:Flow->Shared->Prop}(iX:bm.contains (.type "BaseException")=true)(hh:A.handled=none)(mH:(backTo bG (starEach args env)).any (·.1)=false)
  (h:wpAny (model prog w) A (eval (.Name x np) env) (λf aE=>f = .ref C/\wpAny (model prog w) A (evalArgs (.ref C) true (backTo bG (starEach args env)) [])
   (λa cB=>a.kw = []/\cB.heap.get? C=some (excClassObj nm q C N bs bm hdct sn sub ab col dd k0 k1 k2 k3 k5 newId)/\wpAny (model prog w) A (call (.ref C) a.pos) (λv cH=>cH.heap.get? C=some (excClassObj nm q C N bs bm hdct sn sub ab col dd k0 k1 k2 k3 k5 newId)/\Wx C E v cH) E cB) E aE) E s) :
  wpAny (model prog w) A (exec (.Raise (some (.Call (.Name x np) args [] bG)) none pos) env) Q E s:=by
 rw[arm_exec_Raise];refine wpAny_bind (wpAny_standAt (Wk (C:=C) (nm:=nm) (q:=q) (N:=N) (bs:=bs) (bm:=bm) (hdct:=hdct) (sn:=sn) (sub:=sub) (ab:=ab) (col:=col) (dd:=dd) (k0:=k0) (k1:=k1) (k2:=k2) (k3:=k3) (k5:=k5) (newId:=newId) iX hh (wpAny_bind (wpAny_mono (wpAny_Call_ofName (wpAny_mono h (λf aE cT=>?_) λ_ _ x=>x)) (λv cH jY=>wpAny_bind (wpAny_standAt (wpAny_pure jY))) λ_ _ x=>x))));obtain⟨rfl,cT⟩:=cT;unfold callWith;refine wpAny_bind (wpAny_holding (wpAny_mono cT (λa cB gj=>wpAny_bind (wpAny_standAt ?_)) λ_ _ x=>x));obtain⟨apos,Dq⟩:=a;obtain⟨Dr,hC,gj⟩:=gj;obtain rfl:Dq = []:=Dr;obtain⟨hp,g,d,tk,os⟩:=cB;simp only[mH];refine wpAny_bind (wpAny_keeperOf_exc hC ?_);refine wpAny_bind (wpAny_mono gj (λv cH z=>wpAny_bind (wpAny_holding (wpAny_point (wpAny_pure ?_)))) λ_ _ z=>z);obtain⟨nM,e,od,vs,sl,rfl,he,h1,hE⟩:=z;exact⟨e,od,vs,sl,rfl,nM,he,h1,hE⟩
end
noncomputable def jJ(H:Hp)(a:Addr):Hp:=λb=>if b=a then none else H b
theorem su{H:Hp}{a:Addr}:jJ H a a=none:=by unfold jJ;rw[if_pos rfl]
theorem sy{H:Hp}{a b:Addr}(h:b≠a):jJ H a b=H b:=by unfold jJ;rw[if_neg h]
theorem Inv.drop{X:Cx}{pins:List (Addr×Obj)}{σ:St}{H:Hp}{s:Shared}{a:Addr}{φ:Heap->Prop}(I:Inv X pins σ H s)(e:H a=some (.ext φ)):Inv X pins σ (jJ H a) s:=by
 have ne:∀b v,H b=some v->(∀ψ,v≠.ext ψ)->b≠a:=λb v q n z=>by rw[z,e] at q;exact n φ (Option.some.inj q).symm
 have up:∀b v,H b=some v->(∀ψ,v≠.ext ψ)->jJ H a b=some v:=λb v q n=>by rw[sy (ne b v q n)];exact q
 have un:∀b,H b=none->jJ H a b=none:=λb q=>by
  by_cases z:b=a
  ·rw[z];exact su
  ·rw[sy z];exact q
 refine⟨I.ok,I.os,I.bare,⟨I.base.keep,I.base.slot,λb o q n hx=>un b (I.base.free b o q n hx),I.base.there,λb xs q=>up b _ (I.base.eZ b xs q) (λ_ z=>nomatch z),λb o u q=>up b _ (I.base.d9 b o u q) (λ_ z=>nomatch z),λb ps q=>let ⟨m,z⟩:=I.base.eK b ps q;⟨m,up b _ z (λ_ z=>nomatch z)⟩⟩,
  I.loc,I.cell,un _ I.free,λx c q=>un c (I.fu x c q),λp hp=>let ⟨q1,q2,q3⟩:=I.pin p hp;⟨q1,un _ q2,q3⟩,λb v q=>?_,I.len⟩
 have hb:b≠a:=λz=>by rw[z,su] at q;cases q
 rw[sy hb] at q;exact(I.az b v q).d8 (λ_ _ _ e=>e) (λd e=>up d _ e λ_ z=>nomatch z) λd xs e=>up d _ e λ_ z=>nomatch z
noncomputable def L7(X:Cx)(E:XK):Prop:=∀(pins:List (Addr×Obj)) (σ:St) (H:Hp) (s:Shared) (a C:Addr) (od:Option Addr) (vs:Array Value) (sl:Array (Option Value)) (a0:Value),Inv X pins σ H s->H a=none->X.aK.heap.get? a=none->
 s.heap.get? a=some { cls:=.ref C,dict:=od,data:=.fields vs,slots:=sl }->(vs[1]? = some .none/\vs[2]? = some .none/\4<vs.size)->vs[0]? = some a0->E (.ref C) (od.map (2 * ·)) H->X.xe (.ref a) s
section
variable{P:Program}{w:World}{K:PySem.W.Frag}{mg:Str->Option Value}{base:Heap}{N:List Str}{qual:Str}{scope:Scope}{f:Addr}{cd:Value}{A:Around}{outer:List Env}{aK:Shared}{cF:Hp}{E:XK}
theorem Wz:L7 (fQ (eB P w base) P w K mg base N qual scope f cd A outer aK cF E) E:=by
 intro pins σ H' s' a C od vs sl a0 I na n0 he h1 h0 hE
 show wpAny _ _ (leaving _ _) _ _ _;have fr:s'.heap.FunFrames base (envOfC qual scope aK.heap.objs.size f cd::outer):=I.stack;have free:∀b∈aX (envOfC qual scope aK.heap.objs.size f cd::outer),H' b=none:=λb hb=>by
  rw[Ct] at hb;rcases List.mem_cons.mp hb with rfl | hb
  ·exact I.free
  ·obtain⟨_,o,q,_⟩:=I.ok.dP.mem hb;exact I.base.free b o q (I.ok.fL b hb) (by simp[fQ])
 have n0:aK.heap.get? a=none:=n0;have ba:base.get? a=none:=by
  cases q:base.get? a with
  | none=>rfl
  | some o =>
   have:=(I.ok.bs a o q).1;exact absurd (n0.symm.trans this) (by intro z;cases z)
 have nb:∀b o,base.get? b=some o->b∉a::aX (envOfC qual scope aK.heap.objs.size f cd::outer):=λb o q hm=>by
  rcases List.mem_cons.mp hm with rfl | hm
  ·rw[ba] at q;cases q
  ·have z:=(fr.mem hm).1;rw[q] at z;cases z
 generalize hB:PySem.W.hideAll s'.heap (a::aX (envOfC qual scope aK.heap.objs.size f cd::outer))=B;have kB:∀b o,B.get? b=some o->s'.heap.get? b=some o:=λb o q=>by rw[← hB] at q;exact PySem.W.of_hideAll _ q
 have kA:∀b o,s'.heap.get? b=some o->b≠a->b∉aX (envOfC qual scope aK.heap.objs.size f cd::outer)->B.get? b=some o:=λb o q z hb=>by
  rw[← hB];exact PySem.W.hideAll_get _ q λhm=>(List.mem_cons.mp hm).elim z hb
 have st:base.StaysIn B:=λb o q=>by rw[← hB];exact PySem.W.hideAll_get _ (I.bk b o q) (nb b o q)
 have Ba:B.get? a=none:=by rw[← hB];exact PySem.W.hideAll_none _ (.head _)
 refine T6 (s:=s') (e:=a) (base:=B) (a0:=a0) I.ok.frames rfl kB (by rw[← hB];exact PySem.W.funFrames_hide fr λenv he b hb=>.tail _ (List.mem_filterMap.mpr ⟨env,he,hb⟩)) he Ba rfl h1.1 h0 (od:=od.map (2 * ·)) ⟨_,he,by cases od <;> simp,λ_ _ _=>h1.2.1⟩ λh' cC up hd=>?_
 have g9:Un (aX outer) [] cF H' aK.heap s'.heap:=I.base;have nl:∀b o,aK.heap.get? b=some o->b∉aX outer->b∉aX (envOfC qual scope aK.heap.objs.size f cd::outer):=λb o q n z=>by
  rw[Ct] at z;rcases List.mem_cons.mp z with e | z
  ·exact absurd (Heap.lt_size q) (by rw[e];exact Nat.lt_irrefl _)
  ·exact n z
 have L8:∀b o,aK.heap.get? b=some o->b≠a:=λb o q z=>by rw[z,n0] at q;cases q
 have k1:∀b o,aK.heap.get? b=some o->cF b=none->b∉aX outer->B.get? b=some o:=λb o q n hb=>kA b o (g9.keep b o q n hb (by simp)) (L8 b o q) (nl b o q hb)
 have k3:∀b o,aK.heap.get? b=some o->b∉aX outer->∃o',B.get? b=some o':=λb o q hb =>
  let ⟨o1,q1⟩:=g9.there b o q (by simp);⟨o1,kA b o1 q1 (L8 b o q) (nl b o q hb)⟩
 have k2:∀b u,H' b=some u->∃o,B.get? b=some o:=λb u e =>
  let ⟨o,q⟩:=I.az.there e;⟨o,kA b o q (λz=>by rw[z,na] at e;cases e) λhm=>by rw[free b hm] at e;cases e⟩
 have slt:∀b o,aK.heap.get? b=some o->cF b=none->b∈aX outer->∃sl,h'.get? b=some { o with slots:=sl }:=λb o q n hb=>by
  obtain⟨sl,q1⟩:=g9.slot b o q n hb (by simp)
  obtain⟨_,o2,q2,nf⟩:=I.ok.dP.mem hb;have q2:aK.heap.get? b=some o2:=q2;rw[q] at q2;cases q2;obtain⟨rD,q3⟩:=up b _ q1 nf;exact⟨rD,q3⟩
 refine⟨a,C,a0,H',B,od.map (2 * ·),rfl,I.os,I.bare,⟨λb o q n hb _=>cC.1 _ _ (k1 b o q n hb),λb o q n hb _=>slt b o q n hb,g9.free,λb o q _=>?_,g9.eZ,g9.d9,g9.eK⟩,λb v e=>?_,na,n0,⟨st,k1,k2,k3⟩,cC,hd,hE⟩
 ·by_cases hb:b∈aX outer
  ·obtain⟨sl,q1⟩:=slt b o q (I.ok.fL b hb) hb;exact⟨_,q1⟩
  ·obtain⟨o',q1⟩:=k3 b o q hb;exact⟨o',cC.1 _ _ q1⟩
 ·refine(I.az b v e).d8 (λd z hd q=>?_) (λ_ q=>q) λ_ _ q=>q;have tr:∃v',H' d=some v':=by
   rcases hd with rfl | hd
   ·exact⟨_,e⟩
   ·exact⟨_,hd⟩
  obtain⟨v',e'⟩:=tr;obtain⟨o,q1⟩:=k2 d v' e';have:=kB d o q1;rw[q] at this;cases this;exact cC.1 _ _ q1
end
noncomputable def nN(C:Addr)(names:List Str):Sp:=λws H Q _=>∃a vs,ws = .ref a::vs/\vs.length=names.length/\H a=some (dh a C none)/\∀d,H d=none->Q .aG (upd (upd H a (dh a C (some d))) d (dF d (names.zip vs)))
structure wD(K:PySem.W.Frag)(C fI:Addr)(bm:List Value)(newId:String):Prop where
 ok:ki K C bm newId=true
 wF:se K C fI=true
 fn:PySem.W.typeIn K (.ref fI)=some (.type "function")
noncomputable def Ds(C:Addr)(names:List Str)(aV:List V)(E:XK)(t:TA):TS:=λ_ σ H=>t σ H λvs H1=>vs.length<=sizeLine/\(vs++aV).length=names.length/\∀d,H1 d=none->E (.ref C) (some (2*d)) (upd H1 d (dF d (names.zip (vs++aV))))
section
variable{X:Cx}{E:XK}{x:Str}{C fI:Addr}{bm:List Value}{newId eW B:String}{np bG pos:Pos}{fc:Expr}{rest:List Expr}{t:TA}{k:Nat}{fd:FuncData}{ps names:List Str}{aV:List V}{ds:List Value}
theorem WA(hx:L7 X E)(hg:Gl X x)(hm:X.mg x=some (.ref C))(q:wD X.K C fI bm newId)(FB:ExcBaseFacts B newId eW bm)(hc:X.calm=true)(hex:X.ex = [])(F:aU X.prog X.w X.K X.mg X.base br k fI fd ps (nN C names))(hr:bR (k+1) X.A)(hb:Binds X.K fd ps ds)(hd:Vals aV ds)
  (ha:PA X (fc::rest) t) (he:starEach (fc::rest) X.env=(false,eval fc X.env)::starEach rest X.env:=by rfl) (cZ:(backTo bG (starEach rest X.env)).any (·.1)=false:=by rfl) (c_:(x == ("__debug__" : Str))=false:=by rfl) :
  PS X (.Raise (some (.Call (.Name x np) (fc::rest) [] bG)) none pos) (Ds C names aV E t):=by
 intro pins s σ H D I h;obtain⟨tl,N,nm,qn,bs,hdct,sn,sub,ab,col,dd,k0,k1,k2,k3,k5,mN,hC,hN,hi,T⟩:=Di I.mod.ig q.ok q.wF;refine Wy (C:=C) (nm:=nm) (q:=qn) (N:=N) (bs:=bs) (bm:=tl) (hdct:=hdct) (sn:=sn) (sub:=sub) (ab:=ab) (col:=col) (dd:=dd) (k0:=k0) (k1:=k1) (k2:=k2) (k3:=k3) (k5:=k5) (newId:=newId)
  (T.hasType FB.hasBase) (I.ok.hd hc) (by rw[he];show (false || (backTo bG (starEach rest X.env)).any (·.1))=false;rw[cZ];rfl) (iR I hg hm ⟨rfl,?_⟩ c_)
 have hA:=ha bG pins s σ H _ I h;rw[he] at hA ⊢;refine Calls.evalArgs_plain (wpAny_mono hA (λus cB gj=>?_) λ_ _ y=>y);obtain⟨vs,H1,J,r,hl,hn,hE⟩:=gj;refine⟨rfl,J.bk _ _ hC,?_⟩
 show wpAny _ _ (call (.ref C) us) _ _ cB;obtain⟨oI,Du,nK⟩:∃oI,cB.heap.get? fI=some oI/\oI.cls = .type "function" := by
  obtain⟨o,ho,e⟩:=Option.map_eq_some_iff.mp q.fn;exact⟨o,J.bC _ _ ho,e⟩
 have Dv:=λ(b:Addr) (z:cB.heap.get? b=none)=>(show H1 b=none from by
  cases e:H1 b with
  | none=>rfl
  | some v=>obtain⟨o,q⟩:=J.az.there e;rw[z] at q;cases q)
 obtain⟨hp,g,dr,tk,os⟩:=cB;refine LQ FB (T.keeps J.bk) (J.bk _ _ hC) (hN.keeps J.bk) hi Du nK (λh' a mx=>?_) (by rw[← r.length];exact hl)
 have na:H1 a=none:=Dv a mx.new;obtain⟨tp,Dw,WB,WC⟩:=mx.there;have old:∀b o,hp.get? b=some o->b≠a:=λb o q z=>by rw[z,mx.new] at q;cases q
 obtain⟨m,⟨oL,_,_,jt,_⟩,_⟩:=id J.loc;have sH:X.aK.heap.get? a=none:=by
  cases q:X.aK.heap.get? a with
  | none=>rfl
  | some o =>
   obtain⟨o1,q1⟩:=J.base.there a o q (by rw[hex];simp)
   exact absurd rfl (old a o1 q1)
 have I2:Inv X pins σ H1 ⟨h',g,dr,tk,os⟩:=J.kept (t':=tk) mx.keeps;have I3:Inv X pins σ (upd H1 a (dh a C none)) ⟨h',g,dr,tk,os⟩:=I2.Dj na sH (Ne.symm (old _ _ jt)) (λy c e=>by obtain⟨v,o,q,_⟩:=J.cell y c e;exact old _ _ q) (λp hp=>old _ _ (J.pin p hp).1) (wC Dw ⟨rfl,rfl,(show (4:Nat)<6 by decide)⟩ (a0:=.ref tp) rfl)
 have r2:Vals (V.ref a::(vs++aV)) (Value.ref a::(us++ds)):=.cons rfl (r.append hd);have hq:nN C names (V.ref a::(vs++aV)) (upd H1 a (dh a C none)) (λv H2=>v = .aG/\∃d,H1 d=none/\d≠a/\H2=upd (upd (upd H1 a (dh a C none)) a (dh a C (some d))) d (dF d (names.zip (vs++aV)))) E0 :=
  ⟨a,_,rfl,hn,aB,λd nd=>⟨rfl,d,(by
   by_cases z:d=a
   ·rw[z,aB] at nd;cases nd
   ·rw[au z] at nd;exact nd),(λz=>by rw[z,aB] at nd;cases nd),rfl⟩⟩
 refine wpAny_call (codeAny_mono (F.run _ X.stack _ _ ⟨Value.ref a::us,[]⟩ (Value.ref a::(us++ds)) _ _ E0 (hr.make C us []) (I3.oU.make C us []) (hb _ (Value.ref a::us) I3.bC (r2.length.symm.trans (F.len _ _ _ _ hq))) r2 hq) λr s' b_=>?_)
 match r,b_ with
 | .error e,b_=>exact False.elim b_
 | .ok .next,b_=>exact False.elim b_
 | .ok .brk,b_=>exact False.elim b_
 | .ok .cont,b_=>exact False.elim b_
 | .ok (.ret u),b_ =>
  obtain⟨v,H',I4,rv,ev,d,nd,da,eH⟩:=I3.after b_;subst ev;have ea:H' a=some (dh a C (some d)):=by rw[eH,au (Ne.symm da),aB]
  obtain⟨ws,sl,gx,g1,a0,g0⟩:=sf I4.az ea;refine⟨rv,I4.bk _ _ hC,a,some d,ws,sl,rfl,gx,g1.1,hx pins σ (jJ H' a) s' a C (some d) ws sl a0 (I4.drop ea) su sH gx g1 g0 ?_⟩;have:jJ H' a=upd H1 d (dF d (names.zip (vs++aV))):=by
   funext b
   by_cases z:b=a
   ·subst z;rw[su,au (Ne.symm da)];exact na.symm
   ·rw[sy z,eH];by_cases y:b=d
    ·subst y;rw[aB,aB]
    ·rw[au y,au y,au z,au z]
  rw[this];exact hE d nd
end
structure WD(K:PySem.W.Frag)(C:Addr):Prop where
 g:nA K C
 hd:PySem.W.hasDictIn K C=true
noncomputable def Dy(K:PySem.W.Frag)(ta:TE)(f:Str):TE:=λσ H Q=>ta σ H λx H1=>∃a C k d fs v,x = .ref a/\H1 a=some (dZ a C (some k))/\k / 2=d/\H1 d=some (dF d fs)/\WD K C/\bM K C f/\fs.lookup f=some v/\Q v H1
section
variable{X:Cx}{e:Expr}{f:Str}{pos:Pos}{ta:TE}
theorem L_{P:Program}{w:World}{H:Hp}{h:Heap}{a C k:Addr}(ok:bQ P w H h)(e:H a=some (dZ a C (some k))):∃o,h.get? a=some o/\o.cls = .ref C/\o.dict=some (k / 2)/\∃vs,o.data = .fields vs/\(k % 2=0->vs[2]? = some .none):=by
 obtain⟨z,_,_⟩:=(show bW P w H h a (dZ a C (some k)) from ok a _ e);exact z
theorem sL(he:PE X e ta)(hb:attributeBase e f X.env (eval e X.env)=eval e X.env):PE X (.Attribute e f pos) (Dy X.K ta f):=by
 intro pins s σ H Q I h;refine IQ hb (aN (he pins s σ H _ I h) λu s1 ⟨x,H1,I1,rx,a,C,k,d,fs,v,ex,ea,WE,ed,c,n,l,q⟩=>?_);subst ex;obtain rfl:u=Value.ref a:=rx;obtain⟨o,h1,h2,h3,vs,h4,_⟩:=L_ I1.az ea;rw[WE] at h3;obtain⟨mA,hn,r⟩:=LX I1.az ed;obtain⟨v',hv,rv⟩:=dO.some_of (v:=v) (o:=mA f) (by rw[← l];exact r f)
 obtain⟨od,ho,hl⟩:=II hn;unfold getAttr;refine wpAny_bind (wpAny_mkText ?_);have T:PySem.W.Looks (model X.prog X.w) s1.heap (typeOf (.ref a)) (.ref C):=CF h1 h2;have L:=PySem.W.looks_find (M:=model X.prog X.w) (x:=a) (name:=f) I1.bC (C:=C) (ox:=o) (od:=some od) ⟨h1,h2,by unfold PySem.W.notCls;rw[h4],by rw[h3];exact ho⟩ (PySem.W.findObj_own c.hd n rfl (by rw[hl,hv]))
 refine KN (s:={ s1 with toks:=s1.toks+1 }) I1.bC T c.g λA=>?_
 refine Ui (s:={ s1 with toks:=s1.toks+1 }) (Q:=λv s'=>PySem.W.handedIn v=true/\EP X pins σ Q v s') T L ⟨IP rv,⟨v,H1,I1.tok _,rv,q⟩⟩
end
section
variable{M:Model}{A:Around}{E:Value->Shared->Prop}{s:Shared}{B:Heap}{env:Env}{l outer:List Env}{L a:Addr}{cls a0 fl:Value}{od:Option Addr}{Q:Unit->Shared->Prop}
theorem WG(dD:A.frames=some (env::outer))(hl:s.heap.FunFrames B (env::outer))(hf:env.frame=some L)(ht:s.heap.TracedAtW B a cls a0 fl)(lB:B.StaysIn s.heap)(kh:B.get? a=none)
  (h:∀h',Heap.LeftW B (env::outer) a cls a0 s.heap h'->Q () { s with heap:=h' }):wpAny M A (leaving env (.ref a)) Q E s:=by
 by_cases kg:fl=rawInt L
 ·subst kg;unfold leaving;refine wpAny_bind (wpAny_noteFrame_againW hf ht (wpAny_setFlight_noneW lB hl ht λh' k1 k2 k3 k4=>h h' ⟨k1,k2,k3,λb o hb hn=>⟨o.slots,k4 b o hb hn⟩⟩))
 ·obtain⟨oe,vs,T,oT,ts,he,⟨rfl,h0⟩,hd,h1,jf,jg,hT,eY,h3⟩:=ht;have nT:∀b o,s.heap.get? b=some o->(∀ws,o.data≠.fields ws)->b≠T:=λb o q n z=>by
   rw[z,hT] at q;cases q;exact n ts eY
  have ot:∀b,b≠T->(s.heap.update T (Obj.mapFields (·.setIfInBounds 3 Value.none))).get? b=s.heap.get? b:=λb z=>Heap.get?_update_other _ _ (Ne.symm z);have kb:B.StaysIn (s.heap.update T (Obj.mapFields (·.setIfInBounds 3 Value.none))):=λb o q=>(ot b (λz=>by rw[z,jf] at q;cases q)).trans (lB b o q)
  have kf:(s.heap.update T (Obj.mapFields (·.setIfInBounds 3 Value.none))).FunFrames B (env::outer):=hl.of_keeps λb o q n=>⟨o,(ot b (nT b o q n)).trans q,rfl⟩;unfold leaving noteFrame;simp only[hf];refine wpAny_bind (wpAny_bind (wpAny_field he hd h1 ?_));rw[if_pos (show (Value.ref T != Value.none)=true by simp)]
  refine wpAny_bind (wpAny_field hT eY h3 ?_);rw[if_neg (show ¬ ((fl == rawInt L)=true) by simpa using kg)]
  refine wpAny_bind (wpAny_setField hT eY (Array.getElem?_eq_some_iff.mp h3).1 ?_);exact wpAny_newEntryW dD kf hf ((ot a (Ne.symm jg)).trans he) kb kh hd (Array.getElem?_eq_some_iff.mp h1).1 h0 λh' x=>h h' ⟨x.1,x.2.1,x.2.2.1,λb o q n=>x.2.2.2 b o ((ot b (nT b o q n)).trans q) n⟩
theorem Ma(hl:s.heap.FunFrames B l)(ht:s.heap.TracedAtW B a cls a0 fl)(lB:B.StaysIn s.heap)(f:Option Addr)
  (h:∀h' sM,B.StaysIn h'->h'.FunFrames B l->h'.TracedAtW B a cls a0 sM->s.heap.UpToSlots h'->Q () { s with heap:=h' }):wpAny M A (setFlight (.ref a) f) Q E s:=by
 obtain⟨oe,vs,T,oT,ts,he,hc,hd,h1,jf,jg,hT,eY,h3⟩:=ht;have Mb:3<ts.size:=(Array.getElem?_eq_some_iff.mp h3).1;have nT:∀b o,s.heap.get? b=some o->(∀ws,o.data≠.fields ws)->b≠T:=λb o q n z=>by
  rw[z,hT] at q;cases q;exact n ts eY
 have ot:∀b,b≠T->(s.heap.update T (Obj.mapFields (·.setIfInBounds 3 (f.elim Value.none λf=>rawInt f)))).get? b=s.heap.get? b:=λb z=>Heap.get?_update_other _ _ (Ne.symm z);unfold setFlight;refine wpAny_bind (wpAny_field he hd h1 ?_);rw[if_pos (show (Value.ref T != Value.none)=true by simp)]
 refine wpAny_setField hT eY Mb (h _ (f.elim Value.none λf=>rawInt f) (λb o q=>(ot b (λz=>by rw[z,jf] at q;cases q)).trans (lB b o q)) (hl.of_keeps λb o q n=>⟨o,(ot b (nT b o q n)).trans q,rfl⟩) ?_ λb o q n=>⟨o.slots,(ot b (nT b o q n)).trans q⟩)
 exact⟨oe,vs,T,_,_,(ot a (Ne.symm jg)).trans he,hc,hd,h1,jf,jg,Heap.get?_update_self _ hT (Obj.isFreed_of_fields (Obj.data_mapFields eY _)),Obj.data_mapFields eY _,by simp[Mb]⟩
noncomputable def dj(B:Heap)(l:List Env)(a:Addr)(cls a0:Value)(h:Heap):Prop:=B.StaysIn h/\B.get? a=none/\h.FunFrames B l/\∃fl,h.TracedAtW B a cls a0 fl
theorem dj.there{h:Heap}(x:dj B l a cls a0 h):∃o,h.get? a=some o:=let ⟨_,_,_,_,t⟩:=x;let ⟨o,q,_⟩:=t.there;⟨o,q⟩
theorem dj.WH{h:Heap}(x:Heap.HeldW B l a cls a0 L h):dj B l a cls a0 h:=⟨x.1,x.2.1,x.2.2.1,_,x.2.2.2⟩
theorem WI(dD:A.frames=some (env::outer))(hf:env.frame=some L)(x:dj B (env::outer) a cls a0 s.heap)(hd:cI s.heap a od)
  (hQ:∀h',Heap.FlyingW B outer a cls a0 h'->s.heap.UpToSlots h'->cI h' a od->Q () { s with heap:=h' }):wpAny M A (leaving env (.ref a)) Q E s:=by
 obtain⟨x1,x2,x3,fl,x4⟩:=x;refine wpAny_mono ((Cr env (.ref a)).any (WG (E:=E) (Q:=λ_ s2=>∃h',Heap.LeftW B (env::outer) a cls a0 s.heap h'/\s2 = { s with heap:=h' }) dD x3 hf x4 x1 x2 λh' z=>⟨h',z,rfl⟩)) (λu s2 z=>?_) λ_ _ z=>z.1;obtain⟨⟨h',⟨k1,⟨_,_,k2⟩,k3,k4⟩,rfl⟩,k⟩:=z;have fl:Heap.FlyingW B outer a cls a0 h':=⟨k1,x2,k2,k3⟩;obtain⟨o,q,_⟩:=fl.there;exact hQ h' fl k4 (hd.dk k ⟨o,q⟩)
theorem Mc{α:Type}{wB:String}{R:α->Shared->Prop}(x:dj B l a cls a0 s.heap)(hd:cI s.heap a od)
  (hQ:∀h',dj B l a cls a0 h'->s.heap.UpToSlots h'->cI h' a od->E (.ref a) { s with heap:=h' }):wpAny M A (PySem.passOn wB (.ref a) env:Sem α) R E s:=by
 obtain⟨x1,x2,x3,fl,x4⟩:=x;obtain⟨oe,vs,T,oT,ts,he,hc,i_,h1,_⟩:=id x4;unfold PySem.passOn;refine wpAny_bind (wpAny_field he i_ h1 ?_);rw[if_neg (show ¬ ((Value.ref T == Value.none)=true) by simp)]
 refine wpAny_bind (wpAny_mono ((rB (.ref a) env.frame).any (Ma (E:=E) (Q:=λ_ s2=>∃h',dj B l a cls a0 h'/\s.heap.UpToSlots h'/\s2 = { s with heap:=h' }) x3 x4 x1 env.frame λh' sM k1 k2 k3 k4=>⟨h',⟨k1,x2,k2,sM,k3⟩,k4,rfl⟩)) (λu s2 z=>?_) λ_ _ z=>z.1);obtain⟨⟨h',y1,y2,rfl⟩,k⟩:=z;exact wpAny_throw (hQ h' y1 y2 (hd.dk k y1.there))
theorem Me{B' h:Heap}(k:∀b,B.get? b=none->B'.get? b=none):∀ {l:List Env},h.FunFrames B l->h.FunFrames B' l
 | [],_=>trivial
 | _::_,⟨h1,⟨L,o,h2,h3,h4⟩,h5⟩=>⟨h1,⟨L,o,h2,k L h3,h4⟩,Me k h5⟩
theorem dj.but{C:Addr}{h h':Heap}{m:Str->Option Value}(x:dj B l a cls a0 h)(hn:h.Ns C m)(sb:Heap.SameBut C h h')(hC:C∉aX l):dj (PySem.W.hideAll B [C]) l a cls a0 h':=by
 obtain⟨x1,x2,x3,fl,oe,vs,T,oT,ts,he,hc,hd,h1,jf,jg,hT,eY,h3⟩:=x;obtain⟨oc,es,ep,ec,dc,_⟩:=hn;have nC:∀ {b:Addr} {o:Obj} {ws:Array Value},h.get? b=some o->o.data = .fields ws->b≠C:=λq d z=>by rw[z,ec] at q;cases q;rw[dc] at d;cases d
 have less:∀b,B.get? b=none->(PySem.W.hideAll B [C]).get? b=none:=λb q=>by
  cases e:(PySem.W.hideAll B [C]).get? b with
  | none=>rfl
  | some o=>rw[PySem.W.of_hideAll _ e] at q;cases q
 refine⟨λb o q=>?_,less _ x2,?_,fl,oe,vs,T,oT,ts,(sb.2 a (nC he hd)).trans he,hc,hd,h1,less _ jf,jg,(sb.2 T (nC hT eY)).trans hT,eY,h3⟩
 ·have hb:b≠C:=λz=>by rw[z,PySem.W.hideAll_none _ (.head _)] at q;cases q
  exact(sb.2 b hb).trans (x1 b o (PySem.W.of_hideAll _ q))
 ·have:∀ {l:List Env},C∉aX l->h.FunFrames B l->h'.FunFrames B l:=by
   intro l
   induction l with
   | nil=>exact λ_ _=>trivial
   | cons e l ih =>
    rintro n ⟨g1,⟨L,o,g2,g3,g4,g5⟩,g6⟩;have n2:L≠C/\C∉aX l:=by
     constructor
     ·intro z;refine n (List.mem_filterMap.mpr ⟨e,.head _,by rw[g2,z]⟩)
     ·intro z;obtain⟨e',e_,q⟩:=List.mem_filterMap.mp z;exact n (List.mem_filterMap.mpr ⟨e',.tail _ e_,q⟩)
    exact⟨g1,⟨L,o,g2,g3,(sb.2 L n2.1).trans g4,g5⟩,ih n2.2 g6⟩
  exact Me less (this hC x3)
end
structure nO(X:Cx)(E:XK)(a C:Addr)(a0:Value)(H':Hp)(B:Heap)(od:Option Addr)(s':Shared):Prop where
 os:s'.os=X.aK.os
 bare:AllBare s'.gens
 un:Un (aX X.outer) [] X.cF H' X.aK.heap s'.heap
 az:bQ X.prog X.w H' s'.heap
 na:H' a=none
 n0:X.aK.heap.get? a=none
 cut:Cut X.base B X.outer X.cF H' X.aK.heap
 Dz:dj B X.stack a (.ref C) a0 s'.heap
 hd:cI s'.heap a od
 e:E (.ref C) od H'
noncomputable def wG(X:Cx)(E:XK):Prop:=∀a C a0 H' B od s',X.Ok->nO X E a C a0 H' B od s'->X.xe (.ref a) s'
theorem nO.move{X:Cx}{E:XK}{a C:Addr}{a0:Value}{H':Hp}{B h':Heap}{od:Option Addr}{s':Shared}(x:nO X E a C a0 H' B od s')(ok:X.Ok)(hl:dj B X.stack a (.ref C) a0 h')(up:s'.heap.UpToSlots h')(hd:cI h' a od):nO X E a C a0 H' B od { s' with heap:=h' } :=
 ⟨x.os,x.bare,rE x.un x.cut hl.1 up (λb hb=>⟨ok.fL b hb,λo q=>by
  obtain⟨_,o2,q2,nf⟩:=ok.dP.mem hb;rw[q] at q2;cases q2;exact nf⟩),rF x.az x.cut x.Dz.1 hl.1,x.na,x.n0,x.cut,hl,hd,x.e⟩
theorem Mf{P:Program}{w:World}{K:PySem.W.Frag}{mg:Str->Option Value}{base:Heap}{N:List Str}{qual:Str}{scope:Scope}{f:Addr}{cd:Value}{A:Around}{outer:List Env}{aK:Shared}{cF:Hp}{E:XK} :
  wG (fQ (eB P w base) P w K mg base N qual scope f cd A outer aK cF E) E:=by
 intro a C a0 H' B od s' ok x
 show wpAny _ _ (leaving _ _) _ _ _;refine WI ok.frames rfl x.Dz x.hd λh' fl up hd=>?_;have ff:∀b∈aX outer,cF b=none/\∀o,aK.heap.get? b=some o->∀vs,o.data≠.fields vs:=λb hb=>⟨ok.fL b hb,λo q=>by
  obtain⟨_,o2,q2,nf⟩:=ok.dP.mem hb;have q2:aK.heap.get? b=some o2:=q2;rw[q] at q2;cases q2;exact nf⟩
 exact⟨a,C,a0,H',B,od,rfl,x.os,x.bare,rE x.un x.cut fl.1 up ff,rF x.az x.cut x.Dz.1 fl.1,x.na,x.n0,x.cut,fl,hd,x.e⟩
section
variable{prog:Program}{w:World}{A:Around}{R:Result->Shared->Prop}{s:Shared}
theorem WJ{elt target iter:Expr}{ifs:List Expr}{scope:Scope}{pos:Pos}{it acc:Value}{env:Env}(I:Nat->Shared->Prop)(EX:Value->Shared->Prop)
  (turn:∀n s,I n s->wpAny (model prog w) A (pyNext it) (λr aE=>match r with
   | none=>R (.ok .next) aE
   | some v=>wpAny (model prog w) A (letOwnedTupleGo target it v) (λ_ qV=>wpAny (model prog w) A (assign target env v) (λ_ cB =>
     wpAny (model prog w) A (forIn ifs true λc r=>if r=true then do let ok ← isTrue c env (eval c env);pure (ForInStep.yield ok) else pure (ForInStep.yield r)) (λok cH =>
      if ok=true then wpAny (model prog w) A (eval elt env) (λx i6 =>
       wpAny (model prog w) A (call (.builtin "list.append") [acc,x]) (λ_ qW=>∃m,m<n/\I m qW) (λ_ _=>False) i6) EX cH
      else ∃m,m<n/\I m cH) (λ_ _=>False) cB) (λ_ _=>False) qV) (λ_ _=>False) aE) (λ_ _=>False) s)
  (hX:∀x s',EX x s'->notedBy (model prog w) A env (λe s'=>R (.error e) s') x s') (n:Nat) (h:I n s):codeAny (model prog w) A (.compLoop (.ListComp elt [⟨target,iter,ifs,0⟩] scope pos) 0 it acc env) R s:=by
 refine codeAny_loop rfl I (λn s hI=>?_) n h
 show wpAny _ A ((compTurn (.ListComp elt [⟨target,iter,ifs,0⟩] scope pos) 0 it acc env).onRaise (λx=>do noteFrame x env;theTreesLotGoes x)) _ _ s
 refine wpAny_noted ?_;rw[compTurn_list];refine wpAny_bind (wpAny_standAt (wpAny_bind (wpAny_mono (turn n s hI) (λr aE cT=>?_) λ_ _ h'=>h'.elim)));cases r with
 | none=>exact wpAny_pure cT
 | some v =>
  refine wpAny_bind (wpAny_mono cT (λ_ qV BZ=>?_) λ_ _ h'=>h'.elim);refine wpAny_bind (wpAny_mono BZ (λ_ cB gj=>wpAny_bind (wpAny_mono gj (λok cH jY=>?_) λ_ _ h'=>h'.elim)) λ_ _ h'=>h'.elim);cases ok with
  | false=>exact wpAny_pure ⟨rfl,jY⟩
  | true =>
   exact wpAny_bind (wpAny_bind (wpAny_mono jY (λx i6 B0=>wpAny_bind (wpAny_mono B0 (λ_ qW B3=>wpAny_pure (wpAny_pure ⟨rfl,B3⟩)) λ_ _ h'=>h'.elim)) λx s' h'=>hX x s' h'))
end
section
variable{X:Cx}{tg iter elt:Expr}{ifs:List Expr}{scope:Scope}{cl:List (Str×Addr)}{N:List Str}{nt:Nat}{fv:List Nat}{pos:Pos}{wi:TI}{g:TG}{tt:TT}{te:TE}
theorem WK{pins:List (Addr×Obj)}{σ:St}{s2:Shared}{H2:Hp}{it:Addr}{fp:List Addr}{tn:Nat->Heap->Prop}{J:It}{Q:VK}{RR:Value->Addr->Result->Shared->Prop}{E:Value->Shared->Prop}{EE:XK}
  (S:dX X scope cl N nt fv) (hc:X.calm=true)
  (hg:∀C s H fp,PG (cL X scope cl N C s H fp) tg g) (ht:∀C s H fp,k9 (cL X scope cl N C s H fp) ifs tt) (he:∀C s H fp,nv (cL X scope cl N C s H fp) EE elt te)
  (I2:Inv X pins σ H2 s2) (T:Turn X.prog X.w X.K tg J fp it tn) (gX:tn 0 s2.heap) (f2:∀b∈fp,iz X pins H2 b)
  (hq:∀D,H2 D=none->∃W:Nat->Nat->List V->St->Hp->Prop,
   (∃m,W 0 m [] (gH σ nt fv) (upd H2 D (.lst [])))/\∀i m ys aD H2,W i m ys aD H2->H2 D=some (.lst ys)/\ys.length<sizeLine/\
    ((J.stop i H2/\Q (.ref D) H2)\/(J.go i H2/\∀x H3,J.jx i H2 x H3->g x aD H3 λbU H4=>tt bU H4 λb H5=>if b=true then te bU H5 λv H6=>H6 D=some (.lst ys)/\∃m',m' < m/\W (i+1) m' (ys++[v]) bU (upd H6 D (.lst (ys++[v])))
     else ∃m',m' < m/\W (i+1) m' ys bU H5)))
  (B6:∀(D C:Addr) (s':Shared) (H':Hp) (m':Str->Option Value),Inv X pins σ H' s'->s'.heap.Ns C m'->s2.heap.objs.size<=C->H' C=none->Q (.ref D) H'->RR (.ref D) C (.ok .next) s')
  (WL:∀(D C:Addr) (x:Value) (s1 s':Shared) (H1:Hp) (m':Str->Option Value),Inv X pins σ H1 s1->s1.heap.Ns C m'->s2.heap.objs.size<=C->H1 C=none->eB X.prog X.w X.base X.stack H1 s1 EE x s'->notedBy (model X.prog X.w) X.A (compEnvC scope cl C X.env) (λe s'=>RR (.ref D) C (.error e) s') x s') :
  wpAny (model X.prog X.w) X.A (newList []) (λacc cH=>wpAny (model X.prog X.w) X.A (newFunctionEnv scope X.env.globals cl [] X.env.qual none .none (some X.env)) (λo9 i6 =>
   codeAny (model X.prog X.w) X.A (.compStart (.ListComp elt [⟨tg,iter,ifs,0⟩] scope pos) 0 (.ref it) acc { o9 with scope:=relabel scope X.env }) (RR acc o9.locals) i6) E cH) E s2:=by
 refine wpAny_newObj_type (wpAny_newFunctionEnv S.iC (by intro y hy;simp at hy) (λcT mT j0=>?_) S.kind)
 dsimp only at mT j0 ⊢;generalize mU:s2.heap.push { cls:=.type "list",dict:=none,data:=.seq ([]:List Value).toArray }=HH at mT j0 ⊢;have hC:HH.objs.size=s2.heap.objs.size+1:=by rw[← mU,Heap.size_push]
 have mS:s2.heap.objs.size≠HH.objs.size:=by rw[hC];exact Nat.ne_of_lt (Nat.lt_succ_self _)
 have k_:s2.heap.objs.size<=HH.objs.size:=by rw[hC];exact Nat.le_succ _
 have old:∀b o,s2.heap.get? b=some o->cT.get? b=some o:=λb o e=>by
  have hb:b<s2.heap.objs.size:=Heap.lt_size e;exact j0.extBut b o (by rw[hC];exact Nat.ne_of_lt (Nat.lt_succ_of_lt hb)) (Heap.get?_push_of_some _ (mU▸Heap.get?_push_of_some _ e))
 have gk:cT.get? s2.heap.objs.size=some { cls:=.type "list",data:=.seq #[] }:=j0.extBut _ _ mS (Heap.get?_push_of_some _ (mU▸Heap.get?_push_size _ rfl));have bO:∀b∈fp,b<s2.heap.objs.size:=λb hb=>by
  obtain⟨o,e,_⟩:=T.obj 0 _ gX b hb;exact Heap.lt_size e
 have hD:H2 s2.heap.objs.size=none:=I2.az.fresh (Nat.le_refl _);obtain⟨W,⟨m0,w0⟩,turn⟩:=hq _ hD;have kX:tn 0 cT:=T.keep _ _ _ gX λb _ o e=>old b o e;have I3:=S.inv I2 f2 bO (h1:=cT) (tk:=s2.toks+([]:List (Str×Value)).length) (D:=s2.heap.objs.size) (C:=HH.objs.size) (Nat.le_refl _) k_ mS old gk (by simpa using mT)
 -- what stays true of the iterator's objects
 have nD:∀b∈fp,b≠s2.heap.objs.size:=λb hb=>Nat.ne_of_lt (bO b hb);have iS:∀ {H':Hp},(∀b∈fp,H' b=none)->∀b∈fp,iz (cL X scope cl N HH.objs.size s2 H2 fp) [] H' b:=λ{H'} hn b hb=>by
  have ok:=S.ok I2 f2 bO k_;refine⟨hn b hb,(ok.kK b hb).1,ok.kL b hb,.inl hb,(ok.kK b hb).2,λp hp=>absurd (show p∈([]:List (Addr×Obj)) from hp) (by simp)⟩
 have loop:∀cH:Shared,cH = { s2 with heap:=cT,toks:=s2.toks+([]:List (Str×Value)).length }->
   codeAny (model X.prog X.w) X.A (.compLoop (.ListComp elt [⟨tg,iter,ifs,0⟩] scope pos) 0 (.ref it) (.ref s2.heap.objs.size) (compEnvC scope cl HH.objs.size X.env)) (RR (.ref s2.heap.objs.size) HH.objs.size) cH:=by
  rintro cH rfl;refine WJ (λn s'=>∃i ys aR H',Inv (cL X scope cl N HH.objs.size s2 H2 fp) [] aR H' s'/\tn i s'.heap/\(∀b∈fp,H' b=none)/\W i n ys aR H') (λx s'=>∃pn aR,XP X.prog X.w X.base (cL X scope cl N HH.objs.size s2 H2 fp) pn aR EE x s') ?_ (λx s' hx=>?_) m0
   ⟨0,[],_,_,I3,kX,λb hb=>by rw[au (nD b hb)];exact(f2 b hb).1,w0⟩
  rotate_left
  ·obtain⟨pn,aR,H1,s1,I1,cx⟩:=hx;have I5:Inv X pins σ H1 s1:=I2.kM (ch:=fp) I1.os I1.base I1.az I1.bare λb hb=>⟨(f2 b hb).2.2.2.1,(f2 b hb).2.1,(f2 b hb).2.2.2.2.1,(f2 b hb).2.2.2.2.2⟩;obtain⟨m,hn,_⟩:=I1.loc;exact WL _ _ x s1 s' H1 m I5 hn k_ I1.free cx
  rintro n s3 ⟨i,ys,gh,H3,J3,t3,gY,w3⟩;obtain⟨eD,B7,B8⟩:=turn i n ys gh H3 w3;rcases B8 with⟨stop,qn⟩ | ⟨go,step⟩
  ·refine aN (T.done (cL X scope cl N HH.objs.size s2 H2 fp) rfl rfl rfl hc i [] s3 gh H3 (λ_ _=>False) J3 (iS gY) t3 stop) λr s4 ⟨hr,I4⟩=>?_;subst hr;have I5:Inv X pins σ H3 s4:=I2.kM (ch:=fp) I4.os I4.base I4.az I4.bare λb hb=>⟨(f2 b hb).2.2.2.1,(f2 b hb).2.1,(f2 b hb).2.2.2.2.1,(f2 b hb).2.2.2.2.2⟩;obtain⟨m,hn,_⟩:=I4.loc;exact B6 _ _ s4 H3 m I5 hn k_ I4.free qn
  ·refine aN (T.item (cL X scope cl N HH.objs.size s2 H2 fp) rfl rfl rfl hc i [] s3 gh H3 (λ_ _=>False) J3 (iS gY) t3 go) λr s4 ⟨u,hr,h4⟩=>?_;subst hr;refine aN h4 λ_ s5 ⟨x,H5,I5,r5,y5,iT,qB⟩=>?_;have qC:=I5.pinned (iS qB) (T.obj _ _ iT);refine aN (hg _ _ _ _ _ s5 gh H5 x u _ qC r5 (step x H5 y5)) λ_ s6 ⟨gi,H6,I6,q6⟩=>?_;have qX:∀ {fB:St} {H7:Hp} {s7:Shared},Inv (cL X scope cl N HH.objs.size s2 H2 fp) ([]++oM fp s5.heap) fB H7 s7->tn (i+1) s7.heap/\∀b∈fp,H7 b=none:=λ{fB H7 s7} I7=>by
    refine⟨T.keep _ _ _ iT λb hb o e=>(I7.pin (b,o) (List.mem_append_right _ (List.mem_append_right _ (oN hb e)))).1,λb hb=>?_⟩;obtain⟨o,e,d⟩:=T.obj _ _ iT b hb;exact(I7.pin (b,o) (List.mem_append_right _ (List.mem_append_right _ (oN hb e)))).2.1
   refine aN (ht _ _ _ _ _ s6 gi H6 _ I6 q6) λb s7 ⟨H7,I7,q7⟩=>?_;cases b with
   | false =>
    obtain⟨m',hm,w7⟩:=q7;obtain⟨t7,n7⟩:=qX I7;exact⟨m',hm,i+1,ys,gi,H7,I7.mC,t7,n7,w7⟩
   | true =>
    refine wpAny_mono (he _ _ _ _ _ s7 gi H7 _ I7 q7) (λu8 s8 ⟨v8,H8,I8,r8,B9,m',hm,w8⟩=>?_) λx s' z=>⟨_,_,z⟩;refine aN (jW (X:=cL X scope cl N HH.objs.size s2 H2 fp) _ s8 gi H8 (.ref s2.heap.objs.size) [v8] (.ref s2.heap.objs.size) [u8] (λ_ H9=>∃m',m' < n/\W (i+1) m' (ys++[v8]) gi H9) I8 rfl (.cons r8 .nil)
     ⟨s2.heap.objs.size,ys,v8,rfl,rfl,B9,B7,m',hm,w8⟩) λ_ s9 ⟨_,H9,I9,_,m9,B_,w9⟩=>?_
    obtain⟨t9,n9⟩:=qX I9;exact⟨m9,B_,i+1,ys++[v8],gi,H9,I9.mC,t9,n9,w9⟩
 exact codeAny_compStart_list (loop _ rfl) (T.self _ 0 _ _ _ kX (loop _ rfl))
theorem WM{E:XK}(hp:wG X E)(bX:X.stack=X.env::X.outer)(jK:X.env.frame=some X.env.locals)(hex:X.ex = [])(S:dX X scope cl N nt fv)(hc:X.calm=true)(hi:PI X tg iter wi)
  (hg:∀C s H fp,PG (cL X scope cl N C s H fp) tg g) (ht:∀C s H fp,k9 (cL X scope cl N C s H fp) ifs tt) (he:∀C s H fp,nv (cL X scope cl N C s H fp) E elt te)
  (hs:∀x,foldedSetIterable iter X.env x=pure x:=by intro _;rfl):PE X (.ListComp elt [⟨tg,iter,ifs,0⟩] scope pos) (jZ wi g tt te nt fv):=by
 intro pins s σ H Q I h;rw[eval_ListComp];refine wpAny_comprehension_free (use:=none) rfl hs S.i7 S.kind S.names (aN (hi pins s σ H _ I h) λxv s1 h1=>aN h1 λqw s2 h2=>?_);obtain⟨it,fp,tn,J,H2,rfl,I2,T,gX,f2,hq⟩:=h2;refine WK (EE:=E) (RR:=λacc C=>compPost (model X.prog X.w) X.A X.xe none (EP X pins σ Q) acc C) S hc hg ht he I2 T gX f2 hq (λD C s' H' m' I' hn hC fC q=>?_) λD C x s1 s' H1 m' I1 hn hC fC cx=>?_
 ·refine⟨m',hn,λh' eU=>⟨.ref D,H',?_,rfl,q⟩⟩;have eV:=I2.jQ hC fC;exact I'.turned (t':=s'.toks) (it:=C) (λb o hb e=>eU.extBut b o hb e) fC eV.2.1 eV.2.2.2.1 eV.2.2.2.2.1 eV.2.2.2.2.2
 ·obtain⟨a,C',a0,H',B,od,rfl,ho,DA,u,az,na,nh,c,cC,hd,hE⟩:=cx;have eV:=I2.jQ hC fC;have cS:C∉aX X.stack:=by
   rw[bX];intro z;obtain⟨e,e_,q⟩:=List.mem_filterMap.mp z;rcases List.mem_cons.mp e_ with rfl | e_
   ·rw[jK] at q;exact eV.2.1 (Option.some.inj q).symm
   ·exact eV.2.2.1 (List.mem_filterMap.mpr ⟨e,e_,q⟩)
  show wpAny _ _ (noteFrame (.ref a) X.env) _ _ _;have lC:=cC;rw[bX] at lC;refine Cs (by rw[I1.ok.frames,bX]) jK lC hd λh4 held lD lE=>?_
  rw[← bX] at held;obtain⟨oC,es,ep,eC,dC,rC⟩:=hn;have BC:B.get? C=some oC:=c.k1 C oC eC fC cS;have Mg:h4.Ns C m':=⟨oC,es,ep,held.1 _ _ BC,dC,rC⟩;refine⟨m',Mg,λh' sb o9 acP=>?_⟩;have hl:=(dj.WH held).but Mg sb cS;have c0:X.aK.heap.objs.size<=C:=Nat.le_trans I2.sz hC;have J:=I1.kM ho u az DA (λ_ z=>nomatch z);have JB:Un (aX X.outer) [] X.cF H' X.aK.heap s'.heap:=by have:=J.base;rw[hex] at this;exact this
  have IB:Un (aX X.outer) [] X.cF H1 X.aK.heap s1.heap:=by have:=I1.base;rw[hex] at this;exact this
  have nC:∀b o,X.aK.heap.get? b=some o->b≠C:=λb o q z=>absurd (Heap.lt_size q) (by rw[z];exact Nat.not_lt.mpr c0)
  have oL:∀b∈aX X.stack,b∉aX X.outer->X.aK.heap.objs.size<=b:=λb hb n=>by
   rw[bX] at hb;obtain⟨e,e_,q⟩:=List.mem_filterMap.mp hb;rcases List.mem_cons.mp e_ with rfl | e_
   ·rw[jK] at q;cases q;exact I1.ok.above
   ·exact absurd (List.mem_filterMap.mpr ⟨e,e_,q⟩) n
  have nS:∀b o,X.aK.heap.get? b=some o->b∉aX X.outer->b∉aX X.stack:=λb o q n z=>absurd (Heap.lt_size q) (Nat.not_lt.mpr (oL b z n));have nM:H' C=none:=u.free C oC eC fC (by simp)
  have pQ:Cut X.base (PySem.W.hideAll B [C]) X.outer X.cF H' X.aK.heap:=by
   refine⟨λb o q=>PySem.W.hideAll_get _ (c.stays b o q) ?_,λb o q n hb=>PySem.W.hideAll_get _ (c.k1 b o (IB.keep b o q n hb (by simp)) (IB.free b o q n (by simp)) (nS b o q hb)) ?_,λb v e=>?_,λb o q hb=>?_⟩
   ·simpa using nC b o (I1.ok.bs b o q).1
   ·simpa using nC b o q
   ·obtain⟨o,q⟩:=c.k2 b v e;exact⟨o,PySem.W.hideAll_get _ q (by simpa using λz=>by rw[z,nM] at e;cases e)⟩
   ·obtain⟨o1,q1⟩:=IB.there b o q (by simp)
    obtain⟨o',q'⟩:=c.k3 b o1 q1 (nS b o q hb);exact⟨o',PySem.W.hideAll_get _ q' (by simpa using nC b o q)⟩
  have cJ:cI h' a od:=by
   obtain⟨oe,q,z⟩:=lE;obtain⟨o2,vs,_,_,_,g1,_,g3,_⟩:=held.2.2.2;rw[q] at g1;cases g1;refine⟨oe,(sb.2 a λz=>?_).trans q,z⟩;rw[z,held.1 _ _ BC] at q;cases q;rw[dC] at g3;cases g3
  have WN:=rE u c held.1 lD I1.ff;have J4:=I1.kM (s':={ s' with heap:=h4 }) ho WN (rF az c cC.1 held.1) DA (λ_ z=>nomatch z);have nQ:Un (aX X.outer) [] X.cF H' X.aK.heap h4:=by have:=J4.base;rw[hex] at this;exact this
  have kC:∀b o,X.aK.heap.get? b=some o->∀o',h4.get? b=some o'->h'.get? b=some o':=λb o q o' z=>(sb.2 b (nC b o q)).trans z;have x0:nO X E a C' a0 H' (PySem.W.hideAll B [C]) od { s' with heap:=h' }:=by
   refine⟨J4.os,DA,⟨λb o q n hb hx=>kC b o q o (nQ.keep b o q n hb hx),λb o q n hb hx=>?_,nQ.free,λb o q hx=>?_,nQ.eZ,nQ.d9,nQ.eK⟩,λb v e=>?_,na,?_,pQ,hl,cJ,hE⟩
   ·obtain⟨sl,z⟩:=nQ.slot b o q n hb hx;exact⟨sl,kC b o q _ z⟩
   ·obtain⟨o',z⟩:=nQ.there b o q hx;exact⟨o',kC b o q _ z⟩
   ·refine(J4.az b v e).d8 (λd z hd q=>(sb.2 d ?_).trans q) (λ_ q=>q) λ_ _ q=>q;intro y;rcases hd with y2 | hd
    ·rw[← y2,y] at e;rw[nM] at e;cases e
    ·rw[y,nM] at hd;cases hd
   ·cases q:X.aK.heap.get? a with
    | none=>rfl
    | some o =>
     obtain⟨o1,q1⟩:=IB.there a o q (by simp)
     rw[nh] at q1;cases q1
  exact Mc hl cJ λh5 sN rL lF=>hp a C' a0 H' _ od _ I1.ok (x0.move I1.ok sN rL lF)
end
theorem WO:entryFor table "proto.unchain" = some Builtin.«proto.unchain» := entryFor_of_tree (by kernel_rfl)
theorem WQ:plainId "proto.unchain" = true:=by decide +kernel
section
variable{prog:Program}{w:World}{A:Around}{E:Value->Shared->Prop}{s:Shared}{env:Env}
theorem WR{v:Value}{b:Addr}{ob:Obj}{ws:Array Value}{Q:Value->Shared->Prop}(hb:s.heap.get? b=some ob)(hd:ob.data = .fields ws)(h2:ws[2]? = some .none)(h:Q .none s) :
  wpAny (model prog w) A (runValue (.builtin "proto.unchain" ⟨[v,.ref b,.ref b,.bool false],[]⟩)) Q E s:=by
 refine wpAny_runValue (codeAny_builtin WO ?_);rw[Around.under_plainId WQ _];unfold Builtin.«proto.unchain»;dsimp only;refine wpAny_bind (wpAny_field hb hd h2 ?_);rw[if_pos (show (Value.none == Value.none)=true from rfl)]
 show wpAny _ _ (ret Value.none) _ _ _;exact wpAny_pure h
variable{nm q:Str}{C N:Addr}{bs bm c8:List Value}{hdct:Bool}{sn:List Str}{sub:List Value}{ab:Bool}{col:Option Bool}{dd:Option Addr}{k0 k1 k2 k3 k5:Option Value}{B newId eW:String}
theorem WS{x c:Sem Value}{b:Addr}{Q:Flow->Shared->Prop}(iX:bm.contains (.type "BaseException")=true)(hh:A.handled=some (.ref b))(hc:∀s R E,R Value.none s->wpAny (model prog w) A c R E s)
  (h:wpAny (model prog w) A x (λv aE=>∃(e:Addr) (od:Option Addr) (vs:Array Value) (sl:Array (Option Value)) (ob:Obj) (ws:Array Value),v = .ref e/\aE.heap.get? C=some (excClassObj nm q C N bs bm hdct sn sub ab col dd k0 k1 k2 k3 k5 newId)/\
   aE.heap.get? e=some { cls:=.ref C,dict:=od,data:=.fields vs,slots:=sl }/\vs[1]? = some .none/\4<vs.size/\b≠e/\aE.heap.get? b=some ob/\ob.data = .fields ws/\ws[2]? = some .none/\
   ∀h' gQ,Heap.SameBut e aE.heap h'->h'.get? e=some { cls:=.ref C,dict:=od,data:=.fields gQ,slots:=sl }->gQ[0]? = vs[0]?->gQ[1]? = some .none->E (.ref e) { aE with heap:=h' }) E s) :
  wpAny (model prog w) A (raiseStmt env (some x) (some c)) Q E s:=by
 have pC:(Value.ref C::bm).contains (.type "BaseException")=true:=by rw[List.contains_cons,iX,Bool.or_true]
 unfold raiseStmt;refine wpAny_bind (wpAny_mono h (λv aE cT=>?_) λ_ _ x=>x);obtain⟨e,od,vs,sl,ob,ws,rfl,hC,he,h1,h4,gT,hb,c_,h_,hE⟩:=cT;obtain⟨hp,g,d,tk,os⟩:=aE;refine wpAny_bind (wpAny_holding (hc _ _ _ ?_));generalize DB:@setField=SF
 repeat (first | with_reducible refine wpAny_loadPart_at he ?_ | with_reducible refine wpAny_loadPart_at hC ?_ | (with_reducible refine wpAny_isSubtype_exc hC ?_;rw[pC]) | wp_step)
 subst DB;refine wpAny_setField he rfl (by lia) ?_
 have pR:(hp.update e (Obj.mapFields (·.setIfInBounds 3 .none))).get? e=some { cls:=.ref C,dict:=od,data:=.fields (vs.setIfInBounds 3 .none),slots:=sl }:=Heap.get?_update_self _ he rfl;refine wpAny_bind (wpAny_setField pR rfl (by simp;lia) ?_)
 have pS:((hp.update e (Obj.mapFields (·.setIfInBounds 3 .none))).update e (Obj.mapFields (·.setIfInBounds 4 (.bool true)))).get? e=some { cls:=.ref C,dict:=od,data:=.fields ((vs.setIfInBounds 3 .none).setIfInBounds 4 (.bool true)),slots:=sl }:=Heap.get?_update_self _ pR rfl;have sb:Heap.SameBut e hp ((hp.update e (Obj.mapFields (·.setIfInBounds 3 .none))).update e (Obj.mapFields (·.setIfInBounds 4 (.bool true)))):=(Heap.SameBut.update _ _ _).trans (Heap.SameBut.update _ _ _);have e1:((vs.setIfInBounds 3 .none).setIfInBounds 4 (.bool true))[1]? = some .none:=by
  rw[Array.getElem?_setIfInBounds_ne (by decide),Array.getElem?_setIfInBounds_ne (by decide)];exact h1
 have e0:((vs.setIfInBounds 3 .none).setIfInBounds 4 (.bool true))[0]? = vs[0]? := by
  rw[Array.getElem?_setIfInBounds_ne (by decide),Array.getElem?_setIfInBounds_ne (by decide)]
 have WT:C≠e:=λz=>by
  rw[z,he] at hC;unfold excClassObj at hC;cases hC
 have DC:=(sb.2 C WT).trans hC;have Mh:=(sb.2 b gT).trans hb;have sz:2<((vs.setIfInBounds 3 .none).setIfInBounds 4 (.bool true)).size:=by simp;lia
 generalize (vs.setIfInBounds 3 .none).setIfInBounds 4 (.bool true)=vs4 at pS e1 e0 sz;generalize (hp.update e (Obj.mapFields (·.setIfInBounds 3 .none))).update e (Obj.mapFields (·.setIfInBounds 4 (.bool true)))=h4' at pS sb DC Mh ⊢;generalize WU:@raiseNew=RN;generalize DB:@setFlight=SF
 repeat (first | with_reducible refine wpAny_loadPart_at pS ?_ | with_reducible refine wpAny_loadPart_at DC ?_ | (with_reducible refine wpAny_isSubtype_exc DC ?_;rw[pC]) | wp_step)
 subst DB;unfold setFlight;refine wpAny_bind (wpAny_field pS rfl e1 ?_);rw[if_neg (by decide)]
 refine wpAny_pure ?_;subst WU;unfold raiseNew;refine wpAny_bind (wpAny_handled ?_);rw[hh];dsimp only;rw[if_pos (show (Value.ref b != Value.ref e)=true by simpa using gT)]
 refine wpAny_bind (wpAny_holding (WR Mh c_ h_ ?_))
 show wpAny _ _ (setField (.ref e) 2 (.ref b) >>= _) _ _ _;refine wpAny_bind (wpAny_setField pS rfl sz (wpAny_throw ?_));exact hE _ _ (sb.trans (Heap.SameBut.update _ _ _)) (Heap.get?_update_self _ pS rfl) ((Array.getElem?_setIfInBounds_ne (by decide)).trans e0) ((Array.getElem?_setIfInBounds_ne (by decide)).trans e1)
end
noncomputable def WV(X:Cx)(pins:List (Addr×Obj))(σ:St)(C:Addr)(names:List Str)(aV:List V)(R:List V->Hp->Prop)(v:Value)(s:Shared):Prop :=
 ∃e H1 d vs ws sl a0,v = .ref e/\Inv X pins σ (upd H1 d (dF d (names.zip (vs++aV)))) s/\H1 e=none/\H1 d=none/\d≠e/\X.aK.heap.get? e=none/\
  s.heap.get? e=some { cls:=.ref C,dict:=some d,data:=.fields ws,slots:=sl }/\(ws[1]? = some .none/\ws[2]? = some .none/\4<ws.size)/\ws[0]? = some a0/\R vs H1
section
variable{X:Cx}{x:Str}{C fI:Addr}{bm tl bs:List Value}{newId eW B:String}{np bG pos:Pos}{fc:Expr}{rest:List Expr}{t:TA}{k:Nat}{fd:FuncData}{ps names:List Str}{aV:List V}{ds:List Value}
 {N:Addr} {nm qn:Str} {hdct:Bool} {sn:List Str} {sub:List Value} {ab:Bool} {col:Option Bool} {dd:Option Addr} {k0 k1 k2 k3 k5:Option Value} {mN:Str->Option Value}
 {pins:List (Addr×Obj)} {s:Shared} {σ:St} {H:Hp} {R:List V->Hp->Prop} {E:Value->Shared->Prop}
end
noncomputable def Mi(a b:Addr×Th):Prop:=C9 a.2 b.2
noncomputable instance (a b:Addr×Th):Decidable (Mi a b):=by unfold Mi;infer_instance
section
variable{H H':Hp}{l a:Addr}{zs ys:Zs}{t:Th}{k:Nat}
end
section
variable{X:Cx}
end
section
variable{X:Cx}{e st:Expr}{te ts:TE}{pos p2:Pos}
noncomputable def Mj(K:PySem.W.Frag)(te ts:TE):TE:=λσ H Q=>te σ H λx H1=>ts σ H1 λk H2=>∃a xs,x = .ref a/\k = .int (-1)/\aH K H2 a xs/\∀p,H2 p=none->Q (.ref p) (upd H2 p (.lst xs.reverse))
end
noncomputable def T1(m:Nat)(led:Bool):SetTable:={ mask:=7,place := #[m % 8],dummies := #[],finger:=0,led,moves:=0,plain:=true }
section
variable{prog:Program}{w:World}{A:Around}{E:Value->Shared->Prop}{s:Shared}{a:Addr}{es Cc:Array (Int×Value)}{ep:Nat}{t t1:SetTable}{n:Int}{tk:Tok}
end
section
variable{prog:Program}{w:World}{A:Around}{R:Result->Shared->Prop}{s:Shared}{l I S:Addr}{m n:Nat}{tm tn:Tok}{led:Bool}
end
section
variable{prog:Program}{w:World}{A:Around}{E:Value->Shared->Prop}{s:Shared}
end
section
variable{prog:Program}{w:World}{A:Around}{E:Value->Shared->Prop}{s:Shared}{it d:Addr}{slot i n ep:Nat}{es:Array (Int×Value)}{t:SetTable}
end
section
variable{prog:Program}{w:World}{A:Around}{E:Value->Shared->Prop}{s:Shared}{d:Addr}{ep m n:Nat}{es:Array (Int×Value)}{tm tn:Tok}
end
section
variable{X:Cx}{e:Expr}{tl:TE}{p1 p2 p3 p4:Pos}
end
section
variable{X:Cx}{C:Addr}{x:Str}{p pos:Pos}
end
section
variable{X:Cx}{CX:fE}{k1 k2:Nat}{f1 f2:Addr}{cs1 cs2:List Addr}{DE DF:FuncData}{ps1 ps2:List Str}{sp1 sp2:Sp}{E:XK}{m:Str}{pos apos:Pos}{o e:Expr}{es:List Expr}{ta:TE}{t:TA}
end
end _L
namespace _L
open PySem PySem.Spec PyProof.Rows PySem.W
section
variable{prog:Program}{w:World}{A:Around}{E:Value->Shared->Prop}{s:Shared}{h₀:Heap}{L a kS:Addr}{m:Str->Option Value}{news:List (Addr×Obj)}{vs ks:List Value}
end
section
variable{X:Cx}{pins:List (Addr×Obj)}{σ:St}{H:Hp}{s:Shared}{m:Str->Option Value}{kS f:Addr}{kv:Nat->Int}{k:Nat}{fd:FuncData}{p:Str}{sp:Sp}{xs:List V}{A:Around}
end
section
variable{X:Cx}{pins:List (Addr×Obj)}{σ:St}{H:Hp}{s:Shared}{f:Addr}{kv:Nat->Int}{k:Nat}{fd:FuncData}{p:Str}{sp:Sp}{xs:List V}{l:Addr}
noncomputable def Ml(sp:Sp)(tl:TE):TE:=λσ H Q=>tl σ H λx H1=>∃(l:Addr) (xs:List V) (kv:Nat->Int),x = .ref l/\H1 l=some (.lst xs)/\xs.length<64/\(∀i j,i<xs.length->j<xs.length->kv i=kv j->i=j)/\
 (∀(j:Nat) (v:V),xs[j]? = some v->sp [v] H1 (λv' H'=>v' = .int (kv j)/\H' = H1) E0)/\
 ∀(D:Addr) (is:List Nat),H1 D=none->is.Perm (List.range xs.length)->(∀i j,i<j->j<xs.length->kv (is.getD i 0)<kv (is.getD j 0))->Q (.ref D) (upd H1 D (.lst (is.map λi=>xs.getD i .aG)))
end
end _L
namespace _L
open PySem PySem.Spec PyProof.Rows
section
variable{X:Cx}
end
structure wH(P:Program)(w:World)(K:PySem.W.Frag)(mg:Str->Option Value)(base:Heap)(k:Nat)(f:Addr)(fd:FuncData)(ps:List Str)(sp:Sp):Prop where
 len:∀vs H Q E,sp vs H Q E->vs.length=ps.length
 run:∀(A:Around) (outer:List Env) (s:Shared) (H:Hp) (args:Args) (us:List Value) (vs:List V) (Q:VK) (e:Value),bR k A->jT P w K mg base A outer s H->BindsTo s fd args (ps.zip us)->Vals vs us->sp vs H Q E0->
  codeAny (model P w) (A.mark (some e)) (.call (.ref f) args) (CR br outer P w H s Q E0) s
section
variable{X:Cx}{k:Nat}{f:Addr}{fd:FuncData}{ps:List Str}{sp:Sp}{x:Str}{p pos:Pos}{e:Expr}{es:List Expr}{t:TA}{a:Value}
end
theorem lK.WW{P:Program}{w:World}{K:PySem.W.Frag}{mg:Str->Option Value}{base:Heap}{x qual:Str}{st:Stmt}{f:Addr}{fd:FuncData}{N ps:List Str}{k:Nat}{sp:Sp}(F:lK K x qual st f fd)(S:bB N ps (aQ st))(len:∀vs H Q E,sp vs H Q E->vs.length=ps.length)
  (iV:∀(aO:Value) (A:Around) (outer:List Env) (s:Shared) (H:Hp) (vs:List V) (Q:VK) (e:Value),bR k (A.deeper (envOfC qual (aQ st) s.heap.objs.size f aO))->sp vs H Q E0->
   ∃t,eO ((fQ br P w K mg base N qual (aQ st) f aO A outer s H E0).within e) (cR st) t/\t { nx:=λ_ H'=>Q .aG H',rt:=Q } (start N vs) H):wH P w K mg base (k+1) f fd ps sp:=by
 obtain⟨oc,od,dV,kV,doc,pm,an,aO,ct,e7,rfl,lk,cu⟩:=F.ex;refine⟨len,λA outer s H args us vs Q e hr e0 hb r dW=>?_⟩;have KX:K.In s.heap:=e0.mod.ig.keeps λb o q=>(e0.bs b o q).1;have lim:s.heap.NoLimit:=e0.mod.nolimit.keeps λb o q=>(e0.bs b o q).1;have two:∀y∈ps.zip us,(aQ st).names.lookup y.1=some .local\/((aQ st).names.lookup y.1=some .cell/\((cellsFrom (s.heap.objs.size+1) (aQ st).names []).lookup y.1).isSome=true):=λ⟨n,v⟩ hy =>
  (S.par n (List.of_mem_zip hy).1).imp (λq=>q) λq=>⟨q,PySem.W.cellsFrom_some _ _ _ (.inl q)⟩
 refine codeAny_call_function (A:=A.mark (some e)) hr.depth (KX _ _ lk) rfl S.co S.gen rfl (PySem.W.codeRec_of KX cu) (hb _ _ _ _ ?_);refine wpAny_newFunctionEnv_cells S.kind two λenv he s1 x=>?_;subst he;refine⟨lim.keeps x.toInCall.keep,codeAny_func ?_⟩;obtain⟨t,ht,hq⟩:=iV aO A outer s H vs Q e (hr.deeper _) dW;have I:=(IZ (CX:=br) (E:=E0) S hr.hd e0 (len _ _ _ _ dW) r x).within e;refine wpAny_mono (ht [] s1 (start N vs) H _ I hq) (λfl s' hs=>?_) λ_ _ z=>False.elim z;cases fl with
 | ret u=>obtain⟨v,aR,H',J,rv,q⟩:=hs;exact⟨v,H',J.os,J.bare,J.base,J.az,rv,q⟩
 | next=>obtain⟨aR,H',J,q⟩:=hs;exact⟨V.aG,H',J.os,J.bare,J.base,J.az,rfl,q⟩
 | brk=>exact False.elim hs.choose_spec.choose_spec.2
 | cont=>exact False.elim hs.choose_spec.choose_spec.2
section
variable{X:Cx}{x:Str}{C fI b₀:Addr}{bm tl bs:List Value}{newId eW B:String}{np bG pos:Pos}{fc:Expr}{rest:List Expr}{t:TA}{k:Nat}{fd:FuncData}{ps names:List Str}{aV:List V}{ds:List Value}
 {N:Addr} {nm qn:Str} {hdct:Bool} {sn:List Str} {sub:List Value} {ab:Bool} {col:Option Bool} {dd:Option Addr} {k0 k1 k2 k3 k5:Option Value} {mN:Str->Option Value}
 {pins:List (Addr×Obj)} {s:Shared} {σ:St} {H:Hp} {R:List V->Hp->Prop} {E:Value->Shared->Prop}
theorem WX(hg:Gl (X.within (.ref b₀)) x)(hm:X.mg x=some (.ref C))(q:wD X.K C fI bm newId)(FB:ExcBaseFacts B newId eW bm)(hex:X.ex = [])(F:wH X.prog X.w X.K X.mg X.base k fI fd ps (nN C names))(hr:bR (k+1) X.A)(hb:Binds X.K fd ps ds)(hd:Vals aV ds)
  (ha:PA (X.within (.ref b₀)) (fc::rest) t) (he:starEach (fc::rest) X.env=(false,eval fc X.env)::starEach rest X.env) (c_:(x == ("__debug__" : Str))=false)
  (hC:X.base.get? C=some (excClassObj nm qn C N bs tl hdct sn sub ab col dd k0 k1 k2 k3 k5 newId)) (hN:X.base.Ns N mN) (hi:mN "__init__" = some (.ref fI)) (T:OwnTail X.base bm tl)
  (I:Inv (X.within (.ref b₀)) pins σ H s) {P':Value->Shared->Prop} (hP:∀v s,WV (X.within (.ref b₀)) pins σ C names aV R v s->P' v s) (h:t σ H λvs H1=>vs.length<=sizeLine/\(vs++aV).length=names.length/\R vs H1) :
  wpAny (model X.prog X.w) (X.within (.ref b₀)).A (eval (.Name x np) X.env) (λf aE=>f = .ref C/\wpAny (model X.prog X.w) (X.within (.ref b₀)).A (evalArgs (.ref C) true (backTo bG (starEach (fc::rest) X.env)) [])
   (λa cB=>a.kw = []/\cB.heap.get? C=some (excClassObj nm qn C N bs tl hdct sn sub ab col dd k0 k1 k2 k3 k5 newId)/\wpAny (model X.prog X.w) (X.within (.ref b₀)).A (call (.ref C) a.pos) (λv cH=>cH.heap.get? C=some (excClassObj nm qn C N bs tl hdct sn sub ab col dd k0 k1 k2 k3 k5 newId)/\P' v cH) E cB) E aE) E s:=by
 refine iR I hg hm ⟨rfl,?_⟩ c_;have hA:=ha bG pins s σ H _ I h;rw[show starEach (fc::rest) (X.within (.ref b₀)).env=(false,eval fc X.env)::starEach rest X.env from he] at hA;rw[he];refine Calls.evalArgs_plain (wpAny_mono hA (λus cB gj=>?_) λ_ _ y=>False.elim y);obtain⟨vs,H1,J,r,hl,hn,hK⟩:=gj;refine⟨rfl,J.bk _ _ hC,?_⟩
 show wpAny _ _ (call (.ref C) us) _ _ cB;obtain⟨oI,Du,nK⟩:∃oI,cB.heap.get? fI=some oI/\oI.cls = .type "function" := by
  obtain⟨o,ho,e⟩:=Option.map_eq_some_iff.mp q.fn;exact⟨o,J.bC _ _ ho,e⟩
 have Dv:=λ(b:Addr) (z:cB.heap.get? b=none)=>(show H1 b=none from by
  cases e:H1 b with
  | none=>rfl
  | some v=>obtain⟨o,q⟩:=J.az.there e;rw[z] at q;cases q)
 obtain⟨hp,g,dr,tk,os⟩:=cB;refine LQ FB (T.keeps J.bk) (J.bk _ _ hC) (hN.keeps J.bk) hi Du nK (λh' a mx=>?_) (by rw[← r.length];exact hl)
 have na:H1 a=none:=Dv a mx.new;obtain⟨tp,Dw,WB,WC⟩:=mx.there;have old:∀b o,hp.get? b=some o->b≠a:=λb o q z=>by rw[z,mx.new] at q;cases q
 obtain⟨m,⟨oL,_,_,jt,_⟩,_⟩:=id J.loc;have sH:X.aK.heap.get? a=none:=by
  cases q:X.aK.heap.get? a with
  | none=>rfl
  | some o =>
   obtain⟨o1,q1⟩:=J.base.there a o q (by show a∉X.ex;rw[hex];simp)
   exact absurd rfl (old a o1 q1)
 have I2:Inv (X.within (.ref b₀)) pins σ H1 ⟨h',g,dr,tk,os⟩:=J.kept (t':=tk) mx.keeps;have I3:Inv (X.within (.ref b₀)) pins σ (upd H1 a (dh a C none)) ⟨h',g,dr,tk,os⟩:=I2.Dj na sH (Ne.symm (old _ _ jt)) (λy c e=>by obtain⟨v,o,q,_⟩:=J.cell y c e;exact old _ _ q) (λp hp=>old _ _ (J.pin p hp).1) (wC Dw ⟨rfl,rfl,(show (4:Nat)<6 by decide)⟩ (a0:=.ref tp) rfl)
 have r2:Vals (V.ref a::(vs++aV)) (Value.ref a::(us++ds)):=.cons rfl (r.append hd);have hq:nN C names (V.ref a::(vs++aV)) (upd H1 a (dh a C none)) (λv H2=>v = .aG/\∃d,H1 d=none/\d≠a/\H2=upd (upd (upd H1 a (dh a C none)) a (dh a C (some d))) d (dF d (names.zip (vs++aV)))) E0 :=
  ⟨a,_,rfl,hn,aB,λd nd=>⟨rfl,d,(by
   by_cases z:d=a
   ·rw[z,aB] at nd;cases nd
   ·rw[au z] at nd;exact nd),(λz=>by rw[z,aB] at nd;cases nd),rfl⟩⟩
 refine wpAny_call (codeAny_mono (F.run (X.A.under (.builtin "type.__call__" ⟨.ref C::us,[]⟩)) X.stack _ _ ⟨Value.ref a::us,[]⟩ (Value.ref a::(us++ds)) _ _ (.ref b₀) (hr.make C us []) (let e1:=(I3.oU.make C us []);⟨e1.frames,e1.mod,e1.bs,e1.eN,e1.dP,e1.fL,e1.az,e1.bare⟩) (hb _ (Value.ref a::us) I3.bC (r2.length.symm.trans (F.len _ _ _ _ hq))) r2 hq) λr s' b_=>?_)
 match r,b_ with
 | .error e,b_=>exact False.elim b_
 | .ok .next,b_=>exact False.elim b_
 | .ok .brk,b_=>exact False.elim b_
 | .ok .cont,b_=>exact False.elim b_
 | .ok (.ret u),b_ =>
  obtain⟨v,H',I4,rv,ev,d,nd,da,eH⟩:=I3.after b_;subst ev;have ea:H' a=some (dh a C (some d)):=by rw[eH,au (Ne.symm da),aB]
  obtain⟨ws,sl,gx,g1,a0,g0⟩:=sf I4.az ea;have:jJ H' a=upd H1 d (dF d (names.zip (vs++aV))):=by
   funext b
   by_cases z:b=a
   ·subst z;rw[su,au (Ne.symm da)];exact na.symm
   ·rw[sy z,eH];by_cases y:b=d
    ·subst y;rw[aB,aB]
    ·rw[au y,au y,au z,au z]
  have I5:=I4.drop ea;rw[this] at I5;exact⟨rv,I4.bk _ _ hC,hP _ _ ⟨a,H1,d,vs,ws,sl,a0,rfl,I5,na,nd,da,sH,gx,g1,g0,hK⟩⟩
end
section
variable{M:Model}{A:Around}{E:Value->Shared->Prop}{s:Shared}{B:Heap}{env:Env}{l outer:List Env}{L a:Addr}{cls a0 fl:Value}{od:Option Addr}{Q:Unit->Shared->Prop}
theorem WY{oe:Obj}{vs:Array Value}(dD:A.frames=some (env::outer))(hf:env.frame=some L)(lB:B.StaysIn s.heap)(hl:s.heap.FunFrames B (env::outer))(he:s.heap.get? a=some oe)(kh:B.get? a=none)
  (i_:oe.data = .fields vs) (h1:vs[1]? = some .none) (h0:vs[0]? = some a0) (hd:cI s.heap a od)
  (hQ:∀h',dj B (env::outer) a oe.cls a0 h'->s.heap.UpToSlots h'->cI h' a od->Q () { s with heap:=h' }):wpAny M A (noteFrame (.ref a) env) Q E s:=by
 have key:wpAny M A (noteFrame (.ref a) env) (λ_ s2=>∃h',Heap.NotedW B (env::outer) a oe.cls a0 (rawInt L) s.heap h'/\s2 = { s with heap:=h' }) E s:=by
  unfold noteFrame;simp only[hf];refine wpAny_bind (wpAny_field he i_ h1 ?_);rw[if_neg (by decide)]
  exact wpAny_entryW dD hl hf he lB kh i_ (Array.getElem?_eq_some_iff.mp h1).1 h0 λh' x=>⟨h',x,rfl⟩
 refine wpAny_mono ((vJ (.ref a) env).any key) (λu s2 z=>?_) λ_ _ z=>z.1;obtain⟨⟨h',⟨k1,k2,k3,k4⟩,rfl⟩,k⟩:=z;have x:dj B (env::outer) a oe.cls a0 h':=⟨k1,kh,k2,_,k3⟩;exact hQ h' x k4 (hd.dk k x.there)
theorem WZ(dD:A.frames=some (env::outer))(hf:env.frame=some L)(x:dj B (env::outer) a cls a0 s.heap)(hd:cI s.heap a od)
  (hQ:∀h',dj B (env::outer) a cls a0 h'->s.heap.UpToSlots h'->cI h' a od->Q () { s with heap:=h' }):wpAny M A (noteFrame (.ref a) env) Q E s:=by
 obtain⟨x1,x2,x3,fl,x4⟩:=x;by_cases kg:fl=rawInt L
 ·subst kg;exact wpAny_noteFrame_againW hf x4 (hQ s.heap ⟨x1,x2,x3,_,x4⟩ (Heap.UpToSlots.refl _) hd)
 ·have key:wpAny M A (noteFrame (.ref a) env) (λ_ s2=>∃h',dj B (env::outer) a cls a0 h'/\s.heap.UpToSlots h'/\s2 = { s with heap:=h' }) E s:=by
   obtain⟨oe,vs,T,oT,ts,he,⟨rfl,h0⟩,i_,h1,jf,jg,hT,eY,h3⟩:=x4;have nT:∀b o,s.heap.get? b=some o->(∀ws,o.data≠.fields ws)->b≠T:=λb o q n z=>by
    rw[z,hT] at q;cases q;exact n ts eY
   have ot:∀b,b≠T->(s.heap.update T (Obj.mapFields (·.setIfInBounds 3 Value.none))).get? b=s.heap.get? b:=λb z=>Heap.get?_update_other _ _ (Ne.symm z);have kb:B.StaysIn (s.heap.update T (Obj.mapFields (·.setIfInBounds 3 Value.none))):=λb o q=>(ot b (λz=>by rw[z,jf] at q;cases q)).trans (x1 b o q)
   have kf:(s.heap.update T (Obj.mapFields (·.setIfInBounds 3 Value.none))).FunFrames B (env::outer):=x3.of_keeps λb o q n=>⟨o,(ot b (nT b o q n)).trans q,rfl⟩;unfold noteFrame;simp only[hf];refine wpAny_bind (wpAny_field he i_ h1 ?_);rw[if_pos (show (Value.ref T != Value.none)=true by simp)]
   refine wpAny_bind (wpAny_field hT eY h3 ?_);rw[if_neg (show ¬ ((fl == rawInt L)=true) by simpa using kg)]
   refine wpAny_bind (wpAny_setField hT eY (Array.getElem?_eq_some_iff.mp h3).1 ?_);exact wpAny_entryW dD kf hf ((ot a (Ne.symm jg)).trans he) kb x2 i_ (Array.getElem?_eq_some_iff.mp h1).1 h0 λh' x=>⟨h',⟨x.1,x2,x.2.1,_,x.2.2.1⟩,λb o q n=>x.2.2.2 b o ((ot b (nT b o q n)).trans q) n,rfl⟩
  refine wpAny_mono ((vJ (.ref a) env).any key) (λu s2 z=>?_) λ_ _ z=>z.1;obtain⟨⟨h',y1,y2,rfl⟩,k⟩:=z;exact hQ h' y1 y2 (hd.dk k y1.there)
theorem W0(x:dj B l a cls a0 s.heap)(hd:cI s.heap a od)
  (hQ:∀h',dj B l a cls a0 h'->s.heap.UpToSlots h'->cI h' a od->E (.ref a) { s with heap:=h' }):cameBackBy M A env E (.ref a) s:=by
 obtain⟨x1,x2,x3,fl,x4⟩:=x;obtain⟨oe,vs,T,oT,ts,he,hc,i_,h1,_⟩:=id x4;unfold cameBackBy;refine wpAny_bind (wpAny_field he i_ h1 ?_);rw[if_neg (show ¬ ((Value.ref T == Value.none)=true) by simp)]
 refine wpAny_mono ((rB (.ref a) env.frame).any (Ma (E:=E) (Q:=λ_ s2=>∃h',dj B l a cls a0 h'/\s.heap.UpToSlots h'/\s2 = { s with heap:=h' }) x3 x4 x1 env.frame λh' sM k1 k2 k3 k4=>⟨h',⟨k1,x2,k2,sM,k3⟩,k4,rfl⟩)) (λu s2 z=>?_) λ_ _ z=>z.1;obtain⟨⟨h',y1,y2,rfl⟩,k⟩:=z;exact hQ h' y1 y2 (hd.dk k y1.there)
theorem dj.here{C:Addr}{h h':Heap}{m m':Str->Option Value}(x:dj B l a cls a0 h)(hn:h.Ns C m)(fM:h'.Ns C m')(sb:Heap.SameBut C h h')(hC:B.get? C=none):dj B l a cls a0 h':=by
 obtain⟨x1,x2,x3,fl,oe,vs,T,oT,ts,he,hc,hd,h1,jf,jg,hT,eY,h3⟩:=x;obtain⟨oc,es,ep,ec,dc,_⟩:=hn;obtain⟨W2,gU,jq,W3,W4,_⟩:=fM;have nC:∀ {b:Addr} {o:Obj} {ws:Array Value},h.get? b=some o->o.data = .fields ws->b≠C:=λq d z=>by rw[z,ec] at q;cases q;rw[dc] at d;cases d
 refine⟨λb o q=>(sb.2 b (λz=>by rw[z,hC] at q;cases q)).trans (x1 b o q),x2,?_,fl,oe,vs,T,oT,ts,(sb.2 a (nC he hd)).trans he,hc,hd,h1,jf,jg,(sb.2 T (nC hT eY)).trans hT,eY,h3⟩
 clear x1 x2 he hc hd h1 jf jg hT eY h3
 induction l with
 | nil=>trivial
 | cons e l ih =>
  obtain⟨g1,⟨L,o,g2,g3,g4,g5⟩,g6⟩:=x3;refine⟨g1,?_,ih g6⟩;by_cases z:L=C
  ·subst z;exact⟨L,W2,g2,g3,W3,λws q=>by rw[W4] at q;cases q⟩
  ·exact⟨L,o,g2,g3,(sb.2 L z).trans g4,g5⟩
end
theorem Mm(d:Nat):(2*d+1) / 2=d:=by lia
theorem W5(d:Nat):(2*d+1) % 2=1:=by lia
theorem Mn(d:Nat):2*d / 2=d:=by lia
theorem W6(d:Nat):2*d % 2=0:=by lia
section
variable{prog:Program}{w:World}{A:Around}{E:Value->Shared->Prop}{s:Shared}{env:Env}
variable{nm q:Str}{C N:Addr}{bs bm c8:List Value}{hdct:Bool}{sn:List Str}{sub:List Value}{ab:Bool}{col:Option Bool}{dd:Option Addr}{k0 k1 k2 k3 k5:Option Value}{B newId eW:String}
noncomputable def W7(C b:Addr)(E:Value->Shared->Prop)(v:Value)(aE:Shared):Prop:=∃(e:Addr) (od:Option Addr) (vs:Array Value) (sl:Array (Option Value)) (ob:Obj) (ws:Array Value),v = .ref e/\
 aE.heap.get? e=some { cls:=.ref C,dict:=od,data:=.fields vs,slots:=sl }/\vs[1]? = some .none/\4<vs.size/\b≠e/\aE.heap.get? b=some ob/\ob.data = .fields ws/\ws[2]? = some .none/\
 ∀h' gQ,Heap.SameBut e aE.heap h'->h'.get? e=some { cls:=.ref C,dict:=od,data:=.fields gQ,slots:=sl }->gQ[0]? = vs[0]?->gQ[1]? = some .none->E (.ref e) { aE with heap:=h' }
theorem W8{x:Str}{np bG pos kp:Pos}{j}{b:Addr}{args:List Expr}{Q:Flow->Shared->Prop}(iX:bm.contains (.type "BaseException")=true)(hh:A.handled=some (.ref b))(mH:(backTo bG (starEach args env)).any (·.1)=false)
  (h:wpAny (model prog w) A (eval (.Name x np) env) (λf aE=>f = .ref C/\wpAny (model prog w) A (evalArgs (.ref C) true (backTo bG (starEach args env)) [])
   (λa cB=>a.kw = []/\cB.heap.get? C=some (excClassObj nm q C N bs bm hdct sn sub ab col dd k0 k1 k2 k3 k5 newId)/\wpAny (model prog w) A (call (.ref C) a.pos) (λv cH=>cH.heap.get? C=some (excClassObj nm q C N bs bm hdct sn sub ab col dd k0 k1 k2 k3 k5 newId)/\W7 C b E v cH) E cB) E aE) E s) :
  wpAny (model prog w) A (exec (.Raise (some (.Call (.Name x np) args [] bG)) (some (.Constant .none j kp)) pos) env) Q E s:=by
 rw[arm_exec_Raise];refine wpAny_bind (wpAny_standAt (WS (C:=C) (nm:=nm) (q:=q) (N:=N) (bs:=bs) (bm:=bm) (hdct:=hdct) (sn:=sn) (sub:=sub) (ab:=ab) (col:=col) (dd:=dd) (k0:=k0) (k1:=k1) (k2:=k2) (k3:=k3) (k5:=k5) (newId:=newId) iX hh
  (λs R E hR=>wpAny_bind (Constant_none (wpAny_bind (wpAny_standAt (wpAny_pure hR))))) (wpAny_bind (wpAny_mono (wpAny_Call_ofName (wpAny_mono h (λf aE cT=>?_) λ_ _ x=>x)) (λv cH jY=>wpAny_bind (wpAny_standAt (wpAny_pure jY))) λ_ _ x=>x))))
 obtain⟨rfl,cT⟩:=cT;unfold callWith;refine wpAny_bind (wpAny_holding (wpAny_mono cT (λa cB gj=>wpAny_bind (wpAny_standAt ?_)) λ_ _ x=>x));obtain⟨apos,Dq⟩:=a;obtain⟨Dr,hC,gj⟩:=gj;obtain rfl:Dq = []:=Dr;obtain⟨hp,g,d,tk,os⟩:=cB;simp only[mH];refine wpAny_bind (wpAny_keeperOf_exc hC ?_);refine wpAny_bind (wpAny_mono gj (λv cH z=>wpAny_bind (wpAny_holding (wpAny_point (wpAny_pure ?_)))) λ_ _ z=>z);obtain⟨nM,e,od,vs,sl,ob,ws,rfl,z⟩:=z;exact⟨e,od,vs,sl,ob,ws,rfl,nM,z⟩
end
section
variable{X:Cx}{E:XK}{pins:List (Addr×Obj)}{σ:St}{Hx:Hp}{s3:Shared}{h':Heap}{e C d:Addr}{gQ:Array Value}{sl:Array (Option Value)}{a0:Value}{i:Nat}{n:Str}{rH:Pos}{b₀:Addr}{E1 E2:Value->Shared->Prop}
theorem W9(hp:wG X E)(bX:X.stack=X.env::X.outer)(jK:X.env.frame=some X.env.locals)(hex:X.ex = [])(hk:X.env.kindOf n=some .local)(I:Inv X pins σ Hx s3)(sb:Heap.SameBut e s3.heap h')(ne:Hx e=none)(n0:X.aK.heap.get? e=none)
  (he:h'.get? e=some { cls:=.ref C,dict:=some d,data:=.fields gQ,slots:=sl }) (pR:∃ws sl od,s3.heap.get? e=some { cls:=.ref C,dict:=od,data:=.fields ws,slots:=sl }) (h1:gQ[1]? = some .none) (h0:gQ[0]? = some a0) (hE:E (.ref C) (some (2*d+1)) Hx) :
  wpAny (model X.prog X.w) (X.within (.ref b₀)).A (noteFrame (.ref e) X.env) (λ_ W_=>wpAny (model X.prog X.w) (X.within (.ref b₀)).A (do bindName X.env n .none;unbindBehindTheSuite X.env n rH) (λ_ i6=>wpAny (model X.prog X.w) (X.within (.ref b₀)).A (PySem.passOn "try.except-as" (.ref e) X.env:Sem Flow) (λ_ _=>False)
   (notedBy (model X.prog X.w) (X.within (.ref b₀)).A X.env λx s'=>cameBackBy (model X.prog X.w) X.A X.env X.xe x s') i6) E1 W_) E2 { s3 with heap:=h' }:=by
 have gY:(X.within (.ref b₀)).A.frames=some (X.env::X.outer):=by rw[← bX];exact I.ok.frames
 obtain⟨ws3,sl3,od3,pR⟩:=pR;have nb:∀b o,s3.heap.get? b=some o->(∀ws,o.data≠.fields ws)->b≠e:=λb o q nf z=>by
  rw[z,pR] at q;cases q;exact nf _ rfl
 have fr:h'.FunFrames X.base X.stack:=I.stack.of_keeps λb o q nf=>⟨o,(sb.2 b (nb b o q nf)).trans q,rfl⟩;have sO:∀b o,X.aK.heap.get? b=some o->b≠e:=λb o q z=>by rw[z,n0] at q;cases q
 have IB:Un (aX X.outer) [] X.cF Hx X.aK.heap s3.heap:=by have:=I.base;rw[hex] at this;exact this
 have oL:∀b∈aX X.stack,b∉aX X.outer->X.aK.heap.objs.size<=b:=λb hb nn=>by
  rw[bX] at hb;obtain⟨env,e_,q⟩:=List.mem_filterMap.mp hb;rcases List.mem_cons.mp e_ with rfl | e_
  ·rw[jK] at q;cases q;exact I.ok.above
  ·exact absurd (List.mem_filterMap.mpr ⟨env,e_,q⟩) nn
 have nS:∀b o,X.aK.heap.get? b=some o->b∉aX X.outer->b∉aX X.stack:=λb o q nn z=>absurd (Heap.lt_size q) (Nat.not_lt.mpr (oL b z nn));have kC:∀b o,X.aK.heap.get? b=some o->∀o',s3.heap.get? b=some o'->h'.get? b=some o':=λb o q o' z=>(sb.2 b (sO b o q)).trans z;generalize hB:PySem.W.hideAll h' (e::aX X.stack)=B;have kB:B.StaysIn h':=λb o q=>by rw[← hB] at q;exact PySem.W.of_hideAll _ q
 have kA:∀b o,h'.get? b=some o->b≠e->b∉aX X.stack->B.get? b=some o:=λb o q z hb=>by
  rw[← hB];exact PySem.W.hideAll_get _ q λhm=>(List.mem_cons.mp hm).elim z hb
 have Be:B.get? e=none:=by rw[← hB];exact PySem.W.hideAll_none _ (.head _)
 have Mp:h'.FunFrames B X.stack:=by rw[← hB];exact PySem.W.funFrames_hide fr λenv kh b hb=>.tail _ (List.mem_filterMap.mpr ⟨env,kh,hb⟩)
 have pQ:Cut X.base B X.outer X.cF Hx X.aK.heap:=by
  refine⟨λb o q=>?_,λb o q nn hb=>kA b o (kC b o q o (IB.keep b o q nn hb (by simp))) (sO b o q) (nS b o q hb),λb v z=>?_,λb o q hb=>?_⟩
  ·have q0:=(I.ok.bs b o q).1;refine kA b o ((sb.2 b (sO b o q0)).trans (I.bk b o q)) (sO b o q0) λhm=>?_
   have z:=(I.stack.mem hm).1;rw[q] at z;cases z
  ·obtain⟨o,q⟩:=I.az.there z;have gT:b≠e:=λy=>by rw[y,ne] at z;cases z
   exact⟨o,kA b o ((sb.2 b gT).trans q) gT λhm=>by rw[I.qm b hm] at z;cases z⟩
  ·obtain⟨o1,q1⟩:=IB.there b o q (by simp)
   exact⟨o1,kA b o1 (kC b o q o1 q1) (sO b o q) (nS b o q hb)⟩
 have Xa:Un (aX X.outer) [] X.cF Hx X.aK.heap h':=⟨λb o q nn hb hx=>kC b o q o (IB.keep b o q nn hb hx),λb o q nn hb hx=>let ⟨sl,z⟩:=IB.slot b o q nn hb hx;⟨sl,kC b o q _ z⟩,IB.free,λb o q hx=>let ⟨o',z⟩:=IB.there b o q hx;⟨o',kC b o q _ z⟩,IB.eZ,IB.d9,IB.eK⟩
 have o8:bQ X.prog X.w Hx h':=λb v z=>(I.az b v z).d8 (λd' _ cJ q=>(sb.2 d' (λy=>by
  rcases cJ with y2 | cJ
  ·rw[← y2,y,ne] at z;cases z
  ·rw[y,ne] at cJ;cases cJ)).trans q) (λ_ q=>q) λ_ _ q=>q
 have Xb:cI h' e (some (2*d+1)):=⟨_,he,congrArg some (Mm d).symm,λk z y=>by cases z;exact absurd ((W5 d).symm.trans y) (by decide)⟩
 rw[bX] at Mp;refine WY (s:={ s3 with heap:=h' }) gY jK kB Mp he Be rfl h1 h0 Xb λh4 sP lD lE=>?_;rw[← bX] at sP;have Xc:∀b∈aX X.outer,X.cF b=none/\∀o,X.aK.heap.get? b=some o->∀vs,o.data≠.fields vs:=λb hb=>⟨I.ok.fL b hb,λo q=>by
  obtain⟨_,o2,q2,nf⟩:=I.ok.dP.mem hb;rw[q] at q2;cases q2;exact nf⟩
 have x4:nO X E e C a0 Hx B (some (2*d+1)) { s3 with heap:=h4 }:=⟨I.os,I.bare,rE Xa pQ sP.1 lD Xc,rF o8 pQ kB sP.1,ne,n0,pQ,sP,lE,hE⟩;obtain⟨m,hn,_⟩:=I.loc;have Mq:X.env.locals≠e:=by
  obtain⟨oc,es,ep,ec,dc,_⟩:=hn;exact nb _ oc ec λws q=>by rw[dc] at q;cases q
 have fM:h'.Ns X.env.locals m:=by
  obtain⟨oc,es,ep,ec,dc,r⟩:=hn;exact⟨oc,es,ep,(sb.2 _ Mq).trans ec,dc,r⟩
 have Mr:h4.Ns X.env.locals m:=lD.ns fM;have mj:(X.env.scope.kind == .class || (X.env.scope.kind == .module && X.env.locals != X.env.globals))=false:=by rw[I.ok.kind];rfl
 have BL:B.get? X.env.locals=none:=by
  rw[← hB];refine PySem.W.hideAll_none _ (.tail _ ?_);rw[bX];exact List.mem_filterMap.mpr ⟨X.env,.head _,jK⟩
 refine wpAny_nameGoes_keeps (s:={ s3 with heap:=h4 }) hk Mr mj λh5 v Xd lN=>?_;have lN:Heap.SameBut X.env.locals h4 h5:=lN;have sN:=sP.here Mr Xd lN BL;have nL:∀b o,X.aK.heap.get? b=some o->b≠X.env.locals:=λb o q=>Nat.ne_of_lt (Nat.lt_of_lt_of_le (Heap.lt_size q) I.ok.above);have lF:cI h5 e (some (2*d+1)):=by
  obtain⟨oe,q,z⟩:=lE;exact⟨oe,(lN.2 e (Ne.symm Mq)).trans q,z⟩
 have x5:nO X E e C a0 Hx B (some (2*d+1)) { s3 with heap:=h5,toks:=s3.toks+1 }:=by
  refine⟨I.os,I.bare,⟨λb o q nn hb hx=>(lN.2 b (nL b o q)).trans (x4.un.keep b o q nn hb hx),λb o q nn hb hx=>?_,x4.un.free,λb o q hx=>?_,x4.un.eZ,x4.un.d9,x4.un.eK⟩,λb v z=>?_,ne,n0,pQ,sN,lF,hE⟩
  ·obtain⟨sl,z⟩:=x4.un.slot b o q nn hb hx;exact⟨sl,(lN.2 b (nL b o q)).trans z⟩
  ·obtain⟨o',z⟩:=x4.un.there b o q hx;exact⟨o',(lN.2 b (nL b o q)).trans z⟩
  ·refine(x4.az b v z).d8 (λd' _ cJ q=>(lN.2 d' (λy=>?_)).trans q) (λ_ q=>q) λ_ _ q=>q;rcases cJ with y2 | cJ
   ·rw[← y2,y,I.free] at z;cases z
   ·rw[y,I.free] at cJ;cases cJ
 refine Mc sN lF λh6 Mt rJ pD=>?_;have x6:=x5.move I.ok Mt rJ pD
 show wpAny _ _ (noteFrame (.ref e) X.env) _ _ _;have Mu:=Mt;rw[bX] at Mu;refine WZ gY jK Mu pD λh7 DG Xe Mv=>?_;rw[← bX] at DG;have x7:=x6.move I.ok DG Xe Mv;exact W0 DG Mv λh8 Xf Xg Xh=>hp e C a0 Hx B _ _ I.ok (x7.move I.ok Xf Xg Xh)
end
noncomputable def wI(X:Cx)(hs:List ExceptHandler)(t:TH):Prop :=
 ∀(pins:List (Addr×Obj)) (σ:St) (a C:Addr) (a0:Value) (H1:Hp) (s1:Shared) (H':Hp) (B:Heap) (od:Option Addr) (s':Shared) (D:Ends),Fl X pins σ a C a0 H1 s1 H' B od s'->g_ X.K C->t od C a D σ H'->
  wpAny (model X.prog X.w) X.A (handleBy (.ref a) X.env hs) (SP X pins D) X.xe s'
theorem PH.x{X:Cx}{hs:List ExceptHandler}{t:TH}(h:PH X hs t):wI X hs t:=λpins σ a C a0 H1 s1 H' B od s' D F xc z=>h pins σ a C a0 H1 s1 H' B od s' D _ F xc z
noncomputable def DH(K:PySem.W.Frag)(C2:Addr)(i:Nat)(C:Addr)(names:List Str)(aV:List V)(E:XK)(ta:Addr->TA)(t:TH):TH:=λod C0 a D σ H =>
 (subIn K C0 (.ref C2)=true/\∃k,od=some k/\k % 2=0/\ta a (σ.set i (some (.ref a))) (upd H a (dZ a C0 od)) λvs H1=>vs.length<=sizeLine/\(vs++aV).length=names.length/\H1 a=some (dZ a C0 od)/\∀d,H1 d=none->E (.ref C) (some (2*d+1)) (upd H1 d (dF d (names.zip (vs++aV)))))\/
 (subIn K C0 (.ref C2)=false/\t od C0 a D σ H)
theorem Xi{X:Cx}{E:XK}{x n xc:Str}{np iM bG pos kp rH:Pos}{j}{fc:Expr}{rest:List Expr}{hs:List ExceptHandler}{C2 C fI:Addr}{bm:List Value}{newId eW B:String}{i k:Nat}{fd:FuncData}{ps names:List Str}{aV:List V}{ds:List Value}{ta:Addr->TA}{t:TH}
  (hp:wG X E) (bX:X.stack=X.env::X.outer) (jK:X.env.frame=some X.env.locals) (hg:Gl X x) (hm:X.mg x=some (.ref C2)) (y:g_ X.K C2) (hN:X.N.Nodup) (hi:X.N[i]? = some n) (hk:X.env.kindOf n=some .local) (hex:X.ex = [])
  (Xj:Gl X xc) (Xk:X.mg xc=some (.ref C)) (q:wD X.K C fI bm newId) (FB:ExcBaseFacts B newId eW bm) (F:wH X.prog X.w X.K X.mg X.base k fI fd ps (nN C names)) (Xl:bR (k+1) X.A) (hb:Binds X.K fd ps ds) (hd:Vals aV ds)
  (ha:∀a,PA (X.within (.ref a)) (fc::rest) (ta a)) (hr:wI X hs t) (c_:(x == ("__debug__" : Str))=false:=by decide) (Xm:(xc == ("__debug__" : Str))=false:=by decide)
  (he:starEach (fc::rest) X.env=(false,eval fc X.env)::starEach rest X.env:=by rfl) (cZ:(backTo bG (starEach rest X.env)).any (·.1)=false:=by rfl) :
  wI X (.ExceptHandler (some (.Name x np)) (some n) [.Raise (some (.Call (.Name xc iM) (fc::rest) [] bG)) (some (.Constant .none j kp)) pos] rH::hs) (DH X.K C2 i C names aV E ta t):=by
 intro pins σ a C0 a0 H1 s1 H' B' od s' D F0 Mw h;obtain⟨ob,Cy,Cz⟩:=F0.cC.there;refine wpAny_handleBy_cons (codeAny_handlers_test (iR (X:=X.within (.ref a)) (F0.inv.within (.ref a)) hg hm (KG F0.inv.bC Mw y Cy Cz ?_) c_)) (by intro q;cases q)
 rcases h with⟨DI,k',rfl,C7,h⟩ | ⟨DI,h⟩
 ·rw[DI];refine codeAny_handlers_suite_as (Ks F0.cC F0.hd λh6 CB rJ pD=>?_);have F6:=F0.move CB rJ pD;refine uT (X:=X.within (.ref a)) (i:=i) (v:=V.ref a) ((F6.tracked hex).within (.ref a)) hN hi (.inl hk) rfl (λs2 I2=>?_) (.inr hk);obtain⟨tl,N,nm,qn,bs,hdct,sn,sub,ab,col,dd,k0,k1,k2,k3,k5,mN,hC,Xn,gI,T⟩:=Di I2.mod.ig q.ok q.wF;refine wpAny_execs_cons (W8 (C:=C) (nm:=nm) (q:=qn) (N:=N) (bs:=bs) (bm:=tl) (hdct:=hdct) (sn:=sn) (sub:=sub) (ab:=ab) (col:=col) (dd:=dd) (k0:=k0) (k1:=k1) (k2:=k2) (k3:=k3) (k5:=k5) (newId:=newId) (b:=a)
   (T.hasType FB.hasBase) rfl (by rw[he];show (false || (backTo bG (starEach rest X.env)).any (·.1))=false;rw[cZ];rfl) ?_)
  refine WX (b₀:=a) (R:=λvs H1=>H1 a=some (dZ a C0 (some k'))/\∀d,H1 d=none->E (.ref C) (some (2*d+1)) (upd H1 d (dF d (names.zip (vs++aV))))) Xj Xk q FB hex F Xl hb hd (ha a) he Xm hC Xn gI T I2 (λv s3 M=>?_) h;obtain⟨e,H2,d,vs,ws,sl,a2,rfl,I3,ne,nd,de,Xo,gx,g1,g0,ea,hE⟩:=M;have Xp:a≠e:=λz=>by rw[← z,ea] at ne;cases ne
  have Xq:(upd H2 d (dF d (names.zip (vs++aV)))) a=some (dZ a C0 (some k')):=by
   rw[au (bK ea nd)];exact ea
  obtain⟨oa,go,_,_,va,gd,gc⟩:=L_ I3.az Xq;have Xr:(upd H2 d (dF d (names.zip (vs++aV)))) e=none:=by rw[au (Ne.symm de)];exact ne
  refine⟨e,some d,ws,sl,oa,va,rfl,gx,g1.1,g1.2.2,Xp,go,gd,gc C7,λh' gQ sb rz v0 v1=>?_⟩;exact W9 hp bX jK hex hk (I3.out F0.I.ok) sb Xr Xo rz ⟨_,_,_,gx⟩ v1 (v0.trans g0) (hE d nd)
 ·rw[DI];exact hr pins σ a C0 a0 H1 s1 H' B' od s' D F0 Mw h
theorem Xs{X:Cx}{st:Stmt}{h₀:ExceptHandler}{hs:List ExceptHandler}{pos:Pos}{tb:XK->TS}{th:TH}(bX:X.stack=X.env::X.outer)(hf:X.env.frame=some X.env.locals)(hb:∀E,vL X E st (tb E))(hh:wI X (h₀::hs) th) :
  PS X (.Try [st] (h₀::hs) [] [] pos) (vP X.K tb th):=by
 intro pins s σ H D I h;refine wpAny_Try_except (wpAny_execs_cons (wpAny_mono (hb _ pins s σ H D I h) (λf s1 q=>?_) λe s' z=>?_))
 ·cases f with
  | next=>exact wpAny_execs_nil (wpAny_execs_nil q)
  | ret v=>exact q
  | brk=>exact q
  | cont=>exact q
 ·obtain⟨H1,s1,I1,a,C,a0,H',B,od,rfl,ho,hg,u,az,na,nh,c,cC,hd,C',eC,xc,hE⟩:=z;cases eC;have F:Fl X pins σ a C a0 H1 s1 H' B od s':=⟨I1,ho,hg,u,az,na,nh,c,cC,hd⟩;have lC:=cC;rw[bX] at lC;refine Cs (by rw[I1.ok.frames,bX]) hf lC hd λh4 held lD lE=>?_
  refine Kr held lE λh5 rK rL lF=>?_;rw[← bX] at rK;exact hh pins σ a C a0 H1 s1 H' B _ _ D (F.move rK (lD.trans rL) lF) xc (hE a na)
section
variable{X:Cx}{k:Nat}{f:Addr}{cs:List Addr}{fd:FuncData}{ps:List Str}{sp:Sp}{aV:List V}{ds:List Value}{E:XK}{m:Str}{pos apos:Pos}{e o:Expr}{es:List Expr}{ta:TE}{t:TA}
theorem Xu{pl:Sem Bool}(he:PE X.iu o ta)(hc:∀C∈cs,eg X.K C/\Meth X.K C m f)(F:aU X.prog X.w X.K X.mg X.base (eB X.prog X.w X.base) k f fd ps sp)(hr:bR k X.A)(hb:Binds X.K fd ps ds)(hd:Vals aV ds)(ha:PA X.iu (e::es) t)
  (bX:starEach (e::es) X.env=(false,eval e X.env)::starEach es X.env:=by rfl) (cZ:(backTo pos (starEach es X.env)).any (·.1)=false:=by rfl)
  (ht:eval (.Call (.Attribute o m apos) (e::es) [] pos) X.env=(do
   let ov ← eval o X.env
   standAt apos.atName
   let (f,first) ← holding [ov] (getMethod ov m pl)
   callWith pos f first (backTo pos (starEach (e::es) X.env)) (backToKw pos (keywordEach [] X.env))):=by rfl) :
  nv X E (.Call (.Attribute o m apos) (e::es) [] pos) (rq cs m sp aV E ta t):=by
 intro pins s σ H Q I h;refine PySem.W.methodCall_KW (pl:=pl) (wpAny_mono (he pins s σ H _ (I.gF _) h) (λu s1 hz=>?_) λ_ _ z=>False.elim z) ht;obtain⟨x,H1,I1,rx,C,a,dx,fs,ex,ea,hC,hl,q⟩:=hz;subst ex;obtain rfl:u=Value.ref a:=rx;obtain⟨c1,c2⟩:=hc C hC;refine A9 I1.iw ea c1 c2 hl ?_;refine PySem.W.callWith_K (first:=[.ref a]) (h₀:=X.base) I.ok.mod.ig c2.kp (wpAny_mono (ha pos pins s1 σ H1 _ I1 q) (λus s2 ⟨vs,H2,I2,r,q2⟩=>⟨I2.bC,?_⟩) λ_ _ z=>False.elim z) bX cZ
 exact Kw (us:=.ref a::us) (vs:=.ref a::vs) F hr hb hd I2.iw (.cons rfl r) q2
end
noncomputable def lO(nc:List (Int×Int))(f m:Int):List (Int×Int):=(nc.drop f.toNat).take m.toNat
noncomputable def wJ(H:Hp)(d:Addr)(c:Int)(ask:V):Prop:=H d=some (dF d [(("cell" : Str),.int c),(("ask" : Str),ask)])
noncomputable def Xv(K:PySem.W.Frag)(X:Addr):Sp:=λvs H Q E=>∃(C p:Addr) (P:Pl) (fp:List Addr) (k:Int),vs = [.ref p,.int k]/\dI K C H p P fp/\
 (0<=k->k<P.nc.length->∀t q,P.nc[k.toNat]? = some q->H t=some (.tup [.int q.1,.int q.2])->Q (.ref t) H)/\(¬ (0<=k/\k<P.nc.length)->∀d H',ah H H'->wJ H' d k .aG->E (.ref X) (some (2*d)) H')
noncomputable def Xw(K:PySem.W.Frag)(cs:List Addr)(CA X:Addr):Sp:=λvs H Q E=>∃(C p ap:Addr) (P:Pl) (fp:List Addr) (q:Ak) (m b dx:Addr),vs = [.ref p,.ref ap]/\C∈cs/\dI K C H p P fp/\gS K CA H ap q m b dx/\0<=q.first/\q.first<=2000000/\0<=q.many/\q.many<=16/\P.nc.length<=1000000/\
 (q.first+q.many<=P.nc.length->∀l ts H',ah H H'->H l=none->Zn H' l ts (lO P.nc q.first q.many)->Q (.ref l) H')/\
 (P.nc.length<q.first+q.many->0<q.many/\∀d H',ah H H'->wJ H' d (max q.first P.nc.length) .aG->E (.ref X) (some (2*d)) H')
noncomputable def Xx(K:PySem.W.Frag)(cs:List Addr)(CA X:Addr):Sp:=λvs H Q E=>∃(C p ap:Addr) (k:Int) (P:Pl) (fp:List Addr) (q:Ak) (m b dx:Addr),vs = [.ref p,.int k,.ref ap]/\C∈cs/\dI K C H p P fp/\gS K CA H ap q m b dx/\0<=q.first/\q.first<=2000000/\0<=q.many/\q.many<=16/\P.nc.length<=1000000/\
 (q.first+q.many<=P.nc.length->∀l ts H',ah H H'->H l=none->Zn H' l ts (lO P.nc q.first q.many)->Q (.ref l) H')/\
 (P.nc.length<q.first+q.many->0<q.many/\∀d H',ah H H'->wJ H' d (max q.first P.nc.length) (.int k)->E (.ref X) (some (2*d+1)) H')
noncomputable def Xy(K:PySem.W.Frag)(cs:List Addr)(CA CD X:Addr):Sp:=λvs H Q E=>∃(C p pl ap dx:Addr) (n:Int) (P:Pl) (fp:List Addr) (q:Ak) (m b jh:Addr),vs = [.ref p,.ref pl,.int n,.ref ap]/\H p=some (.ins CD dx [])/\C∈cs/\dI K C H pl P fp/\p≠pl/\p∉fp/\gS K CA H ap q m b jh/\0<=q.first/\q.first<=2000000/\0<=q.many/\q.many<=16/\P.nc.length<=1000000/\
 (q.first+q.many<=P.nc.length->∀l ts H',SameBut p H H'->H' p=some (.ins CD dx [("number",.int n),("ask",.ref ap),("cells",.ref l)])->Zn H' l ts (lO P.nc q.first q.many)->Q .aG H')/\
 (P.nc.length<q.first+q.many->0<q.many/\∀d H',SameBut p H H'->wJ H' d (max q.first P.nc.length) (.int n)->E (.ref X) (some (2*d+1)) H')
noncomputable def Xz(c k:Int):Dt:=.lst [.tup [.int c,.aG,.bl true],.tup [.int c,.int k,.bl true]]
noncomputable def XA(K:PySem.W.Frag)(cs:List Addr)(CA:Addr):Sp:=λvs H Q _=>∃(C p ap:Addr) (k:Int) (P:Pl) (fp:List Addr) (q:Ak) (m b dx:Addr),vs = [.ref p,.ref ap,.int k]/\C∈cs/\dI K C H p P fp/\gS K CA H ap q m b dx/\0<=q.first/\q.first<=2000000/\0<q.many/\q.many<=16/\P.nc.length<=1000000/\P.nc.length<q.first+q.many/\
 ∀l H',ah H H'->Rep H' 3 (.ref l) (Xz (max q.first P.nc.length) k)->Q (.ref l) H'
theorem Zn.pushX{H:Hp}{l t:Addr}{ts:List Addr}{z:List (Int×Int)}{c:Int×Int}(h:Zn H l ts z)(ht:H t=some (.tup [.int c.1,.int c.2])):Zn (upd H l (.lst (ts.map V.ref++[V.ref t]))) l (ts++[t]) (z++[c]):=by
 have ne:∀ {a:Addr} {xs:List V},H a=some (.tup xs)->a≠l:=λe q=>by rw[q,h.l] at e;cases e
 refine⟨by rw[aB,List.map_append];rfl,by simp[h.n],λi t' p e1 e2=>?_⟩
 by_cases hi:i<ts.length
 ·rw[List.getElem?_append_left hi] at e1;rw[List.getElem?_append_left (by rw[← h.n];exact hi)] at e2
  have:=h.t i t' p e1 e2;rw[au (ne this)];exact this
 ·rw[List.getElem?_append_right (by lia)] at e1
  rw[List.getElem?_append_right (by rw[← h.n];lia),← h.n] at e2
  have hj:i - ts.length=0:=by
   have:=(List.getElem?_eq_some_iff.mp e1).1;simp at this;lia
  rw[hj] at e1 e2;cases e1;cases e2;rw[au (ne ht)];exact ht
theorem Rep.XC{H:Hp}:∀ {n:Nat} {v:V} {d:Dt},Rep H n v d->Rep H (n+1) v d:=by
 intro n v d h
 induction h with
 | aG=>exact .aG
 | bl b=>exact .bl b
 | int i=>exact .int i
 | str s=>exact .str s
 | tup h l hl r ih=>exact .tup h l hl ih
 | lst h l hl r ih=>exact .lst h l hl ih
theorem Mx{nc:List (Int×Int)}{f:Int}{i:Nat}{c:Int×Int}(h0:0<=f)(e:nc[(f+(i:Int)).toNat]? = some c):(nc.drop f.toNat).take (i+1)=(nc.drop f.toNat).take i++[c]:=by
 have:(nc.drop f.toNat)[i]? = some c:=by
  rw[List.getElem?_drop,show f.toNat+i=(f+(i:Int)).toNat by lia];exact e
 exact take_succ_get this
end _L
namespace _W
open PySem _L PyProof.Rows
theorem My{i j:Int}:jA (.int i) (.int j)=true:=rfl
theorem Mz{i j:Str}:jA (.str i) (.str j)=true:=rfl
theorem MA{i j:Bool}:jA (.bl i) (.bl j)=true:=rfl
theorem MB: jA (.aG) (.aG)=true:=rfl
theorem MC{i:Int}:jA (.aG) (.int i)=true:=rfl
theorem MD{i:Int}:jA (.int i) (.aG)=true:=rfl
theorem ME{i:Str}:jA (.aG) (.str i)=true:=rfl
theorem MF{i:Str}:jA (.str i) (.aG)=true:=rfl
local macro_rules | `(tactic| wp_walk using $ts,*)=>do
 let a ← ("Ml Mj Jc LM LN Ku vP CC Cw vO KJ Kv Ds Dn Dl Dm Dy DH LG nJ LH Ly Jp rq Jj Bq BA IG Ci Bh Bg I_ Bo Bm and_assoc uL HO.ins.injEq q9 gK cX String.reduceBEq List.lookup_cons List.lookup_nil aB HO.lst.injEq HO.dT.injEq HO.tup.injEq String.reduceEq false_and or_false false_or mX BO Jy BN Jw BJ BK Jz Bool.not_eq_true' decide_eq_false_iff_not Classical.not_not AR if_false_left if_false_right B5 AM gH List.length_map List.getElem?_nil AO qu kQ uY qq qt AU uU tC oO jR rI AY rU A5 tB AQ uX Io uW ve Bc u9 qK AN Ih AJ AK AL Ii Ij Bf Bd Br qN Bw Bx BB BD qM oZ A3 A4 My Mz MA MB MC MD ME MF qD A1 A2 A_ Bb IS u_ _L.start JN JO JP List.map_cons List.map_nil List.cons_append List.nil_append List.append_nil List.length_cons List.length_nil List.getElem?_cons_zero List.getElem?_cons_succ Option.some.injEq exists_eq_left exists_eq_left' exists_and_left exists_eq V.int.injEq V.ref.injEq V.bl.injEq V.ty.injEq V.str.injEq List.cons.injEq and_true true_and List.set_cons_zero List.set_cons_succ decide_eq_true_eq Nat.reduceSub Nat.reduceAdd List.replicate_succ List.replicate_zero List.replicate Int.reduceLT Int.reduceLE Int.reducePow Int.reduceToNat Int.reduceNeg Nat.reduceLT Nat.reduceLeDiff Nat.reducePow Int.reduceMul Int.reduceAdd Int.reduceSub and_self or_true true_or gt_iff_lt ge_iff_le if_true if_false Bool.false_eq_true reduceIte Nat.sub_self Nat.sub_zero".splitOn " ").toArray.mapM λx => `(Lean.Parser.Tactic.simpLemma| $(Lean.mkIdent x.toName):ident)
 let d:Array (Lean.TSyntax `term):=("T.X4 T.tT T.p8 T.p9 T.Fq T.Ft T.Fv T.Fw T.Fx T.Fy T.Fz T.FA T.FD T.y_ T.zb T.tU T.zc T.zd T.ze T.zf T.zg T.zh T.zj T.zm T.zo T.zp T.zq T.zu T.zw".splitOn " ").toArray.map λx=>⟨Lean.mkIdent x.toName⟩
 let b ← (ts.getElems.flatMap λt=>if t.raw.getId == `T then d else #[t]).mapM λt => `(Lean.Parser.Tactic.simpLemma| $t:term)
 let c:=a++b
 `(tactic| simp (maxSteps:=4000000) only[$c,*])
local macro_rules | `(tactic| walk_at "rdm") => `(tactic| wp_walk using and_self)
seal eO PS PE PT PW PA PG oJ PI PK PC PO k9
noncomputable def top(i:Nat):Stmt:=PySem.Challenge.pw_armswing_k22_stretches.main.body.getD i (.Pass ⟨0,0,0,0⟩)
noncomputable abbrev gq:Stmt:=inClass (top 4) 0
noncomputable abbrev DJ:Stmt:=inClass (top 15) 0
noncomputable abbrev DK:Stmt:=top 16
noncomputable abbrev DM:Stmt:=top 17
noncomputable abbrev DN:Stmt:=top 18
noncomputable abbrev DO:Stmt:=top 19
noncomputable abbrev gr:Stmt:=top 20
noncomputable abbrev iN:Stmt:=top 21
noncomputable abbrev DP:Stmt:=top 22
noncomputable abbrev DQ:Stmt:=top 24
noncomputable abbrev DR:Stmt:=top 25
noncomputable abbrev DS:Stmt:=inClass (top 26) 0
noncomputable abbrev DT:Stmt:=top 34
noncomputable abbrev DU:Stmt:=top 35
noncomputable abbrev DV:Stmt:=top 36
noncomputable abbrev DW:Stmt:=top 37
noncomputable abbrev DX:Stmt:=top 38
noncomputable abbrev DY:Stmt:=top 39
noncomputable abbrev DZ:Stmt:=top 40
noncomputable abbrev D0:Stmt:=inClass (top 41) 0
noncomputable abbrev D3:Stmt:=inClass (top 41) 1
noncomputable abbrev D4:Stmt:=inClass (top 41) 2
noncomputable abbrev D5:Stmt:=inClass (top 41) 8
noncomputable abbrev D6:Stmt:=inClass (top 41) 9
noncomputable abbrev D7:Stmt:=top 43
noncomputable abbrev D8:Stmt:=top 44
noncomputable abbrev D9:Stmt:=top 45
noncomputable abbrev fH:Stmt:=top 46
noncomputable abbrev D_:Stmt:=top 47
noncomputable abbrev Ea:Stmt:=top 48
noncomputable abbrev Eb:Stmt:=inClass (top 49) 0
noncomputable abbrev Ec:Stmt:=top 51
noncomputable abbrev Ed:Stmt:=top 52
noncomputable abbrev Ef:Stmt:=top 53
noncomputable abbrev Eg:Stmt:=top 54
noncomputable abbrev Eh:Stmt:=top 55
noncomputable abbrev Ei:Stmt:=top 56
noncomputable abbrev Ej:Stmt:=top 57
noncomputable abbrev Ek:Stmt:=top 58
noncomputable abbrev El:Stmt:=top 59
noncomputable abbrev Em:Stmt:=top 60
noncomputable abbrev En:Stmt:=top 61
noncomputable abbrev Eo:Stmt:=top 62
noncomputable abbrev Ep:Stmt:=top 63
noncomputable abbrev iO:Stmt:=top 64
theorem MG:bB ["self", "cell", "ask"] ["self", "cell", "ask"] (aQ gq):=⟨rfl,rfl,rfl,by decide +kernel,rfl,by decide +kernel,by decide +kernel⟩
theorem XD:bB ["self", "kind", "first", "many", "marks", "at", "asker", "latest", "behind", "early"] ["self", "kind", "first", "many", "marks", "at", "asker", "latest", "behind", "early"] (aQ DJ):=⟨rfl,rfl,rfl,by decide +kernel,rfl,by decide +kernel,by decide +kernel⟩
theorem XE:bB ["number", "least", "greatest", "words"] ["number", "least", "greatest", "words"] (aQ DK):=⟨rfl,rfl,rfl,by decide +kernel,rfl,by decide +kernel,by decide +kernel⟩
theorem wK:bB ["behind", "ahead", "number"] ["behind"] (aQ DM):=⟨rfl,rfl,rfl,by decide +kernel,rfl,by decide +kernel,by decide +kernel⟩
theorem XF:bB ["first", "many", "at", "asker", "latest", "behind"] ["first", "many", "at", "asker", "latest", "behind"] (aQ DN):=⟨rfl,rfl,rfl,by decide +kernel,rfl,by decide +kernel,by decide +kernel⟩
theorem XG:bB ["behind"] ["behind"] (aQ DO):=⟨rfl,rfl,rfl,by decide +kernel,rfl,by decide +kernel,by decide +kernel⟩
theorem MH:bB ["first", "many", "at", "asker", "latest", "behind", "others"] ["first", "many", "at", "asker", "latest", "behind"] (aQ gr):=⟨rfl,rfl,rfl,by decide +kernel,rfl,by decide +kernel,by decide +kernel⟩
theorem Er:bB ["first", "marks", "at", "asker", "latest", "behind", "early", "others", "mark"] ["first", "marks", "at", "asker", "latest", "behind", "early"] (aQ iN):=⟨rfl,rfl,rfl,by decide +kernel,rfl,by decide +kernel,by decide +kernel⟩
theorem XH:bB ["at"] ["at"] (aQ DP):=⟨rfl,rfl,rfl,by decide +kernel,rfl,by decide +kernel,by decide +kernel⟩
theorem XI:bB ["plate", "ask"] ["plate", "ask"] (aQ DQ):=⟨rfl,rfl,rfl,by decide +kernel,rfl,by decide +kernel,by decide +kernel⟩
theorem MI:bB ["plate", "number", "ask", "e"] ["plate", "number", "ask"] (aQ DR):=⟨rfl,rfl,rfl,by decide +kernel,rfl,by decide +kernel,by decide +kernel⟩
theorem XJ:bB ["self", "plate", "number", "ask"] ["self", "plate", "number", "ask"] (aQ DS):=⟨rfl,rfl,rfl,by decide +kernel,rfl,by decide +kernel,by decide +kernel⟩
theorem wL:bB ["zones", "rings", "cells", "in_all"] ["zones"] (aQ DT):=⟨rfl,rfl,rfl,by decide +kernel,rfl,by decide +kernel,by decide +kernel⟩
theorem Es:bB ["zones", "lap", "skew", "rings", "cells"] ["zones", "lap", "skew"] (aQ DU):=⟨rfl,rfl,rfl,by decide +kernel,rfl,by decide +kernel,by decide +kernel⟩
theorem MJ:bB ["swing", "rings", "far"] ["swing", "rings"] (aQ DV):=⟨rfl,rfl,rfl,by decide +kernel,rfl,by decide +kernel,by decide +kernel⟩
theorem Et:bB ["swing", "far", "part"] ["swing"] (aQ DW):=⟨rfl,rfl,rfl,by decide +kernel,rfl,by decide +kernel,by decide +kernel⟩
theorem wM:bB ["zones", "counts", "rings", "cells"] ["zones"] (aQ DX):=⟨rfl,rfl,rfl,by decide +kernel,rfl,by decide +kernel,by decide +kernel⟩
theorem sQ:bB ["ring_cells", "spares", "cells", "ring", "count", "place"] ["ring_cells", "spares"] (aQ DY):=⟨rfl,rfl,rfl,by decide +kernel,rfl,by decide +kernel,by decide +kernel⟩
theorem wN:bB ["number_cells", "numbers", "number", "cell"] ["number_cells"] (aQ DZ):=⟨rfl,rfl,rfl,by decide +kernel,rfl,by decide +kernel,by decide +kernel⟩
theorem XM:bB ["self", "zones", "lap", "skew", "swing"] ["self", "zones", "lap", "skew", "swing"] (aQ D0):=⟨rfl,rfl,rfl,by decide +kernel,rfl,by decide +kernel,by decide +kernel⟩
theorem XN:bB ["self"] ["self"] (aQ D3):=⟨rfl,rfl,rfl,by decide +kernel,rfl,by decide +kernel,by decide +kernel⟩
theorem XO:bB ["self"] ["self"] (aQ D4):=⟨rfl,rfl,rfl,by decide +kernel,rfl,by decide +kernel,by decide +kernel⟩
theorem XQ:bB ["self", "ring", "place"] ["self", "ring", "place"] (aQ D5):=⟨rfl,rfl,rfl,by decide +kernel,rfl,by decide +kernel,by decide +kernel⟩
theorem XR:bB ["self", "number"] ["self", "number"] (aQ D6):=⟨rfl,rfl,rfl,by decide +kernel,rfl,by decide +kernel,by decide +kernel⟩
theorem XS:bB ["spares", "ring_cells"] ["spares", "ring_cells"] (aQ D7):=⟨rfl,rfl,rfl,by decide +kernel,rfl,by decide +kernel,by decide +kernel⟩
theorem wO:bB ["plate", "bad", "found", "ring", "place"] ["plate", "bad"] (aQ D8):=⟨rfl,rfl,rfl,by decide +kernel,rfl,by decide +kernel,by decide +kernel⟩
theorem XT:bB ["number_cells", "bad_cells"] ["number_cells", "bad_cells"] (aQ D9):=⟨rfl,rfl,rfl,by decide +kernel,rfl,by decide +kernel,by decide +kernel⟩
theorem XU:bB ["ring", "rings"] ["ring", "rings"] (aQ fH):=⟨rfl,rfl,rfl,by decide +kernel,rfl,by decide +kernel,by decide +kernel⟩
theorem wQ:bB ["ring_cells", "spares", "ring", "used", "other", "count", "place"] ["ring_cells", "spares", "ring", "used"] (aQ D_):=⟨rfl,rfl,rfl,by decide +kernel,rfl,by decide +kernel,by decide +kernel⟩
theorem pT:bB ["ring_cells", "spares", "number_cells", "bad_cells", "moves", "used", "number", "cell", "other"] ["ring_cells", "spares", "number_cells", "bad_cells"] (aQ Ea):=⟨rfl,rfl,rfl,by decide +kernel,rfl,by decide +kernel,by decide +kernel⟩
theorem sR:bB ["self", "zones", "lap", "skew", "swing", "spares", "bad", "bad_cells", "number", "cell", "other"] ["self", "zones", "lap", "skew", "swing", "spares", "bad"] (aQ Eb):=⟨rfl,rfl,rfl,by decide +kernel,rfl,by decide +kernel,by decide +kernel⟩
theorem XW:bB ["_law_script", "_law_k"] ["_law_script", "_law_k"] (aQ Ec):=⟨rfl,rfl,rfl,by decide +kernel,rfl,by decide +kernel,by decide +kernel⟩
theorem MK:bB ["_law_found", "_law_due", "_law_k"] ["_law_found", "_law_due"] (aQ Ed):=⟨rfl,rfl,rfl,by decide +kernel,rfl,by decide +kernel,by decide +kernel⟩
theorem ML:bB ["_law_cell", "_law_k", "_law_by"] ["_law_cell", "_law_k"] (aQ Ef):=⟨rfl,rfl,rfl,by decide +kernel,rfl,by decide +kernel,by decide +kernel⟩
theorem sS:bB ["_law_a", "_law_b", "_law_many", "_law_zones_here", "_law_k"] ["_law_a", "_law_b"] (aQ Eg):=⟨rfl,rfl,rfl,by decide +kernel,rfl,by decide +kernel,by decide +kernel⟩
theorem wR:bB ["_law_zones_here", "_law_counts_here", "_law_many", "_law_cells"] ["_law_zones_here"] (aQ Eh):=⟨rfl,rfl,rfl,by decide +kernel,rfl,by decide +kernel,by decide +kernel⟩
theorem nR:bB ["_law_zones_here", "_law_cell", "_law_product", "_law_many", "_law_cells", "_law_most"] ["_law_zones_here", "_law_cell"] (aQ Ei):=⟨rfl,rfl,rfl,by decide +kernel,rfl,by decide +kernel,by decide +kernel⟩
theorem nU:bB ["_law_many", "_law_cell", "_law_step", "_law_swing_here", "_law_k", "_law_least"] ["_law_many", "_law_cell"] (aQ Ej):=⟨rfl,rfl,rfl,by decide +kernel,rfl,by decide +kernel,by decide +kernel⟩
theorem wU:bB ["_law_counts_here", "_law_spare", "_law_a", "_law_bad_here", "_law_k", "_law_ring"] ["_law_counts_here", "_law_spare", "_law_a"] (aQ Ek):=⟨rfl,rfl,rfl,by decide +kernel,rfl,by decide +kernel,by decide +kernel⟩
theorem sU:bB ["_law_cell", "_law_many", "_law_marks_here", "_law_k", "_law_number"] ["_law_cell", "_law_many"] (aQ El):=⟨rfl,rfl,rfl,by decide +kernel,rfl,by decide +kernel,by decide +kernel⟩
theorem gu:bB ["_law_cell", "_law_total", "_law_lap_here", "_law_at_here", "_law_others", "_law_kind", "_law_first", "_law_many", "_law_asker", "_law_latest", "_law_behind", "_law_marks_here"] ["_law_cell", "_law_total", "_law_lap_here", "_law_at_here", "_law_others"] (aQ Em):=⟨rfl,rfl,rfl,by decide +kernel,rfl,by decide +kernel,by decide +kernel⟩
theorem XX:bB ["_law_spec_here"] ["_law_spec_here"] (aQ En):=⟨rfl,rfl,rfl,by decide +kernel,rfl,by decide +kernel,by decide +kernel⟩
theorem sV:bB ["_law_ask_here", "_law_spec_here", "_law_kind", "_law_due", "_law_found"] ["_law_ask_here", "_law_spec_here"] (aQ Eo):=⟨rfl,rfl,rfl,by decide +kernel,rfl,by decide +kernel,by decide +kernel⟩
theorem wV:bB ["_law_plate", "_law_ask_here", "_law_number", "_law_found", "e"] ["_law_plate", "_law_ask_here", "_law_number"] (aQ Ep):=⟨rfl,rfl,rfl,by decide +kernel,rfl,by decide +kernel,by decide +kernel⟩
theorem fj:bB ["_law_script", "_law_zones_here", "_law_counts_here", "_law_lap_here", "_law_swing_here", "_law_spare", "_law_plate", "_law_total", "_law_cell", "_law_spec_here", "_law_ask_here", "_law_number", "_law_due", "_law_made", "_law_first", "_law_beyond"] ["_law_script"] (aQ iO):=⟨rfl,rfl,rfl,by decide +kernel,rfl,by decide +kernel,by decide +kernel⟩
set_option genInjectivity false
set_option genSizeOf false
structure kD where
 sW:Addr
 pU:FuncData
 wW:Addr
 wX:FuncData
 wY:Addr
 wZ:FuncData
 w4:Addr
 w5:FuncData
 w6:Addr
 w_:FuncData
 xg:Addr
 xh:FuncData
 xj:Addr
 sX:FuncData
 Eu:Tok
 xm:Addr
 xq:FuncData
 XY:Tok
 xr:Addr
 xu:FuncData
 xw:Addr
 xx:FuncData
 xy:Addr
 xA:FuncData
 xB:Addr
 xC:FuncData
 xD:Addr
 xE:FuncData
 xF:Addr
 xG:FuncData
 xH:Addr
 xJ:FuncData
 xK:Addr
 xM:FuncData
 xN:Addr
 xO:FuncData
 xP:Addr
 xQ:FuncData
 xR:Addr
 xS:FuncData
 sY:Addr
 xT:FuncData
 pW:Addr
 xU:FuncData
 pX:Addr
 xV:FuncData
 pY:Addr
 xW:FuncData
 pZ:Addr
 xX:FuncData
 xY:Addr
 xZ:FuncData
 x_:Addr
 ya:FuncData
 yc:Addr
 yd:FuncData
 sZ:Addr
 p7:FuncData
 yf:Addr
 yg:FuncData
 yh:Addr
 yi:FuncData
 yj:Addr
 yl:FuncData
 ym:Addr
 yp:FuncData
 s_:Addr
 tu:FuncData
 yq:Addr
 yr:FuncData
 yt:Addr
 yu:FuncData
 yw:Addr
 yx:FuncData
 yy:Addr
 yz:FuncData
 yC:Addr
 yD:FuncData
 yE:Addr
 yF:FuncData
 yG:Addr
 yH:FuncData
 yI:Addr
 yJ:FuncData
 yK:Addr
 yL:FuncData
 yM:Addr
 yN:FuncData
 yO:Addr
 yP:FuncData
 yQ:Addr
 yR:FuncData
 bN:Addr
 cV:Addr
 bu:Addr
 bf:Addr
 fq:Addr
 bg:Addr
 bq:Addr
 aZ:Addr
 tw:Tok
 tD:Tok
 tE:Tok
 tF:Tok
 tG:Tok
 tH:Tok
 tK:Tok
 tL:Tok
 tM:Tok
 tN:Tok
 tO:Tok
 tQ:Tok
 tR:Tok
structure Tx(K:W.Frag)(mg:Str->Option Value)(A:kD):Prop where
 Ew:lK K "__init__" "NoCell.__init__" gq A.sW A.pU
 MM:Binds K A.pU ["self", "cell", "ask"] [.none]
 MN:Binds K A.pU ["self", "cell", "ask"] []
 MO:aP K "__init__" "Ask.__init__" DJ A.wW A.wX
 yS:Binds K A.wX ["self", "kind", "first", "many", "marks", "at", "asker", "latest", "behind", "early"] []
 jL:aP K "check_between" "check_between" DK A.wY A.wZ
 kE:Binds K A.wZ ["number", "least", "greatest", "words"] []
 kF:mg "check_between" = some (.ref A.wY)
 Ex:aP K "check_behind" "check_behind" DM A.w4 A.w5
 MP:Binds K A.w5 ["behind"] []
 MQ:mg "check_behind" = some (.ref A.w4)
 yT:aP K "check_fields" "check_fields" DN A.w6 A.w_
 Ey:Binds K A.w_ ["first", "many", "at", "asker", "latest", "behind"] []
 Ez:mg "check_fields" = some (.ref A.w6)
 yU:aP K "told_behind" "told_behind" DO A.xg A.xh
 EA:Binds K A.xh ["behind"] []
 EB:mg "told_behind" = some (.ref A.xg)
 yV:lK K "reading" "reading" gr A.xj A.sX
 MR:Binds K A.sX ["first", "many", "at", "asker", "latest", "behind"] [.int 0 A.Eu,.none,.none]
 MS:Binds K A.sX ["first", "many", "at", "asker", "latest", "behind"] []
 EC:mg "reading" = some (.ref A.xj)
 ED:lK K "writing" "writing" iN A.xm A.xq
 MT:Binds K A.xq ["first", "marks", "at", "asker", "latest", "behind", "early"] []
 MU:mg "writing" = some (.ref A.xm)
 yW:aP K "resting" "resting" DP A.xr A.xu
 EF:Binds K A.xu ["at"] []
 EG:mg "resting" = some (.ref A.xr)
 lP:aP K "stretch" "stretch" DQ A.xw A.xx
 nW:Binds K A.xx ["plate", "ask"] []
 nX:mg "stretch" = some (.ref A.xw)
 EH:aP K "stretch_by_number" "stretch_by_number" DR A.xy A.xA
 MV:Binds K A.xA ["plate", "number", "ask"] []
 MW:mg "stretch_by_number" = some (.ref A.xy)
 MX:aP K "__init__" "Due.__init__" DS A.xB A.xC
 EI:Binds K A.xC ["self", "plate", "number", "ask"] []
 EJ:aP K "check_zones" "check_zones" DT A.xD A.xE
 MY:Binds K A.xE ["zones"] []
 MZ:mg "check_zones" = some (.ref A.xD)
 EK:aP K "check_turning" "check_turning" DU A.xF A.xG
 M0:Binds K A.xG ["zones", "lap", "skew"] []
 M3:mg "check_turning" = some (.ref A.xF)
 EL:aP K "check_swing" "check_swing" DV A.xH A.xJ
 M4:Binds K A.xJ ["swing", "rings"] []
 M5:mg "check_swing" = some (.ref A.xH)
 EM:aP K "check_no_detour" "check_no_detour" DW A.xK A.xM
 M7:Binds K A.xM ["swing"] []
 M8:mg "check_no_detour" = some (.ref A.xK)
 EN:aP K "cells_by_ring" "cells_by_ring" DX A.xN A.xO
 M9:Binds K A.xO ["zones"] []
 M_:mg "cells_by_ring" = some (.ref A.xN)
 yX:aP K "cells_by_number" "cells_by_number" DY A.xP A.xQ
 EO:Binds K A.xQ ["ring_cells", "spares"] []
 ER:mg "cells_by_number" = some (.ref A.xP)
 yY:aP K "numbers_by_cell" "numbers_by_cell" DZ A.xR A.xS
 ES:Binds K A.xS ["number_cells"] []
 ET:mg "numbers_by_cell" = some (.ref A.xR)
 Na:aP K "__init__" "Plate.__init__" D0 A.sY A.xT
 EU:Binds K A.xT ["self", "zones", "lap", "skew", "swing"] []
 Nb:aP K "rings" "Plate.rings" D3 A.pW A.xU
 XZ:Binds K A.xU ["self"] []
 Nc:Meth K A.bu "rings" A.pW
 Nd:Meth K A.bf "rings" A.pW
 Nf:aP K "total" "Plate.total" D4 A.pX A.xV
 Ng:Binds K A.xV ["self"] []
 Nh:Meth K A.bu "total" A.pX
 Ni:Meth K A.bf "total" A.pX
 Nj:aP K "has_cell" "Plate.has_cell" D5 A.pY A.xW
 Nk:Binds K A.xW ["self", "ring", "place"] []
 Nl:Meth K A.bu "has_cell" A.pY
 Nm:Meth K A.bf "has_cell" A.pY
 Nn:aP K "cell_at" "Plate.cell_at" D6 A.pZ A.xX
 EV:Binds K A.xX ["self", "number"] []
 Np:Meth K A.bu "cell_at" A.pZ
 Nq:Meth K A.bf "cell_at" A.pZ
 EW:aP K "check_spares" "check_spares" D7 A.xY A.xZ
 Nr:Binds K A.xZ ["spares", "ring_cells"] []
 Nt:mg "check_spares" = some (.ref A.xY)
 EY:aP K "bad_by_cell" "bad_by_cell" D8 A.x_ A.ya
 Nu:Binds K A.ya ["plate", "bad"] []
 Nv:mg "bad_by_cell" = some (.ref A.x_)
 EZ:aP K "bad_numbers" "bad_numbers" D9 A.yc A.yd
 Nx:Binds K A.yd ["number_cells", "bad_cells"] []
 Ny:mg "bad_numbers" = some (.ref A.yc)
 E3:aP K "nearest_rings" "nearest_rings" fH A.sZ A.p7
 Nz:Binds K A.p7 ["ring", "rings"] []
 NB:mg "nearest_rings" = some (.ref A.sZ)
 E4:aP K "free_kept_cell" "free_kept_cell" D_ A.yf A.yg
 NC:Binds K A.yg ["ring_cells", "spares", "ring", "used"] []
 ND:mg "free_kept_cell" = some (.ref A.yf)
 E5:aP K "lay_elsewhere" "lay_elsewhere" Ea A.yh A.yi
 NF:Binds K A.yi ["ring_cells", "spares", "number_cells", "bad_cells"] []
 NG:mg "lay_elsewhere" = some (.ref A.yh)
 NH:aP K "__init__" "Mended.__init__" Eb A.yj A.yl
 NI:Binds K A.yl ["self", "zones", "lap", "skew", "swing", "spares", "bad"] []
 kG:aP K "_law_at" "_law_at" Ec A.ym A.yp
 lQ:Binds K A.yp ["_law_script", "_law_k"] []
 lR:mg "_law_at" = some (.ref A.ym)
 kH:aP K "_law_same" "_law_same" Ed A.s_ A.tu
 lT:Binds K A.tu ["_law_found", "_law_due"] []
 lU:mg "_law_same" = some (.ref A.s_)
 bV:aP K "_law_mix" "_law_mix" Ef A.yq A.yr
 bY:Binds K A.yr ["_law_cell", "_law_k"] []
 bZ:mg "_law_mix" = some (.ref A.yq)
 E6:aP K "_law_zones" "_law_zones" Eg A.yt A.yu
 NJ:Binds K A.yu ["_law_a", "_law_b"] []
 NK:mg "_law_zones" = some (.ref A.yt)
 E7:aP K "_law_counts" "_law_counts" Eh A.yw A.yx
 NL:Binds K A.yx ["_law_zones_here"] []
 NN:mg "_law_counts" = some (.ref A.yw)
 E8:aP K "_law_lap" "_law_lap" Ei A.yy A.yz
 NO:Binds K A.yz ["_law_zones_here", "_law_cell"] []
 NP:mg "_law_lap" = some (.ref A.yy)
 E9:aP K "_law_swing" "_law_swing" Ej A.yC A.yD
 NQ:Binds K A.yD ["_law_many", "_law_cell"] []
 NR:mg "_law_swing" = some (.ref A.yC)
 E_:aP K "_law_bad" "_law_bad" Ek A.yE A.yF
 NS:Binds K A.yF ["_law_counts_here", "_law_spare", "_law_a"] []
 NT:mg "_law_bad" = some (.ref A.yE)
 Fb:aP K "_law_marks" "_law_marks" El A.yG A.yH
 NU:Binds K A.yH ["_law_cell", "_law_many"] []
 NV:mg "_law_marks" = some (.ref A.yG)
 Fc:aP K "_law_spec" "_law_spec" Em A.yI A.yJ
 NW:Binds K A.yJ ["_law_cell", "_law_total", "_law_lap_here", "_law_at_here", "_law_others"] []
 NY:mg "_law_spec" = some (.ref A.yI)
 Fd:aP K "_law_ask" "_law_ask" En A.yK A.yL
 NZ:Binds K A.yL ["_law_spec_here"] []
 N1:mg "_law_ask" = some (.ref A.yK)
 Fe:aP K "_law_fields" "_law_fields" Eo A.yM A.yN
 N3:Binds K A.yN ["_law_ask_here", "_law_spec_here"] []
 N6:mg "_law_fields" = some (.ref A.yM)
 Ff:aP K "_law_refused" "_law_refused" Ep A.yO A.yP
 N7:Binds K A.yP ["_law_plate", "_law_ask_here", "_law_number"] []
 N8:mg "_law_refused" = some (.ref A.yO)
 N9:aP K "law" "law" iO A.yQ A.yR
 X0:Binds K A.yR ["_law_script"] []
 X3:mg "law" = some (.ref A.yQ)
 N_:Kf K A.bu "__init__" A.sY
 Fg:W.findIn K (.ref A.bf) "__class__" = some (some (.builtin "object.__class__"))
 Fi:W.specialIn K (.builtin "object.__class__") "__get__" = some (some (.builtin "getset_descriptor.__get__"))
 Fj:W.takesIn K (.builtin "object.__class__")=some true
 Fo:W.mroIn K A.bf (.type "object")=some true
 Fp:W.kitOne K (.ref A.bf) (.ref A.bu)=some true
 X4:eg K A.bN
 yZ:Mk K A.bN A.wW
 y9:mg "Ask" = some (.ref A.bN)
 Fq:bM K A.bN "kind"
 Ft:bM K A.bN "first"
 Fv:bM K A.bN "many"
 Fw:bM K A.bN "marks"
 Fx:bM K A.bN "at"
 Fy:bM K A.bN "asker"
 Fz:bM K A.bN "latest"
 FA:bM K A.bN "behind"
 FD:bM K A.bN "early"
 tT:eg K A.cV
 FE:Mk K A.cV A.xB
 FF:mg "Due" = some (.ref A.cV)
 y_:bM K A.cV "number"
 zb:bM K A.cV "ask"
 tU:bM K A.cV "cells"
 p8:eg K A.bu
 Oa:Mk K A.bu A.sY
 FG:mg "Plate" = some (.ref A.bu)
 zc:bM K A.bu "ring_cells"
 zd:bM K A.bu "lap"
 ze:bM K A.bu "skew"
 zf:bM K A.bu "swing"
 zg:bM K A.bu "number_cells"
 zh:bM K A.bu "cell_numbers"
 p9:eg K A.bf
 Ob:Mk K A.bf A.yj
 Oc:mg "Mended" = some (.ref A.bf)
 zj:bM K A.bf "ring_cells"
 zm:bM K A.bf "lap"
 zo:bM K A.bf "skew"
 zp:bM K A.bf "swing"
 zq:bM K A.bf "number_cells"
 zu:bM K A.bf "cell_numbers"
 zw:bM K A.bf "moves"
 Od:mg "MOST_CELLS" = some (.int 16 A.tw)
 Oe:mg "GREATEST_FIRST" = some (.int 1000000 A.tD)
 Of:mg "GREATEST_MARK" = some (.int 1000000000 A.tE)
 FH:mg "GREATEST_AT" = some (.int 1000000000000 A.tF)
 Og:mg "GREATEST_ASKER" = some (.int 20 A.tG)
 Oh:mg "GREATEST_LATEST" = some (.int 10000000000000 A.tH)
 Oi:mg "GREATEST_BEHIND" = some (.int 99 A.tK)
 Oj:mg "MOST_ZONES" = some (.int 5 A.tL)
 Ol:mg "MOST_RINGS_IN_ZONE" = some (.int 40 A.tM)
 Om:mg "MOST_CELLS_IN_RING" = some (.int 60 A.tN)
 Oo:mg "LEAST_RINGS" = some (.int 2 A.tO)
 Oq:mg "MOST_RINGS" = some (.int 120 A.tQ)
 FI:mg "MOST_BEATS" = some (.int 1000000000 A.tR)
 zx:mg "abs" = none
 tV:mg "bool" = none
 zy:mg "dict" = none
 p_:mg "enumerate" = none
 tW:mg "int" = none
 fX:mg "isinstance" = none
 dM:mg "len" = none
 jM:mg "list" = none
 nY:mg "max" = none
 lV:mg "min" = none
 fJ:mg "range" = none
 tX:mg "sorted" = none
 tY:mg "str" = none
 zz:mg "sum" = none
 jN:mg "tuple" = none
 Ot:A.p7.code = .ref A.bq
 tZ:mg "ArmError" = some (.ref A.fq)
 zA:W.excIn K A.fq [.type "ValueError",.type "Exception",.type "BaseException",.type "object"] "ValueError.__new__" = true
 X5:g_ K A.fq
 FJ:L4 K A.fq "__init__" "ValueError.__init__"
 qa:mg "NoCell" = some (.ref A.bg)
 nZ:g_ K A.bg
 n8:wD K A.bg A.sW [.type "ValueError",.type "Exception",.type "BaseException",.type "object"] "ValueError.__new__"
 jO:ku K A.bg
 lW:bM K A.bg "cell"
 n_:bM K A.bg "ask"
 lX:nA K A.bg
 FL:(W.clsIn K A.bg).isSome=true
 t_:W.kitOne K (.ref A.bg) (.ref A.fq)=some true
 X6:subIn K A.bg (.ref A.fq)=true
 FN:W.kitOne K (.ref A.bg) (.ref A.bg)=some true
 zB:subIn K A.bg (.ref A.bg)=true
 FO:W.kitOne K (.ref A.bg) (.type "ValueError")=some true
theorem Tx.X7{K:W.Frag}{mg:Str->Option Value}{A:kD}(T:Tx K mg A):CP K A.bu:=⟨T.p8,T.zc,T.zd,T.ze,T.zf,T.zg,T.zh⟩
theorem Tx.X8{K:W.Frag}{mg:Str->Option Value}{A:kD}(T:Tx K mg A):CP K A.bf:=⟨T.p9,T.zj,T.zm,T.zo,T.zp,T.zq,T.zu⟩
theorem Tx.acQ{K:W.Frag}{mg:Str->Option Value}{A:kD}(T:Tx K mg A):∀C∈[A.bu,A.bf],eg K C/\Meth K C "rings" A.pW:=by
 intro C hC;simp only[List.mem_cons,List.not_mem_nil,or_false] at hC;rcases hC with rfl | rfl
 ·exact⟨T.p8,T.Nc⟩
 ·exact⟨T.p9,T.Nd⟩
theorem Tx.X_{K:W.Frag}{mg:Str->Option Value}{A:kD}(T:Tx K mg A):∀C∈[A.bu,A.bf],eg K C/\Meth K C "total" A.pX:=by
 intro C hC;simp only[List.mem_cons,List.not_mem_nil,or_false] at hC;rcases hC with rfl | rfl
 ·exact⟨T.p8,T.Nh⟩
 ·exact⟨T.p9,T.Ni⟩
theorem Tx.Yb{K:W.Frag}{mg:Str->Option Value}{A:kD}(T:Tx K mg A):∀C∈[A.bu,A.bf],eg K C/\Meth K C "has_cell" A.pY:=by
 intro C hC;simp only[List.mem_cons,List.not_mem_nil,or_false] at hC;rcases hC with rfl | rfl
 ·exact⟨T.p8,T.Nl⟩
 ·exact⟨T.p9,T.Nm⟩
theorem Tx.Ou{K:W.Frag}{mg:Str->Option Value}{A:kD}(T:Tx K mg A):∀C∈[A.bu,A.bf],eg K C/\Meth K C "cell_at" A.pZ:=by
 intro C hC;simp only[List.mem_cons,List.not_mem_nil,or_false] at hC;rcases hC with rfl | rfl
 ·exact⟨T.p8,T.Np⟩
 ·exact⟨T.p9,T.Nq⟩
local macro_rules | `(tactic| walk_at "rdt") => `(tactic| wp_walk using $(Lean.mkIdent `T))
section
variable{P:Program}{w:World}{K:W.Frag}{mg:Str->Option Value}{base:Heap}{A:kD}
theorem Yc(T:Tx K mg A):∀n,aU P w K mg base br (n+1) A.s_ A.tu ["_law_found", "_law_due"] (J6 n):=by
 intro n
 induction n with
 | zero=>exact⟨λ_ _ _ _ h=>h.elim,λ_ _ _ _ _ _ _ _ _ _ _ _ _ h=>h.elim⟩
 | succ n ih =>
  refine T.kH.ok MK (λvs H Q E h=>?_) (λaO Ar outer s H vs Q E hr h=>?_)
  ·obtain⟨v1,v2,d,rfl,_⟩:=h
   rfl
  ·obtain⟨v1,v2,d,rfl,r1,r2,q⟩:=h;have hu:=mR hr;refine⟨_,(aC (bI (PW.pt (gf (bw jS (bT jC rfl T.fX boot_isinstance (aa (pv 1) (aa (ir (v:=.ty "tuple") rfl T.jN boot_tuple rfl) aj))) (bT jC rfl T.fX boot_isinstance (aa (pv 0) (aa (ir (v:=.ty "tuple") rfl T.jN boot_tuple rfl) aj))) (a_ _)) (gb (bw jS (bT jC rfl T.fX boot_isinstance (aa (pv 1) (aa (ir (v:=.ty "list") rfl T.jM boot_list rfl) aj))) (bT jC rfl T.fX boot_isinstance (aa (pv 0) (aa (ir (v:=.ty "list") rfl T.jM boot_list rfl) aj))) (a_ _))))) (aL (bE fy)) bH)
   (aC (bI (kO (bT SR rfl T.fX boot_isinstance (aa (pv 1) (aa (cY (aa (ir (v:=.ty "tuple") rfl T.jN boot_tuple rfl) (aa (ir (v:=.ty "list") rfl T.jM boot_list rfl) aj))) aj)))) (aC (bI (bw jS (bT eT rfl T.dM boot_len (aa (pv 0) aj)) (bT eT rfl T.dM boot_len (aa (pv 1) aj)) (a_ _)) (aL (bE fy)) bH)
   (aC (dw PassesOwn.never rfl (qA rfl T.fJ (aa (bT eT rfl T.dM boot_len (aa (pv 1) aj)) aj)) (b7 (i:=2) MK.nd rfl (Or.inl rfl))
   (aL (bI (mw (kO (aM ih (hr.mono (by first | decide | lia)) rfl T.lU T.kH.kp T.lT .nil aJ (aa (bF Jg (pv 0) (pv 2) (λ_ _=>rfl)) (aa (bF Jg (pv 1) (pv 2) (λ_ _=>rfl)) aj))))) (aL (bE fy)) bH)))
   (aL (bE fy)))) bH)
   (aC (bI (bw u5 (pv 1) ju (a_ _)) (aL (bE (mF u5 (pv 0) ju (a_ _)))) bH)
   (aC (bI (PW.pt (gf (bw jS (bT jC rfl T.fX boot_isinstance (aa (pv 1) (aa (ir (v:=.ty "bool") rfl T.tV boot_bool rfl) aj))) (bT jC rfl T.fX boot_isinstance (aa (pv 0) (aa (ir (v:=.ty "bool") rfl T.tV boot_bool rfl) aj))) (a_ _)) (gb (bw jS (bT jC rfl T.fX boot_isinstance (aa (pv 1) (aa (ir (v:=.ty "str") rfl T.tY boot_str rfl) aj))) (bT jC rfl T.fX boot_isinstance (aa (pv 0) (aa (ir (v:=.ty "str") rfl T.tY boot_str rfl) aj))) (a_ _))))) (aL (bE fy)) bH)
   (aL (bE (Il (mF d_ (bT jC rfl T.fX boot_isinstance (aa (pv 1) (aa (ir (v:=.ty "int") rfl T.tW boot_int rfl) aj))) (bT jC rfl T.fX boot_isinstance (aa (pv 0) (aa (ir (v:=.ty "int") rfl T.tW boot_int rfl) aj))) (a_ _)) (Ik (mF d_ (pv 0) (pv 1) (a_ _)))))))))),?_⟩
   walk_at "rdm";cases r1 with
   | int i =>
    cases r2;refine⟨_,.int i,_,rfl,_,.int i,_,rfl,ite_no (by simp) ⟨_,.int i,_,rfl,_,.int i,_,rfl,ite_no (by simp) (λp hp=>⟨["tuple", "list"],rfl,_,.int i,_,rfl,ite_no (by decide) (ite_no (by simp) ?_)⟩)⟩⟩
    refine⟨_,.int i,_,rfl,_,.int i,_,rfl,ite_no (by simp) ⟨_,.int i,_,rfl,_,.int i,_,rfl,ite_no (by simp) ⟨_,.int i,_,rfl,_,.int i,_,rfl,ite_yes rfl ⟨rfl,?_⟩⟩⟩⟩
    have:=q _ (ah.put (o:=HO.tup [V.ty "tuple",V.ty "list"]) hp);simpa using this
   | bl i =>
    cases r2;refine⟨_,.bl i,_,rfl,_,.bl i,_,rfl,ite_no (by simp) ⟨_,.bl i,_,rfl,_,.bl i,_,rfl,ite_no (by simp) (λp hp=>⟨["tuple", "list"],rfl,_,.bl i,_,rfl,ite_no (by decide) (ite_no (by simp) ?_)⟩)⟩⟩
    refine⟨_,.bl i,_,rfl,_,.bl i,_,rfl,ite_no (by simp) ⟨_,.bl i,_,rfl,_,.bl i,_,rfl,ite_no (by simp) ⟨_,.bl i,_,rfl,_,.bl i,_,rfl,ite_yes rfl ⟨rfl,?_⟩⟩⟩⟩
    have:=q _ (ah.put (o:=HO.tup [V.ty "tuple",V.ty "list"]) hp);simpa using this
   | str i =>
    cases r2;refine⟨_,.str i,_,rfl,_,.str i,_,rfl,ite_no (by simp) ⟨_,.str i,_,rfl,_,.str i,_,rfl,ite_no (by simp) (λp hp=>⟨["tuple", "list"],rfl,_,.str i,_,rfl,ite_no (by decide) (ite_no (by simp) ?_)⟩)⟩⟩
    refine⟨_,.str i,_,rfl,_,.str i,_,rfl,ite_no (by simp) ⟨_,.str i,_,rfl,_,.str i,_,rfl,ite_no (by simp) ⟨_,.str i,_,rfl,_,.str i,_,rfl,ite_yes rfl ⟨rfl,?_⟩⟩⟩⟩
    have:=q _ (ah.put (o:=HO.tup [V.ty "tuple",V.ty "list"]) hp);simpa using this
   | aG =>
    cases r2;refine⟨_,.aG,_,rfl,_,.aG,_,rfl,ite_no (by simp) ⟨_,.aG,_,rfl,_,.aG,_,rfl,ite_no (by simp) (λp hp=>⟨["tuple", "list"],rfl,_,.aG,_,rfl,ite_no (by decide) (ite_yes rfl ?_)⟩)⟩⟩
    exact q _ (ah.put hp)
   | @lst _ a xs ds h l hl r =>
    cases r2 with
    | @lst _ a' uc _ h' l' gJ r' =>
    refine⟨_,.lst h',_,rfl,_,.lst h,_,rfl,ite_no (by simp) ⟨_,.lst h',_,rfl,_,.lst h,_,rfl,ite_no (by simp) (λp hp=>⟨["tuple", "list"],rfl,_,.lst (ah.put hp _ _ h'),_,rfl,ite_yes (by decide) ?_⟩)⟩⟩
    have s0:=ah.put (o:=HO.tup [V.ty "tuple",V.ty "list"]) hp;refine⟨_,rfl,_,.inl (aH.of (s0 _ _ h)),_,rfl,_,.inl (aH.of (s0 _ _ h')),ite_no (by lia) ?_⟩
    refine Cg ds.length (λi σ H'=>∃kk,σ = [some (.ref a),some (.ref a'),kk]/\ah H H') (λQ q=>?_) (by lia) ⟨none,rfl,s0⟩ ?_ ?_
    ·walk_at "rdm";refine⟨_,.inl (aH.of (s0 _ _ h')),?_⟩;rw[l'];exact q
    ·rintro i σ H' N hN hi ⟨kk,rfl,hs⟩;walk_at "rdm";have g1:xs[i]? = some xs[i]:=List.getElem?_eq_getElem (by lia)
     have g2:uc[i]? = some uc[i]:=List.getElem?_eq_getElem (by lia)
     have g3:ds[i]? = some ds[i]:=List.getElem?_eq_getElem hi;refine Kd ⟨_,_,_,_,rfl,rfl,aH.of (hs _ _ h),oY g1,Kd ⟨_,_,_,_,rfl,rfl,aH.of (hs _ _ h'),oY g2,⟨_,_,ds[i],rfl,(r i _ _ g1 g3).same hs,(r' i _ _ g2 g3).same hs,λH2 s2=>⟨true,rfl,?_⟩⟩⟩⟩;exact ite_no (by simp) (hN _ _ ⟨_,rfl,hs.trans s2⟩)
    ·rintro σ H' ⟨kk,rfl,hs⟩;walk_at "rdm";exact q _ hs
   | @tup _ a xs ds h l hl r =>
    cases r2 with
    | @tup _ a' uc _ h' l' gJ r' =>
    refine⟨_,.tup h',_,rfl,_,.tup h,_,rfl,ite_no (by simp) ⟨_,.tup h',_,rfl,_,.tup h,_,rfl,ite_no (by simp) (λp hp=>⟨["tuple", "list"],rfl,_,.tup (ah.put hp _ _ h'),_,rfl,ite_yes (by decide) ?_⟩)⟩⟩
    have s0:=ah.put (o:=HO.tup [V.ty "tuple",V.ty "list"]) hp;refine⟨_,rfl,_,.inr (bA.of (s0 _ _ h)),_,rfl,_,.inr (bA.of (s0 _ _ h')),ite_no (by lia) ?_⟩
    refine Cg ds.length (λi σ H'=>∃kk,σ = [some (.ref a),some (.ref a'),kk]/\ah H H') (λQ q=>?_) (by lia) ⟨none,rfl,s0⟩ ?_ ?_
    ·walk_at "rdm";refine⟨_,.inr (bA.of (s0 _ _ h')),?_⟩;rw[l'];exact q
    ·rintro i σ H' N hN hi ⟨kk,rfl,hs⟩;walk_at "rdm";have g1:xs[i]? = some xs[i]:=List.getElem?_eq_getElem (by lia)
     have g2:uc[i]? = some uc[i]:=List.getElem?_eq_getElem (by lia)
     have g3:ds[i]? = some ds[i]:=List.getElem?_eq_getElem hi;refine Ke ⟨_,_,_,_,rfl,rfl,bA.of (hs _ _ h),oY g1,Ke ⟨_,_,_,_,rfl,rfl,bA.of (hs _ _ h'),oY g2,⟨_,_,ds[i],rfl,(r i _ _ g1 g3).same hs,(r' i _ _ g2 g3).same hs,λH2 s2=>⟨true,rfl,?_⟩⟩⟩⟩;exact ite_no (by simp) (hN _ _ ⟨_,rfl,hs.trans s2⟩)
    ·rintro σ H' ⟨kk,rfl,hs⟩;walk_at "rdm";exact q _ hs
theorem Ov(T:Tx K mg A)(aI:bx mg base A.bq A.aZ):aU P w K mg base br 8 A.s_ A.tu ["_law_found", "_law_due"] (Ti K):=(Yc T 5).mono (by decide)
theorem Ow(T:Tx K mg A)(aI:bx mg base A.bq A.aZ):aU P w K mg base br 1 A.sW A.pU ["self", "cell", "ask"] (nN A.bg ["cell", "ask"]):=by
 refine T.Ew.ok MG (λvs H Q E h=>?_) (λaO Ar outer s H vs Q E hr h=>?_)
 ·obtain⟨a,us,rfl,l,_⟩:=h;exact congrArg (· + 1) l
 ·obtain⟨a,us,rfl,l,ha,q⟩:=h
  match us,l with
  | [x,y],_ =>
   refine⟨_,(aC (cO (L5 rfl T.tZ T.FJ PySem.F.excBase_ValueError (aa (pv 0) (aa (pv 1) (aa (pv 2) aj)))))
   (aC (LY (pv 0) (pv 1) rfl)
   (aL (LZ (pv 0) (pv 2) rfl)))),?_⟩
   walk_at "rdm";refine⟨_,ha,T.n8.ok,_,T.n8.wF,_,ha,T.jO,T.lW,λd nd=>?_⟩;have da:d≠a:=λz=>by rw[z,ha] at nd;cases nd
   refine⟨_,_,(au da.symm).trans aB,_,aB,T.jO,T.n_,(show (1:Nat)<1000 by decide),?_⟩
   rw[uL,show cX (Str.ofString "ask") y [(Str.ofString "cell",x)] = [(Str.ofString "cell",x),(Str.ofString "ask",y)] by unfold cX;rw[if_neg (by decide)];rfl]
   exact q d nd
theorem Yd(T:Tx K mg A)(aI:bx mg base A.bq A.aZ):wH P w K mg base 1 A.sW A.pU ["self", "cell", "ask"] (nN A.bg ["cell", "ask"]):=by
 refine T.Ew.WW MG (λvs H Q E h=>?_) (λaO Ar outer s H vs Q E hr h=>?_)
 ·obtain⟨a,us,rfl,l,_⟩:=h;exact congrArg (· + 1) l
 ·obtain⟨a,us,rfl,l,ha,q⟩:=h
  match us,l with
  | [x,y],_ =>
   refine⟨_,(aC (cO (L5 rfl T.tZ T.FJ PySem.F.excBase_ValueError (aa (pv 0) (aa (pv 1) (aa (pv 2) aj)))))
   (aC (LY (pv 0) (pv 1) rfl)
   (aL (LZ (pv 0) (pv 2) rfl)))),?_⟩
   walk_at "rdm";refine⟨_,ha,T.n8.ok,_,T.n8.wF,_,ha,T.jO,T.lW,λd nd=>?_⟩;have da:d≠a:=λz=>by rw[z,ha] at nd;cases nd
   refine⟨_,_,(au da.symm).trans aB,_,aB,T.jO,T.n_,(show (1:Nat)<1000 by decide),?_⟩
   rw[uL,show cX (Str.ofString "ask") y [(Str.ofString "cell",x)] = [(Str.ofString "cell",x),(Str.ofString "ask",y)] by unfold cX;rw[if_neg (by decide)];rfl]
   exact q d nd
theorem FP(T:Tx K mg A)(aI:bx mg base A.bq A.aZ):aU P w K mg base br 1 A.wW A.wX ["self", "kind", "first", "many", "marks", "at", "asker", "latest", "behind", "early"] (V3 A.bN):=by
 refine T.MO.ok XD (λvs H Q E h=>?_) (λaO Ar outer s H vs Q E hr h=>?_)
 ·obtain⟨p,dx,v1,v2,v3,v4,v5,v6,v7,v8,v9,rfl,_⟩:=h
  rfl
 ·obtain⟨p,dx,v1,v2,v3,v4,v5,v6,v7,v8,v9,rfl,hp,q⟩:=h;refine⟨_,(aC (dU (pv 0) (pv 1) rfl)
   (aC (dU (pv 0) (pv 2) rfl)
   (aC (dU (pv 0) (pv 3) rfl)
   (aC (dU (pv 0) (pv 4) rfl)
   (aC (dU (pv 0) (pv 5) rfl)
   (aC (dU (pv 0) (pv 6) rfl)
   (aC (dU (pv 0) (pv 7) rfl)
   (aC (dU (pv 0) (pv 8) rfl)
   (aL (dU (pv 0) (pv 9) rfl)))))))))),?_⟩
  wp_walk using T,hp;exact q
theorem zC(T:Tx K mg A)(aI:bx mg base A.bq A.aZ):aU P w K mg base br 1 A.wY A.wZ ["number", "least", "greatest", "words"] VZ:=by
 refine T.jL.ok XE (λvs H Q E h=>?_) (λaO Ar outer s H vs Q E hr h=>?_)
 ·obtain⟨n,lo,hi,w,rfl,_⟩:=h
  rfl
 ·obtain⟨n,lo,hi,w,rfl,h1,h2,q⟩:=h;refine⟨_,(aL (bI (PW.pt (gf (bw gG (pv 0) (pv 1) (a_ _)) (gb (bw kY (pv 0) (pv 2) (a_ _))))) fO bH)),?_⟩;walk_at "rdm";exact⟨by lia,by lia,q⟩
theorem Ox(T:Tx K mg A)(aI:bx mg base A.bq A.aZ):aU P w K mg base br 1 A.xg A.xh ["behind"] (V2 K):=by
 refine T.yU.ok XG (λvs H Q E h=>?_) (λaO Ar outer s H vs Q E hr h=>?_)
 ·obtain⟨v,ns,rfl,_⟩:=h
  rfl
 ·obtain⟨v,ns,rfl,hv,q⟩:=h;refine⟨_,(aL (bE (Rr (bw u5 (pv 0) ju (a_ _)) (cY aj) (jU vf rfl T.jN boot_tuple (aa (pv 0) aj))))),?_⟩;walk_at "rdm";rcases hv with⟨rfl,rfl⟩ | ⟨a,rfl,hS | hS⟩
  ·exact ite_yes rfl λt nt=>q t _ (ah.put nt) aB
  ·exact ite_no (by simp) ⟨a,rfl,_,.inl ⟨hS,λl nl=>q l _ (ah.put nl) aB⟩⟩
  ·exact ite_no (by simp) ⟨a,rfl,_,.inr ⟨bA.of hS,q a _ (ah.refl _) hS⟩⟩
theorem Ye(T:Tx K mg A)(aI:bx mg base A.bq A.aZ):aU P w K mg base br 1 A.xD A.xE ["zones"] (S4 K):=by
 refine T.EJ.ok wL (λvs H Q E h=>?_) (λaO Ar outer s H vs Q E hr h=>?_)
 ·obtain⟨a,ts,z,rfl,_⟩:=h
  rfl
 ·obtain⟨a,ts,z,rfl,hz,ok,q⟩:=h;refine⟨_,(aC (bI (PW.pt (gf (bw gG (bT eT rfl T.dM boot_len (aa (pv 0) aj)) ao (a_ _)) (gb (bw kY (bT eT rfl T.dM boot_len (aa (pv 0) aj)) (fz (v:=.int 5) rfl T.Oj ⟨_,rfl⟩) (a_ _))))) fO bH)
   (aC (dw PassesOwn.never rfl (gW (pv 0)) (jw rfl (dQ (b7 (i:=1) wL.nd rfl (Or.inl rfl)) (dQ (b7 (i:=2) wL.nd rfl (Or.inl rfl)) jv)))
   (aC (bI (PW.pt (gf (bw gG (pv 1) ao (a_ _)) (gb (bw kY (pv 1) (fz (v:=.int 40) rfl T.Ol ⟨_,rfl⟩) (a_ _))))) fO bH)
   (aL (bI (PW.pt (gf (bw gG (pv 2) ao (a_ _)) (gb (bw kY (pv 2) (fz (v:=.int 60) rfl T.Om ⟨_,rfl⟩) (a_ _))))) fO bH))))
   (aC (aY (i:=3) wL.nd rfl (Or.inl rfl) (bT (SN rfl) rfl T.zz boot_sum (aa (vB (N:=["zone"]) (nt:=1) (fv:=[]) (dX.of rfl rfl (by rfl) (by rfl) (by repeat (first | exact trivial | refine⟨rfl,?_⟩)) (by rfl) (by rfl) (by rfl) (by decide) (by decide +kernel)) rfl (gW (pv 0)) (λC s H fp=>(b7 (i:=0) (show List.Nodup (["zone"]:List Str) by decide +kernel) rfl (Or.inl rfl))) (λC s H fp=>vA) (λC s H fp=>(bF (JX (K:=K) rfl) (pv 0) ao (λ_ _=>rfl)))) aj)))
   (aL (bI (PW.pt (gf (bw gG (pv 3) (fz (v:=.int 2) rfl T.Oo ⟨_,rfl⟩) (a_ _)) (gb (bw kY (pv 3) (fz (v:=.int 120) rfl T.Oq ⟨_,rfl⟩) (a_ _))))) fO bH))))),?_⟩
  walk_at "rdm";have hn:=hz.n;have l1:=ok.l1;have l5:=ok.l5;refine⟨_,.inl hz.sq,by simp only[List.length_map];lia,_,.inl hz.sq,by simp only[List.length_map];lia,?_⟩
  refine rl a (ts.map V.ref) (λi σ H'=>∃r c,σ = [some (.ref a),r,c,none]/\H' = H) (λQ q=>⟨_,rfl,q⟩) hz.sq ⟨none,none,rfl,rfl⟩ (by rintro i σ H' _ ⟨r,c,rfl,rfl⟩;exact hz.sq) ?_ ?_
  ·rintro i x σ H' N hN hx ⟨r,c,rfl,rfl⟩;obtain⟨t,p,rfl,hp,ht⟩:=hz.at hx;refine j7 (bA.of ht) rfl ?_;walk_at "rdm";obtain⟨h1,h2,h3,h4⟩:=ok.r p (get_mem hp);exact⟨by lia,by lia,by lia,by lia,hN _ _ ⟨_,_,rfl,rfl⟩⟩
  ·rintro σ H' ⟨r,c,rfl,rfl⟩;walk_at "rdm";refine J0 a (ts.map V.ref) (λD i ys aD H2=>ys=((z.take i).map λp=>V.int p.1)/\H2 D=some (.lst ys)/\ah H' H2/\H' D=none/\i<=z.length/\∃u,aD = [u]) (λQ q=>⟨_,rfl,q⟩) hz.sq ?_ ?_ ?_ ?_
   ·intro D hD;exact⟨rfl,aB,ah.put hD,hD,Nat.zero_le _,_,rfl⟩
   ·rintro D i ys aD H2 ⟨e,e1,e2,e3,e4,_⟩;refine⟨e1,?_,e2.seq hz.sq⟩;rw[e];refine qU ?_;simp only[List.length_map,List.length_take];lia
   ·rintro D i x ys aD H2 N hN hx ⟨e,e1,e2,e3,e4,u,rfl⟩;obtain⟨t,p,rfl,hp,ht⟩:=hz.at hx;have hl:=iF hp;walk_at "rdm";refine⟨_,bA.of (e2 _ _ ht),_,rfl,e1,hN _ _ _ ⟨?_,aB,ah.put2 e2 e3,e3,hl,_,rfl⟩⟩;rw[take_succ_get hp,List.map_append,e];rfl
   ·rintro D ys aD H2 ⟨e,e1,e2,e3,e4,u,rfl⟩;have e5:ys=(z.map λp=>p.1).map V.int:=by
     rw[e,lenZ hz.n,List.take_length,List.map_map];rfl
    rw[e5] at e1;walk_at "rdm";have s2:=ok.s2;have s1:=ok.vD;exact⟨_,aH.of e1,by lia,by lia,q _ e2⟩
theorem Yg(T:Tx K mg A)(aI:bx mg base A.bq A.aZ):aU P w K mg base br 1 A.xF A.xG ["zones", "lap", "skew"] (S5 K):=by
 refine T.EK.ok Es (λvs H Q E h=>?_) (λaO Ar outer s H vs Q E hr h=>?_)
 ·obtain⟨a,ts,z,aW,cj,rfl,_⟩:=h
  rfl
 ·obtain⟨a,ts,z,aW,cj,rfl,hz,ok,h1,h2,h3,h4,hd,q⟩:=h;refine⟨_,(aC (bI (PW.pt (gf (bw gG (pv 1) ao (a_ _)) (gb (bw kY (pv 1) (fz (v:=.int 1000000000) rfl T.FI ⟨_,rfl⟩) (a_ _))))) fO bH)
   (aC (dw PassesOwn.never rfl (gW (pv 0)) (jw rfl (dQ (b7 (i:=3) Es.nd rfl (Or.inl rfl)) (dQ (b7 (i:=4) Es.nd rfl (Or.inl rfl)) jv)))
   (aL (bI (bw jS (aF bL (pv 1) (pv 4)) ao (a_ _)) fO bH)))
   (aL (bI (PW.pt (gf (bw gG (pv 2) ao (a_ _)) (gb (bw qE (pv 2) (pv 1) (a_ _))))) fO bH)))),?_⟩
  walk_at "rdm";refine⟨by lia,by lia,?_⟩
  refine rl a (ts.map V.ref) (λi σ H'=>∃r c,σ = [some (.ref a),some (.int aW),some (.int cj),r,c]/\H' = H) (λQ q=>⟨_,rfl,q⟩) hz.sq ⟨none,none,rfl,rfl⟩ (by rintro i σ H' _ ⟨r,c,rfl,rfl⟩;exact hz.sq) ?_ ?_
  ·rintro i x σ H' N hN hx ⟨r,c,rfl,rfl⟩;obtain⟨t,p,rfl,hp,ht⟩:=hz.at hx;refine j7 (bA.of ht) rfl ?_;obtain⟨g1,g2,g3,g4⟩:=ok.r p (get_mem hp);have g5:=hd p (get_mem hp);walk_at "rdm";exact⟨by lia,g5,hN _ _ ⟨_,_,rfl,rfl⟩⟩
  ·rintro σ H' ⟨r,c,rfl,rfl⟩;walk_at "rdm";exact⟨by lia,by lia,q⟩
theorem Yh(T:Tx K mg A)(aI:bx mg base A.bq A.aZ):aU P w K mg base br 1 A.xK A.xM ["swing"] (S7 K):=by
 refine T.EM.ok Et (λvs H Q E h=>?_) (λaO Ar outer s H vs Q E hr h=>?_)
 ·obtain⟨a,sw,n,rfl,_⟩:=h
  rfl
 ·obtain⟨a,sw,n,rfl,hS,ok,hn,q⟩:=h;refine⟨_,(aL (dw PassesOwn.never rfl (kW rfl T.fJ (aa ao (aa (bT eT rfl T.dM boot_len (aa (pv 0) aj)) aj))) (b7 (i:=1) Et.nd rfl (Or.inl rfl))
   (aL (dw PassesOwn.never rfl (kW rfl T.fJ (aa ao (aa (aF cg (aF u0 (pv 1) ao) ao) aj))) (b7 (i:=2) Et.nd rfl (Or.inl rfl))
   (aL (bI (bw kY (bF eS (pv 0) (pv 1) (λ_ _=>rfl)) (aF cg (bF eS (pv 0) (pv 2) (λ_ _=>rfl)) (bF eS (pv 0) (aF iU (pv 1) (pv 2)) (λ_ _=>rfl))) (a_ _)) fO bH)))))),?_⟩
  walk_at "rdm";have hl:=ok.len;have h2:=ok.two;refine lq 2 (sw.length:Int) (λi σ H'=>∃r c,σ = [some (.ref a),r,c]/\H' = H) (λQ q=>?_) (by lia) (by lia) (by lia) (by lia) ⟨none,none,rfl,rfl⟩ ?_ ?_
  ·walk_at "rdm";refine⟨_,.inl hS,?_⟩;simpa using q
  ·rintro i σ H' N hN hi ⟨r,c,rfl,rfl⟩;walk_at "rdm";refine lq 1 ((2+(i:Int)) / 2+1) (λj σ H2=>∃c,σ = [some (.ref a),some (.int (2+(i:Int))),c]/\H2=H') (λQ q=>?_) (by lia) (by lia) (by lia) (by lia) ⟨_,rfl,rfl⟩ ?_ ?_
   ·walk_at "rdm";exact q
   ·rintro j σ H2 N2 oh hj ⟨c,rfl,rfl⟩;walk_at "rdm";have e1:((2:Int)+(i:Int)).toNat=(1+j)+(1+i - j):=by lia
    have e2:((1:Int)+(j:Int)).toNat=1+j:=by lia
    have e3:((2:Int)+(i:Int) - (1+(j:Int))).toNat=1+i - j:=by lia
    have g:=ok.no (1+j) (1+i - j) (by lia) (by lia) (by lia)
    refine⟨_,hS,_,g7 (by lia) (by lia),_,hS,_,g7 (by lia) (by lia),_,hS,_,g7 (by lia) (by lia),?_⟩
    walk_at "rdm";rw[e1,e2,e3];exact⟨by lia,oh _ _ ⟨_,rfl,rfl⟩⟩
   ·rintro σ H2 ⟨c,rfl,rfl⟩;exact hN _ _ ⟨_,_,rfl,rfl⟩
  ·rintro σ H' ⟨r,c,rfl,rfl⟩;exact q
theorem Yi(T:Tx K mg A)(aI:bx mg base A.bq A.aZ):aU P w K mg base br 1 A.xN A.xO ["zones"] (J5 K):=by
 refine T.EN.ok wM (λvs H Q E h=>?_) (λaO Ar outer s H vs Q E hr h=>?_)
 ·obtain⟨a,ts,z,rfl,_⟩:=h
  rfl
 ·obtain⟨a,ts,z,rfl,hz,ok,q⟩:=h;refine⟨_,(aC (aY (i:=1) wM.nd rfl (Or.inl rfl) (dG aj))
   (aC (dw PassesOwn.never rfl (gW (pv 0)) (jw rfl (dQ (b7 (i:=2) wM.nd rfl (Or.inl rfl)) (dQ (b7 (i:=3) wM.nd rfl (Or.inl rfl)) jv)))
   (aL (cO (jV PySem.F.plainAttrs_list PySem.F.slot_list_extend PySem.F.type_list_extend Jo (pv 1) (aa (aF Jr (dG (aa (pv 3) aj)) (pv 2)) aj)))))
   (aL (bE (pv 1))))),?_⟩
  walk_at "rdm";refine λl hl=>?_;refine rl a (ts.map V.ref) (λi σ H'=>∃r c,σ = [some (.ref a),some (.ref l),r,c]/\ah H H'/\H' l=some (.lst ((counts (z.take i)).map V.int))) (λQ q=>⟨_,rfl,q⟩) (ah.put hl |>.seq hz.sq) ⟨none,none,rfl,ah.put hl,aB⟩ (by rintro i σ H' _ ⟨r,c,rfl,hs,_⟩;exact hs.seq hz.sq) ?_ ?_
  ·rintro i x σ H' N hN hx ⟨r,c,rfl,hs,h1⟩;obtain⟨t,p,rfl,hp,ht⟩:=hz.at hx;refine j7 (bA.of (hs _ _ ht)) rfl ?_;obtain⟨g1,g2,g3,g4⟩:=ok.r p (get_mem hp);have g5:=JV ok i;walk_at "rdm";refine⟨⟨_,aH.of h1⟩,λp1 dN=>⟨by lia,by lia,by lia,λp2 kI=>?_⟩⟩
   have s1:=(ah.put (o:=.lst [V.int p.2]) dN).trans (ah.put (o:=.lst (List.replicate p.1.toNat [V.int p.2]).flatten) kI);refine⟨_,s1 _ _ h1,?_,hN _ _ ⟨_,_,rfl,ah.put2 (hs.trans s1) hl,?_⟩⟩
   ·simp only[vE,List.length_map,List.length_replicate];lia
   ·rw[aB,take_succ_get hp,Ce,List.map_append,vE];simp[counts]
  ·rintro σ H' ⟨r,c,rfl,hs,h1⟩;walk_at "rdm";rw[lenZ hz.n,List.take_length] at h1;exact q _ _ hs hl h1
theorem Oz(T:Tx K mg A)(aI:bx mg base A.bq A.aZ):aU P w K mg base br 1 A.xP A.xQ ["ring_cells", "spares"] (S8 K):=by
 refine T.yX.ok sQ (λvs H Q E h=>?_) (λaO Ar outer s H vs Q E hr h=>?_)
 ·obtain⟨a,rc,s,rfl,_⟩:=h
  rfl
 ·obtain⟨a,rc,s,rfl,hS,hl,hc,fS,FQ,q⟩:=h;refine⟨_,(aC (aY (i:=2) sQ.nd rfl (Or.inl rfl) (dG aj))
   (aC (dw PassesOwn.never rfl (Cb rfl T.p_ (aa (pv 0) aj)) (jw rfl (dQ (b7 (i:=3) sQ.nd rfl (Or.inl rfl)) (dQ (b7 (i:=4) sQ.nd rfl (Or.inl rfl)) jv)))
   (aL (dw PassesOwn.never rfl (qA rfl T.fJ (aa (aF iU (pv 4) (pv 1)) aj)) (b7 (i:=5) sQ.nd rfl (Or.inl rfl))
   (aL (cO (jV PySem.F.plainAttrs_list PySem.F.slot_list_append PySem.F.type_list_append jW (pv 2) (aa (cY (aa (pv 3) (aa (pv 5) aj))) aj)))))))
   (aL (bE (pv 2))))),?_⟩
  walk_at "rdm";refine λl cE=>?_;have vV:=S2 (s:=s) fS (λc hx=>hc c hx);refine re a (rc.map V.int) (λi σ H'=>∃r c pl ts,σ = [some (.ref a),some (.int s),some (.ref l),r,c,pl]/\ah H H'/\(∀t∈ts,H t=none)/\Zn H' l ts (dg s 0 (rc.take i))) (λQ q=>?_) (ah.put cE |>.seq hS)
   ⟨none,none,none,[],rfl,ah.put cE,(by intro t ht;cases ht),aB,rfl,by intro i t p h;simp at h⟩ (by rintro i σ H' _ ⟨r,c,pl,ts,rfl,hs,_⟩;exact hs.seq hS) ?_ ?_
  ·walk_at "rdm";exact q
  ·rintro i x σ H' T1 N hN hx ⟨r,c,pl,ts,rfl,hs,ji,hz⟩ hT;obtain⟨c0,FT,rfl⟩:=j6 hx;obtain⟨g1,g2⟩:=hc c0 (get_mem FT);refine j7 (bA.of aB) rfl ?_;walk_at "rdm";have OA:=ah.put (o:=.tup [.int i,.int c0]) hT;refine JY (c0 - s) (λj σ H2=>∃pl ts,σ = [some (.ref a),some (.int s),some (.ref l),some (.int i),some (.int c0),pl]/\ah H H2/\(∀t∈ts,H t=none)/\Zn H2 l ts (dg s 0 (rc.take i)++(List.range j).map λ(k:Nat)=>((i:Int),(k:Int)))) (λQ q=>?_) (by lia) (by lia) ?_ ?_ ?_
   ·walk_at "rdm";exact q
   ·exact⟨_,ts,rfl,hs.trans OA,ji,by simpa using hz.same OA⟩
   ·rintro j σ H2 N2 oh hj ⟨pl,ts,rfl,jy,FU,fY⟩;walk_at "rdm";refine⟨⟨_,fY.sq⟩,λp hp=>⟨_,ah.put hp _ _ fY.l,?_,oh _ _ ⟨_,ts++[p],rfl,ah.put2 (jy.trans (ah.put hp)) cE,?_,?_⟩⟩⟩
    ·have h1:=fY.n;have h2:=vV i;simp only[List.length_map,List.length_append,List.length_range] at h1 ⊢;lia
    ·intro t ht;rcases List.mem_append.mp ht with ht | ht
     ·exact FU t ht
     ·rw[List.mem_singleton.mp ht];exact jy.free hp
    ·have:=fY.snoc hp (i:Int) (j:Int);rw[List.range_succ,List.map_append,← List.append_assoc];exact this
   ·rintro σ H2 ⟨pl,ts,rfl,jy,FU,fY⟩;refine hN _ _ ⟨_,_,_,ts,rfl,jy,FU,?_⟩;rw[take_succ_get FT,JR];have hi:=iF FT;simpa[dg,Nat.min_eq_left (Nat.le_of_lt hi)] using fY
  ·rintro σ H' ⟨r,c,pl,ts,rfl,hs,ji,hz⟩;walk_at "rdm";rw[List.length_map,List.take_length] at hz;exact q _ _ _ hs cE ji hz
theorem OB(T:Tx K mg A)(aI:bx mg base A.bq A.aZ):aU P w K mg base br 1 A.xR A.xS ["number_cells"] (S9 K):=by
 refine T.yY.ok wN (λvs H Q E h=>?_) (λaO Ar outer s H vs Q E hr h=>?_)
 ·obtain⟨a,ts,z,rfl,_⟩:=h
  rfl
 ·obtain⟨a,ts,z,rfl,hz,hlen,q⟩:=h;have hu:=mR hr;refine⟨_,(aC (aY (i:=1) wN.nd rfl (Or.inl rfl) BP)
   (aC (dw PassesOwn.never rfl (Cb rfl T.p_ (aa (pv 0) aj)) (jw rfl (dQ (b7 (i:=2) wN.nd rfl (Or.inl rfl)) (dQ (b7 (i:=3) wN.nd rfl (Or.inl rfl)) jv)))
   (aL (vo hu (pv 1) (pv 3) (pv 2) rfl)))
   (aL (bE (pv 1))))),?_⟩
  walk_at "rdm";refine λd hd=>?_;refine re a (ts.map V.ref) (λi σ H'=>∃r c,σ = [some (.ref a),some (.ref d),r,c]/\ah H H'/\i<=z.length/\H' d=some (.dT (g8 0 (z.take i) []))) (λQ q=>?_) (ah.put hd |>.seq hz.sq)
   ⟨none,none,rfl,ah.put hd,Nat.zero_le _,aB⟩ (by rintro i σ H' _ ⟨r,c,rfl,hs,_⟩;exact hs.seq hz.sq) ?_ ?_
  ·walk_at "rdm";exact q
  ·rintro i x σ H' T1 N hN hx ⟨r,c,rfl,hs,hi,h1⟩ hT;obtain⟨t,p,rfl,hp,ht⟩:=hz.at hx;refine j7 (bA.of aB) rfl ?_;walk_at "rdm";have FQ:=hs.trans (ah.put (o:=.tup [.int i,.ref t]) hT);have hl:=JT (z.take i) 0 [];have ue:=iF hp;rw[List.length_take,List.length_nil] at hl;refine⟨_,k6.t (k:=kT p) (ah.put hT _ _ h1) (FQ _ _ ht) (by rw[mX];lia),hN _ _ ⟨_,_,rfl,ah.put2 FQ hd,ue,?_⟩⟩
   rw[aB,take_succ_get hp,JS];simp[g8,Nat.min_eq_left (Nat.le_of_lt ue)]
  ·rintro σ H' ⟨r,c,rfl,hs,hi,h1⟩;walk_at "rdm";rw[lenZ hz.n,List.take_length] at h1;exact q _ _ hs hd h1
theorem acR(T:Tx K mg A)(aI:bx mg base A.bq A.aZ):aU P w K mg base br 1 A.pW A.xU ["self"] (Te K):=by
 refine T.Nb.ok XN (λvs H Q E h=>?_) (λaO Ar outer s H vs Q E hr h=>?_)
 ·obtain⟨C,p,P,fp,rfl,_⟩:=h
  rfl
 ·obtain⟨C,p,P,fp,rfl,hP,q⟩:=h;obtain⟨dx,a1,a2,a3,a4,ts,fs,rfl,h⟩:=hP;refine⟨_,(aL (bE (bT eT rfl T.dM boot_len (aa (cK (pv 0) rfl) aj)))),?_⟩;wp_walk using T,h.o,h.f1,h.f2,h.f3,h.f4,h.f5,h.f6,h.m1,h.m2,h.m3,h.m4,h.m5,h.m6,h.m7,h.m8,h.m9,h.mZ,h.m_,h.cp.cl,h.cp.n1,h.cp.n2,h.cp.n3,h.cp.n4,h.cp.n5,h.cp.n6;exact⟨_,.inl (aH.of h.rc),by simpa  using q⟩
theorem Yj(T:Tx K mg A)(aI:bx mg base A.bq A.aZ):aU P w K mg base br 1 A.pX A.xV ["self"] (Tf K):=by
 refine T.Nf.ok XO (λvs H Q E h=>?_) (λaO Ar outer s H vs Q E hr h=>?_)
 ·obtain⟨C,p,P,fp,rfl,_⟩:=h
  rfl
 ·obtain⟨C,p,P,fp,rfl,hP,q⟩:=h;obtain⟨dx,a1,a2,a3,a4,ts,fs,rfl,h⟩:=hP;refine⟨_,(aL (bE (bT eT rfl T.dM boot_len (aa (cK (pv 0) rfl) aj)))),?_⟩;wp_walk using T,h.o,h.f1,h.f2,h.f3,h.f4,h.f5,h.f6,h.m1,h.m2,h.m3,h.m4,h.m5,h.m6,h.m7,h.m8,h.m9,h.mZ,h.m_,h.cp.cl,h.cp.n1,h.cp.n2,h.cp.n3,h.cp.n4,h.cp.n5,h.cp.n6;exact⟨_,.inl (h.nc.sq),by simpa[h.nc.n] using q⟩
theorem Yk(T:Tx K mg A)(aI:bx mg base A.bq A.aZ):aU P w K mg base br 1 A.pY A.xW ["self", "ring", "place"] (Tg K):=by
 refine T.Nj.ok XQ (λvs H Q E h=>?_) (λaO Ar outer s H vs Q E hr h=>?_)
 ·obtain⟨C,p,P,fp,r,c,rfl,_⟩:=h
  rfl
 ·obtain⟨C,p,P,fp,r,c,rfl,hP,q⟩:=h;obtain⟨dx,a1,a2,a3,a4,ts,fs,rfl,h⟩:=hP;refine⟨_,(aC (bI (PW.pt (gf (bw gG (pv 1) ao (a_ _)) (gb (bw qE (pv 1) (bT eT rfl T.dM boot_len (aa (cK (pv 0) rfl) aj)) (a_ _))))) (aL (bE fy)) bH)
   (aL (bE (Il (mF qE (pv 2) ao (a_ _)) (Ik (mF gG (pv 2) (bF eS (cK (pv 0) rfl) (pv 1) (λ_ _=>rfl)) (a_ _))))))),?_⟩
  wp_walk using h.o,h.f1,h.f2,h.f3,h.f4,h.f5,h.f6,h.m1,h.m2,h.m3,h.m4,h.m5,h.m6,h.m7,h.m8,h.m9,h.mZ,h.m_,h.cp.cl,h.cp.n1,h.cp.n2,h.cp.n3,h.cp.n4,h.cp.n5,h.cp.n6;refine dz (λh0=>?_) (λh0=>⟨_,.inl (aH.of h.rc),dz (λh1=>?_) (λh1=>?_)⟩)
  ·rw[decide_eq_false (by lia)] at q;exact q
  ·rw[List.length_map] at h1;rw[decide_eq_false (by lia)] at q;exact q
  ·rw[List.length_map] at h1;refine dz (λh2=>⟨_,aH.of h.rc,_,g7 (by lia) (by lia),?_⟩) (λh2=>?_)
   ·walk_at "rdm";have e:decide (c<P.rc.getD r.toNat 0)=decide (0<=r/\r<P.rc.length/\0<=c/\c<P.rc.getD r.toNat 0):=by
     by_cases h3:c<P.rc.getD r.toNat 0
     ·rw[decide_eq_true h3,decide_eq_true ⟨by lia,by lia,h2,h3⟩]
     ·rw[decide_eq_false h3,decide_eq_false (by lia)]
    rw[e];exact q
   ·rw[decide_eq_false (by lia)] at q;exact q
theorem Yl(T:Tx K mg A)(aI:bx mg base A.bq A.aZ):aU P w K mg base br 1 A.xY A.xZ ["spares", "ring_cells"] (TR K):=by
 refine T.EW.ok XS (λvs H Q E h=>?_) (λaO Ar outer s H vs Q E hr h=>?_)
 ·obtain⟨a,rc,s,rfl,_⟩:=h
  rfl
 ·obtain⟨a,rc,s,rfl,hS,hl,h0,hc,q⟩:=h;refine⟨_,(aL (bI (PW.pt (gf (bw gG (pv 0) ao (a_ _)) (gb (bw qE (pv 0) (bT (JI rfl) rfl T.lV boot_min (aa (pv 1) aj)) (a_ _))))) fO bH)),?_⟩;walk_at "rdm";refine⟨by lia,_,hS,hl,λM hM zD=>⟨?_,q⟩⟩
  have:=hc M hM;lia
theorem Ym(T:Tx K mg A)(aI:bx mg base A.bq A.aZ):aU P w K mg base br 1 A.yc A.yd ["number_cells", "bad_cells"] (TV K):=by
 refine T.EZ.ok XT (λvs H Q E h=>?_) (λaO Ar outer s H vs Q E hr h=>?_)
 ·obtain⟨a,d,ts,z,aq,rfl,_⟩:=h
  rfl
 ·obtain⟨a,d,ts,z,aq,rfl,hz,hlen,hd,q⟩:=h;have hu:=mR hr;refine⟨_,(aL (bE (vB (N:=["number", "cell", "bad_cells"]) (nt:=2) (fv:=[1]) (dX.of rfl rfl (by rfl) (by rfl) (by repeat (first | exact trivial | refine⟨rfl,?_⟩)) (by rfl) (by rfl) (by rfl) (by decide) (by decide +kernel)) rfl (Cb rfl T.p_ (aa (pv 0) aj)) (λC s H fp=>(TL (K:=K) (n:=2) rfl rfl (dQ (b7 (i:=0) (show List.Nodup (["number", "cell", "bad_cells"]:List Str) by decide +kernel) rfl (Or.inl rfl)) (dQ (b7 (i:=1) (show List.Nodup (["number", "cell", "bad_cells"]:List Str) by decide +kernel) rfl (Or.inl rfl)) jv)))) (λC s H fp=>(JD (AI (Jx hu (pv 1) (pv 2))))) (λC s H fp=>(pv 0))))),?_⟩
  walk_at "rdm";refine TJ a (ts.map V.ref) (λD i ys aD H2=>ys=(gO aq 0 (z.take i)).map V.int/\H2 D=some (.lst ys)/\ah H H2/\H D=none/\i<=z.length/\∃u v,aD = [u,v,some (.ref d)]) (λQ q=>by walk_at "rdm";exact q) hz.sq ?_ ?_ ?_ ?_
  ·intro D hD;exact⟨rfl,aB,ah.put hD,hD,Nat.zero_le _,_,_,rfl⟩
  ·rintro D i ys aD H2 ⟨e,e1,e2,e3,e4,_⟩;refine⟨e1,?_,e2.seq hz.sq⟩;have:=Cm aq (z.take i) 0;rw[e,mX,List.length_map];rw[List.length_take] at this;lia
  ·rintro D i x ys aD H2 T1 N hN hx ⟨e,e1,e2,e3,e4,u,v,rfl⟩ hT;obtain⟨t,p,rfl,hp,ht⟩:=hz.at hx;have hl:=iF hp;refine j7 (bA.of aB) rfl ?_;walk_at "rdm";have s1:=e2.trans (ah.put (o:=.tup [.int i,.ref t]) hT);refine⟨_,iY.t (k:=kT p) (s1 _ _ hd) (s1 _ _ ht),?_⟩;have eD:upd H2 T1 (.tup [.int i,.ref t]) D=some (.lst ys):=ah.put hT _ _ e1;refine dz (λhb=>⟨eD,hN _ _ _ ⟨?_,aB,ah.put2 s1 e3,e3,hl,_,_,rfl⟩⟩) (λhb=>hN _ _ _ ⟨?_,eD,s1,e3,hl,_,_,rfl⟩)
   ·rw[take_succ_get hp,Ck,if_pos hb,List.map_append,e,List.length_take,Nat.min_eq_left (Nat.le_of_lt hl),Nat.zero_add];rfl
   ·rw[take_succ_get hp,Ck,if_neg hb,List.append_nil,e]
  ·rintro D ys aD H2 ⟨e,e1,e2,e3,e4,u,v,rfl⟩;rw[lenZ hz.n,List.take_length] at e;rw[e] at e1;exact q _ _ e2 e3 e1
theorem Yn(T:Tx K mg A)(aI:bx mg base A.bq A.aZ):aU P w K mg base br 1 A.sZ A.p7 ["ring", "rings"] (Vl A.aZ (nG fH) (nH "nearest_rings")):=by
 refine T.E3.Vj XU (λvs H Q E h=>?_) (λAr outer s H vs Q E hr h=>?_)
 ·obtain⟨r,n,rfl,_⟩:=h
  rfl
 ·obtain⟨r,n,rfl,h2,i8,tab,q⟩:=h;have jF:(Ar.deeper (envOfC "nearest_rings" (aQ fH) s.heap.objs.size A.sZ A.p7.code)).in1.in1.depth<recursionLimit:=hr.depth;refine⟨_,(aL (bE (U9 (c:=A.bq) (P:=A.aZ) (ps:=["other"]) (fs:=["ring"]) (fv:=[0]) rfl T.tX rfl T.fJ aI T.Ot (jd.of rfl rfl rfl rfl (by rfl) (by rfl) (by repeat (first | exact trivial | refine⟨rfl,?_⟩)) (by rfl) (by rfl) (by rfl) (by decide +kernel)) rfl rfl rfl (λ_ _ _ _=>rfl) (λf c2 s2 H2=>(cY (aa (bT RH rfl T.zx boot_abs (aa (aF iU (pv 0) (pv 1)) aj)) (aa (pv 0) aj)))) rfl jF rfl rfl rfl (aa (pv 1) aj)))),?_⟩
  simp only[Lo,lH,Ml,Mj,Jc,LM,LN,Ku,vP,CC,Cw,vO,KJ,Kv,Ds,Dn,Dl,Dm,Dy,DH,LG,nJ,LH,Ly,Jp,rq,Jj,Bq,BA,IG,Ci,Bh,Bg,I_,Bo,Bm,and_assoc,uL,HO.ins.injEq,q9,gK,cX,String.reduceBEq,List.lookup_cons,List.lookup_nil,aB,HO.lst.injEq,HO.dT.injEq,HO.tup.injEq,String.reduceEq,false_and,or_false,false_or,mX,BO,Jy,BN,Jw,BJ,BK,Jz,Bool.not_eq_true',decide_eq_false_iff_not,Classical.not_not,AR,if_false_left,if_false_right,B5,AM,gH,List.length_map,List.getElem?_nil,AO,qu,kQ,uY,qq,qt,AU,uU,tC,oO,jR,rI,AY,rU,A5,tB,AQ,uX,Io,uW,ve,Bc,u9,qK,AN,Ih,AJ,AK,AL,Ii,Ij,Bf,Bd,Br,qN,Bw,Bx,BB,BD,qM,oZ,A3,A4,My,Mz,MA,MB,MC,MD,ME,MF,qD,A1,A2,A_,Bb,IS,u_,_L.start,JN,JO,JP,List.map_cons,List.map_nil,List.cons_append,List.nil_append,List.append_nil,List.length_cons,List.length_nil,List.getElem?_cons_zero,List.getElem?_cons_succ,Option.some.injEq,exists_eq_left,exists_eq_left',exists_and_left,exists_eq,V.int.injEq,V.ref.injEq,V.bl.injEq,V.ty.injEq,V.str.injEq,List.cons.injEq,and_true,true_and,List.set_cons_zero,List.set_cons_succ,decide_eq_true_eq,Nat.reduceSub,Nat.reduceAdd,List.replicate_succ,List.replicate_zero,List.replicate,Int.reduceLT,Int.reduceLE,Int.reducePow,Int.reduceToNat,Int.reduceNeg,Nat.reduceLT,Nat.reduceLeDiff,Nat.reducePow,Int.reduceMul,Int.reduceAdd,Int.reduceSub,and_self,or_true,true_or,gt_iff_lt,ge_iff_le,if_true,if_false,Bool.false_eq_true,reduceIte,Nat.sub_self,Nat.sub_zero];refine⟨n,rfl,h2,i8,iJ r,λj hj=>⟨by unfold iJ;dsimp only;lia,by unfold iJ;dsimp only;lia⟩,λi j hi hj e=>by unfold iJ at e;injection e with e1 e2;lia,tab,λj H2 hj sb tb=>?_,λD is H' a b c d e=>q D is H' a b c d e⟩
  have e:(if (j:Int) - r<0 then -((j:Int) - r) else(j:Int) - r)=(iJ r j).1:=by unfold iJ;dsimp only;split <;> lia
  refine⟨_,rfl,_,rfl,λp hp=>⟨hp,?_⟩⟩;rw[e]
  rfl
theorem Yo(T:Tx K mg A)(aI:bx mg base A.bq A.aZ):aU P w K mg base br 1 A.ym A.yp ["_law_script", "_law_k"] (pe K):=by
 refine T.kG.ok XW (λvs H Q E h=>?_) (λaO Ar outer s H vs Q E hr h=>?_)
 ·obtain⟨a,ns,k,rfl,_⟩:=h
  rfl
 ·obtain⟨a,ns,k,rfl,hS,hl,hk,q⟩:=h;refine⟨_,(aC (bI (bw gG (pv 1) (bT eT rfl T.dM boot_len (aa (pv 0) aj)) (a_ _)) (aL (bE (bF eS (pv 0) (pv 1) (λ_ _=>rfl)))) bH)
   (aL (bE ao))),?_⟩
  walk_at "rdm";refine⟨_,.inl hS,dz (λbO=>⟨_,hS,_,g7 hk (by simpa using bO),q⟩) λvW=>?_⟩
  have e:iE ns k=0:=by
   unfold iE;rw[List.length_map] at vW;rw[List.getD_eq_getElem?_getD,List.getElem?_eq_none (by lia)];rfl
  rw[e] at q;exact q
theorem oq(T:Tx K mg A)(aI:bx mg base A.bq A.aZ):aU P w K mg base br 1 A.yq A.yr ["_law_cell", "_law_k"] cU:=by
 refine T.bV.ok ML (λvs H Q E h=>?_) (λaO Ar outer s H vs Q E hr h=>?_)
 ·obtain⟨c,k,rfl,_⟩:=h
  rfl
 ·obtain⟨c,k,rfl,hk0,hk1,q⟩:=h;refine⟨_,(aC (aY (i:=2) ML.nd rfl (Or.inl rfl) (aF cg (aF cg (aF jz (aF cg (aF bL (pv 0) (aF mD ao ao)) ao) ao) (aF jz (aF jz (pv 1) (pv 1)) ao)) (aF jz (pv 1) ao)))
   (aL (bE (aF bL (aF jz (aF bL (pv 2) ao) ao) ao)))),?_⟩
  walk_at "rdm";exact⟨by decide,.inl ⟨by lia,by lia⟩,q⟩
theorem Yp(T:Tx K mg A)(aI:bx mg base A.bq A.aZ):aU P w K mg base br 1 A.yw A.yx ["_law_zones_here"] (Tv K):=by
 refine T.E7.ok wR (λvs H Q E h=>?_) (λaO Ar outer s H vs Q E hr h=>?_)
 ·obtain⟨a,ts,z,rfl,_⟩:=h
  rfl
 ·obtain⟨a,ts,z,rfl,hz,ok,q⟩:=h;refine⟨_,(aC (aY (i:=1) wR.nd rfl (Or.inl rfl) (dG aj))
   (aC (dw PassesOwn.never rfl (gW (pv 0)) (jw rfl (dQ (b7 (i:=2) wR.nd rfl (Or.inl rfl)) (dQ (b7 (i:=3) wR.nd rfl (Or.inl rfl)) jv)))
   (aL (cO (jV PySem.F.plainAttrs_list PySem.F.slot_list_extend PySem.F.type_list_extend Jo (pv 1) (aa (aF Jr (dG (aa (pv 3) aj)) (pv 2)) aj)))))
   (aL (bE (pv 1))))),?_⟩
  walk_at "rdm";refine λl hl=>?_;refine rl a (ts.map V.ref) (λi σ H'=>∃r c,σ = [some (.ref a),some (.ref l),r,c]/\ah H H'/\H' l=some (.lst ((counts (z.take i)).map V.int))) (λQ q=>⟨_,rfl,q⟩) (ah.put hl |>.seq hz.sq) ⟨none,none,rfl,ah.put hl,aB⟩ (by rintro i σ H' _ ⟨r,c,rfl,hs,_⟩;exact hs.seq hz.sq) ?_ ?_
  ·rintro i x σ H' N hN hx ⟨r,c,rfl,hs,h1⟩;obtain⟨t,p,rfl,hp,ht⟩:=hz.at hx;refine j7 (bA.of (hs _ _ ht)) rfl ?_;obtain⟨g1,g2,g3,g4⟩:=ok.r p (get_mem hp);have g5:=JV ok i;walk_at "rdm";refine⟨⟨_,aH.of h1⟩,λp1 dN=>⟨by lia,by lia,by lia,λp2 kI=>?_⟩⟩
   have s1:=(ah.put (o:=.lst [V.int p.2]) dN).trans (ah.put (o:=.lst (List.replicate p.1.toNat [V.int p.2]).flatten) kI);refine⟨_,s1 _ _ h1,?_,hN _ _ ⟨_,_,rfl,ah.put2 (hs.trans s1) hl,?_⟩⟩
   ·simp only[vE,List.length_map,List.length_replicate];lia
   ·rw[aB,take_succ_get hp,Ce,List.map_append,vE];simp[counts]
  ·rintro σ H' ⟨r,c,rfl,hs,h1⟩;walk_at "rdm";rw[lenZ hz.n,List.take_length] at h1;exact q _ _ hs hl h1
theorem Yq(T:Tx K mg A)(aI:bx mg base A.bq A.aZ):aU P w K mg base br 2 A.w4 A.w5 ["behind"] (V0 K):=by
 have jj:=zC (P:=P) (w:=w) (base:=base) T aI;refine T.Ex.ok wK (λvs H Q E h=>?_) (λaO Ar outer s H vs Q E hr h=>?_)
 ·obtain⟨b,ns,rfl,_⟩:=h
  rfl
 ·obtain⟨b,ns,rfl,hS,hR,q⟩:=h;refine⟨_,(aC (aY (i:=1) wK.nd rfl (Or.inl rfl) (Iw IA ao))
   (aL (dw PassesOwn.never rfl (RB (pv 0)) (b7 (i:=2) wK.nd rfl (Or.inl rfl))
   (aC (cO (aM jj (hr.mono (by first | decide | lia)) rfl T.kF T.jL.kp T.kE .nil aJ (aa (pv 2) (aa (aF cg (pv 1) ao) (aa (fz (v:=.int 99) rfl T.Oi ⟨_,rfl⟩) (aa cM aj))))))
   (aL (aY (i:=1) wK.nd rfl (Or.inl rfl) (pv 2))))))),?_⟩
  walk_at "rdm";refine rt b (ns.map V.int) (λi σ H'=>∃x,σ = [some (.ref b),some (.int (rY (-1) ns i)),x]/\H' = H) (λQ q=>⟨_,rfl,q⟩) hS ⟨none,rfl,rfl⟩ (by rintro i σ H' _ ⟨x,rfl,rfl⟩;exact hS) ?_ ?_
  ·rintro i x σ H' N hN hx ⟨x0,rfl,rfl⟩;obtain⟨n,hn,rfl⟩:=j6 hx;have st:=hR.step hn;walk_at "rdm";exact⟨n,_,99,_,rfl,st.1,st.2,hN _ _ ⟨some (.int n),by rw[VX hn],rfl⟩⟩
  ·rintro σ H' ⟨x0,rfl,rfl⟩;walk_at "rdm";exact q
theorem Yr(T:Tx K mg A)(aI:bx mg base A.bq A.aZ):aU P w K mg base br 2 A.xH A.xJ ["swing", "rings"] (S6 K):=by
 have Ys:=Yh (P:=P) (w:=w) (base:=base) T aI;refine T.EL.ok MJ (λvs H Q E h=>?_) (λaO Ar outer s H vs Q E hr h=>?_)
 ·obtain⟨a,sw,n,rfl,_⟩:=h
  rfl
 ·obtain⟨a,sw,n,rfl,hS,ok,hn,q⟩:=h;refine⟨_,(aC (bI (bw jS (bT eT rfl T.dM boot_len (aa (pv 0) aj)) (pv 1) (a_ _)) fO bH)
   (aC (bI (bw jS (bF eS (pv 0) ao (λ_ _=>rfl)) ao (a_ _)) fO bH)
   (aC (dw PassesOwn.never rfl (kW rfl T.fJ (aa ao (aa (pv 1) aj))) (b7 (i:=2) MJ.nd rfl (Or.inl rfl))
   (aC (bI (PW.pt (gf (bw gG (bF eS (pv 0) (pv 2) (λ_ _=>rfl)) ao (a_ _)) (gb (bw kY (bF eS (pv 0) (pv 2) (λ_ _=>rfl)) (fz (v:=.int 1000000000) rfl T.FI ⟨_,rfl⟩) (a_ _))))) fO bH)
   (aL (bI (bw gG (bF eS (pv 0) (pv 2) (λ_ _=>rfl)) (bF eS (pv 0) (aF iU (pv 2) ao) (λ_ _=>rfl)) (a_ _)) fO bH))))
   (aL (cO (aM Ys (hr.mono (by first | decide | lia)) rfl T.M8 T.EM.kp T.M7 .nil aJ (aa (pv 0) aj))))))),?_⟩
  walk_at "rdm";have hl:=ok.len;have h2:=ok.two;refine⟨_,.inl hS,by simpa using hl,_,hS,_,g7 (by lia) (by lia),rfl,by rw[show (0:Int).toNat=0 from rfl,ok.z],?_⟩
  refine lq 1 n (λi σ H'=>∃r,σ = [some (.ref a),some (.int n),r]/\H' = H) (λQ q=>?_) (by lia) (by lia) (by lia) (by lia) ⟨none,rfl,rfl⟩ ?_ ?_
  ·walk_at "rdm";exact q
  ·rintro i σ H' N hN hi ⟨r,rfl,rfl⟩;walk_at "rdm";have e1:((1:Int)+(i:Int)).toNat=1+i:=by lia
   have e2:((1:Int)+(i:Int) - 1).toNat=1+i - 1:=by lia
   have g:=ok.pos (1+i) (by lia) (by lia)
   have g2:=ok.up (1+i) (by lia) (by lia)
   refine⟨_,hS,_,g7 (by lia) (by lia),?_⟩
   walk_at "rdm";rw[e1];refine⟨by lia,_,hS,_,g7 (by lia) (by lia),?_⟩
   walk_at "rdm";rw[e1];refine⟨by lia,_,hS,_,g7 (by lia) (by lia),_,hS,_,g7 (by lia) (by lia),?_⟩
   walk_at "rdm";rw[e1,e2];exact⟨by lia,hN _ _ ⟨_,rfl,rfl⟩⟩
  ·rintro σ H' ⟨r,rfl,rfl⟩;walk_at "rdm";exact⟨a,sw,n,rfl,hS,ok,hn,q⟩
theorem Yt(T:Tx K mg A)(aI:bx mg base A.bq A.aZ):aU P w K mg base br 2 A.yf A.yg ["ring_cells", "spares", "ring", "used"] (VM K A.aZ (nG fH) (nH "nearest_rings")):=by
 have Yu:=Yn (P:=P) (w:=w) (base:=base) T aI;refine T.E4.ok wQ (λvs H Q E h=>?_) (λaO Ar outer s H vs Q E hr h=>?_)
 ·obtain⟨ra,ud,r,sp,rc,us,rfl,_⟩:=h
  rfl
 ·obtain⟨ra,ud,r,sp,rc,us,rfl,zE,h2,i8,s0,s1,hc,Yv,tab,q⟩:=h;have hu:=mR hr;refine⟨_,(aC (dw PassesOwn.never rfl (gW (aM Yu (hr.mono (by first | decide | lia)) rfl T.NB T.E3.kp T.Nz .nil aJ (aa (pv 2) (aa (bT eT rfl T.dM boot_len (aa (pv 0) aj)) aj)))) (b7 (i:=4) wQ.nd rfl (Or.inl rfl))
   (aC (aY (i:=5) wQ.nd rfl (Or.inl rfl) (bF eS (pv 0) (pv 4) (λ_ _=>rfl)))
   (aL (dw PassesOwn.never rfl (kW rfl T.fJ (aa (aF iU (pv 5) (pv 1)) (aa (pv 5) aj))) (b7 (i:=6) wQ.nd rfl (Or.inl rfl))
   (aL (bI (AI (Sl hu (cY (aa (pv 4) (aa (pv 6) aj))) (pv 3))) (aL (bE (cY (aa (pv 4) (aa (pv 6) aj))))) bH))))))
   (aL (bE ju))),?_⟩
  walk_at "rdm";refine vF ?_;walk_at "rdm";refine⟨_,.inl zE,r,rc.length,by rw[List.length_map],h2,i8,tab,λl is H1 sb t1 nl FW ord=>⟨l,rfl,?_⟩⟩
  have k1:=(Kp.mk sb t1).step (ah.put (o:=.lst (is.map λ(i:Nat)=>V.int (i:Int))) FW);refine mY.by l (is.map λ(i:Nat)=>V.int (i:Int)) (λi σ H'=>∃o c p,σ = [some (.ref ra),some (.int sp),some (.int r),some (.ref ud),o,c,p]/\ah (upd H1 l (.lst (is.map λ(i:Nat)=>V.int (i:Int)))) H'/\∀c∈(is.take i).flatMap (gR rc sp),c∈us)
   (aH.of aB) ⟨none,none,none,rfl,ah.refl _,by simp⟩ (by rintro i σ H' _ ⟨o,c,p,rfl,sm,_⟩;exact aH.of (sm _ _ aB)) ?_ ?_
  ·rintro i x σ H' N hN hx ⟨o,c,p,rfl,sm,mL⟩;obtain⟨k,hk,rfl⟩:=j6 hx;have kl:k<rc.length:=List.mem_range.mp (ord.1.mem_iff.mp (get_mem hk));have kk:=k1.step sm;have Yw:=kk.seq tab zE;have ck:sp<=rc.getD k 0/\rc.getD k 0<=1000:=by
    have:=hc _ (List.getElem_mem kl);rw[show rc.getD k 0=rc[k] by simp[kl]]
    exact this
   walk_at "rdm";refine⟨_,Yw,_,g7 (by lia) (by lia),?_⟩
   try walk_at "rdm"
   rw[show ((k:Int)).toNat=k from rfl];refine lq (rc.getD k 0 - sp) (rc.getD k 0) (λj σ H3=>∃p,σ = [some (.ref ra),some (.int sp),some (.int r),some (.ref ud),some (.int (k:Int)),some (.int (rc.getD k 0)),p]/\ah H' H3/\∀j':Nat,j' < j->((k:Int),rc.getD k 0 - sp+(j':Int))∈us) (λQ q=>?_) (by lia) (by lia) (by lia) (by lia) ⟨p,rfl,ah.refl _,λj' z=>absurd z (by lia)⟩ ?_ ?_
   ·walk_at "rdm";exact q
   ·rintro j σ H3 N2 oh hj ⟨p,rfl,s3,lG⟩;walk_at "rdm";refine λt1 n1=>?_;have e1:=ah.put (o:=HO.tup [V.int (k:Int),V.int (rc.getD k 0 - sp+(j:Int))]) n1;have FY:=(kk.step s3).step e1;have Yx:=FY.get tab Yv;refine⟨_,iY.t (k:=kT ((k:Int),rc.getD k 0 - sp+(j:Int))) Yx aB,?_⟩;by_cases hm:((k:Int),rc.getD k 0 - sp+(j:Int))∈us
    ·rw[Cn hm];refine ite_no (by simp) (oh _ _ ⟨_,rfl,s3.trans e1,λj' z=>?_⟩)
     by_cases e:j' = j
     ·rw[e];exact hm
     ·exact lG j' (by lia)
    ·rw[rA hm,if_pos (show (none:Option V).isSome=false from rfl)];intro t2 n2;exact(q is _ ord (FY.step (ah.put n2))).2 _ t2 (VL mL hk (by lia) lG hm) (FY.free n2) aB
   ·rintro σ H3 ⟨p,rfl,s3,lG⟩;refine hN _ _ ⟨_,_,_,rfl,sm.trans s3,VI mL hk λc hc=>?_⟩;obtain⟨j,hj,rfl⟩:=List.mem_map.mp hc;exact lG j (by have:=List.mem_range.mp hj;lia)
  ·rintro σ H' ⟨o,c,p,rfl,sm,mL⟩;walk_at "rdm";rw[List.length_map,List.take_length] at mL;exact(q is H' ord (k1.step sm)).1 (VJ mL)
theorem Yy(T:Tx K mg A)(aI:bx mg base A.bq A.aZ):aU P w K mg base br 2 A.yt A.yu ["_law_a", "_law_b"] (Tu K):=by
 have bJ:=oq (P:=P) (w:=w) (base:=base) T aI;refine T.E6.ok sS (λvs H Q E h=>?_) (λaO Ar outer s H vs Q E hr h=>?_)
 ·obtain⟨a,b,rfl,_⟩:=h
  rfl
 ·obtain⟨a,b,rfl,q⟩:=h;refine⟨_,(aC (bI (bw d_ (aF bL (aM bJ (hr.mono (by first | decide | lia)) rfl T.bZ T.bV.kp T.bY .nil aJ (aa (pv 1) (aa ao aj))) ao) ao (a_ _)) (aL (bE (dG (aa (cY (aa (aF cg ao (aF bL (aM bJ (hr.mono (by first | decide | lia)) rfl T.bZ T.bV.kp T.bY .nil aJ (aa (pv 0) (aa ao aj))) ao)) (aa (aF cg ao (aF bL (aM bJ (hr.mono (by first | decide | lia)) rfl T.bZ T.bV.kp T.bY .nil aJ (aa (pv 1) (aa ao aj))) ao)) aj))) aj)))) bH)
   (aC (aY (i:=2) sS.nd rfl (Or.inl rfl) (aF cg ao (aF bL (aM bJ (hr.mono (by first | decide | lia)) rfl T.bZ T.bV.kp T.bY .nil aJ (aa (pv 0) (aa ao aj))) ao)))
   (aC (bI (bw d_ (aF bL (aM bJ (hr.mono (by first | decide | lia)) rfl T.bZ T.bV.kp T.bY .nil aJ (aa (pv 0) (aa ao aj))) ao) ao (a_ _)) (aL (aY (i:=2) sS.nd rfl (Or.inl rfl) ao)) bH)
   (aC (aY (i:=3) sS.nd rfl (Or.inl rfl) (dG (aa (cY (aa (aF cg ao (aF bL (aM bJ (hr.mono (by first | decide | lia)) rfl T.bZ T.bV.kp T.bY .nil aJ (aa (pv 0) (aa ao aj))) ao)) (aa (aF cg ao (aF bL (aM bJ (hr.mono (by first | decide | lia)) rfl T.bZ T.bV.kp T.bY .nil aJ (aa (pv 1) (aa ao aj))) ao)) aj))) aj)))
   (aC (dw PassesOwn.never rfl (kW rfl T.fJ (aa ao (aa (pv 2) aj))) (b7 (i:=4) sS.nd rfl (Or.inl rfl))
   (aL (cO (jV PySem.F.plainAttrs_list PySem.F.slot_list_append PySem.F.type_list_append jW (pv 3) (aa (cY (aa (aF cg ao (aF bL (aM bJ (hr.mono (by first | decide | lia)) rfl T.bZ T.bV.kp T.bY .nil aJ (aa (pv 0) (aa (aF cg ao (pv 4)) aj))) ao)) (aa (aF cg ao (aF bL (aM bJ (hr.mono (by first | decide | lia)) rfl T.bZ T.bV.kp T.bY .nil aJ (aa (pv 1) (aa (pv 4) aj))) ao)) aj))) aj)))))
   (aL (bE (pv 3)))))))),?_⟩
  wp_walk using cU;have m3:0<=mix a 0 % 3/\mix a 0 % 3<3:=⟨Int.emod_nonneg _ (by decide),Int.emod_lt_of_pos _ (by decide)⟩
  refine dz (λh8=>?_) (λh8=>dz (λh9=>?_) (λh9=>?_))
  ·intro p hp l hl;have jD:l≠p:=(bK aB hl).symm;have gJ:H l=none:=by rw[au jD] at hl;exact hl
   refine q l [p] _ (ah.put2 (ah.put hp) gJ) gJ (by simpa using hp) ?_
   unfold ng;rw[if_pos h8];refine⟨aB,rfl,λi t x e1 e2=>?_⟩;cases i with
   | zero =>
    simp at e1 e2;subst e1 e2;rw[au jD.symm,aB]
   | succ i=>simp at e1
  ·skip
   intro p hp l hl;have jD:l≠p:=(bK aB hl).symm;have gJ:H l=none:=by rw[au jD] at hl;exact hl
   have FZ:Zn (upd (upd H p (HO.tup [V.int (2+mix a 2 % 2),V.int (1+mix b 0 % 8)])) l (HO.lst [V.ref p])) l [p] [(2+mix a 2 % 2,1+mix b 0 % 8)]:=by
    refine⟨aB,rfl,λi t x e1 e2=>?_⟩;cases i with
    | zero =>
     simp at e1 e2;subst e1 e2;rw[au jD.symm,aB]
    | succ i=>simp at e1
   refine lq 1 (5) (λj σ H'=>∃kk ts,σ = [some (.int a),some (.int b),some (.int (5)),some (.ref l),kk]/\ah H H'/\(∀t∈ts,H t=none)/\Zn H' l ts ((2+mix a 2 % 2,1+mix b 0 % 8)::(List.range j).map λ(k:Nat)=>(1+mix a (2+(1+(k:Int))) % 3,1+mix b (1+(k:Int)) % 8)))
    (λQ q=>?_) (by lia) (by lia) (by lia) (by lia) ⟨none,[p],rfl,ah.put2 (ah.put hp) gJ,by simpa using hp,by simpa using FZ⟩ ?_ ?_
   ·walk_at "rdm";exact q
   ·rintro j σ H' N hN hj ⟨kk,ts,rfl,hs,ji,hz⟩;wp_walk using cU;refine⟨⟨_,hz.sq⟩,by lia,by lia,by lia,by lia,λp1 dN=>⟨_,ah.put dN _ _ hz.l,?_,hN _ _ ⟨_,ts++[p1],rfl,ah.put2 (hs.trans (ah.put dN)) gJ,?_,?_⟩⟩⟩
    ·have:=hz.n;simp only[List.length_map,List.length_cons,List.length_range] at this ⊢;lia
    ·intro t ht;rcases List.mem_append.mp ht with ht | ht
     ·exact ji t ht
     ·rw[List.mem_singleton.mp ht];exact hs.free dN
    ·have:=hz.snoc dN (1+mix a (2+(1+(j:Int))) % 3) (1+mix b (1+(j:Int)) % 8);rw[List.range_succ,List.map_append,← List.cons_append];exact this
   ·rintro σ H' ⟨kk,ts,rfl,hs,ji,hz⟩;walk_at "rdm";refine q _ ts _ hs gJ ji ?_;unfold ng;rw[if_neg h8,if_pos h9];exact hz
  ·skip
   intro p hp l hl;have jD:l≠p:=(bK aB hl).symm;have gJ:H l=none:=by rw[au jD] at hl;exact hl
   have FZ:Zn (upd (upd H p (HO.tup [V.int (2+mix a 2 % 2),V.int (1+mix b 0 % 8)])) l (HO.lst [V.ref p])) l [p] [(2+mix a 2 % 2,1+mix b 0 % 8)]:=by
    refine⟨aB,rfl,λi t x e1 e2=>?_⟩;cases i with
    | zero =>
     simp at e1 e2;subst e1 e2;rw[au jD.symm,aB]
    | succ i=>simp at e1
   refine lq 1 (1+mix a 0 % 3) (λj σ H'=>∃kk ts,σ = [some (.int a),some (.int b),some (.int (1+mix a 0 % 3)),some (.ref l),kk]/\ah H H'/\(∀t∈ts,H t=none)/\Zn H' l ts ((2+mix a 2 % 2,1+mix b 0 % 8)::(List.range j).map λ(k:Nat)=>(1+mix a (2+(1+(k:Int))) % 3,1+mix b (1+(k:Int)) % 8)))
    (λQ q=>?_) (by lia) (by lia) (by lia) (by lia) ⟨none,[p],rfl,ah.put2 (ah.put hp) gJ,by simpa using hp,by simpa using FZ⟩ ?_ ?_
   ·walk_at "rdm";exact q
   ·rintro j σ H' N hN hj ⟨kk,ts,rfl,hs,ji,hz⟩;wp_walk using cU;refine⟨⟨_,hz.sq⟩,by lia,by lia,by lia,by lia,λp1 dN=>⟨_,ah.put dN _ _ hz.l,?_,hN _ _ ⟨_,ts++[p1],rfl,ah.put2 (hs.trans (ah.put dN)) gJ,?_,?_⟩⟩⟩
    ·have:=hz.n;simp only[List.length_map,List.length_cons,List.length_range] at this ⊢;lia
    ·intro t ht;rcases List.mem_append.mp ht with ht | ht
     ·exact ji t ht
     ·rw[List.mem_singleton.mp ht];exact hs.free dN
    ·have:=hz.snoc dN (1+mix a (2+(1+(j:Int))) % 3) (1+mix b (1+(j:Int)) % 8);rw[List.range_succ,List.map_append,← List.cons_append];exact this
   ·rintro σ H' ⟨kk,ts,rfl,hs,ji,hz⟩;walk_at "rdm";refine q _ ts _ hs gJ ji ?_;unfold ng;rw[if_neg h8,if_neg h9];exact hz
theorem Yz(T:Tx K mg A)(aI:bx mg base A.bq A.aZ):aU P w K mg base br 2 A.yy A.yz ["_law_zones_here", "_law_cell"] (Tw K):=by
 have bJ:=oq (P:=P) (w:=w) (base:=base) T aI;refine T.E8.ok nR (λvs H Q E h=>?_) (λaO Ar outer s H vs Q E hr h=>?_)
 ·obtain⟨a,ts,z,c,rfl,_⟩:=h
  rfl
 ·obtain⟨a,ts,z,c,rfl,hz,ok,q⟩:=h;refine⟨_,(aC (aY (i:=2) nR.nd rfl (Or.inl rfl) ao)
   (aC (dw PassesOwn.never rfl (gW (pv 0)) (jw rfl (dQ (b7 (i:=3) nR.nd rfl (Or.inl rfl)) (dQ (b7 (i:=4) nR.nd rfl (Or.inl rfl)) jv)))
   (aL (aY (i:=2) nR.nd rfl (Or.inl rfl) (aF jz (pv 2) (pv 4)))))
   (aC (aY (i:=5) nR.nd rfl (Or.inl rfl) ao)
   (aC (bI (bw d_ (aF bL (aM bJ (hr.mono (by first | decide | lia)) rfl T.bZ T.bV.kp T.bY .nil aJ (aa (pv 1) (aa ao aj))) ao) ao (a_ _)) (aL (aY (i:=5) nR.nd rfl (Or.inl rfl) (aF u0 (aF mD ao ao) (pv 2)))) bH)
   (aL (bE (aF jz (pv 2) (aF cg ao (aF bL (aM bJ (hr.mono (by first | decide | lia)) rfl T.bZ T.bV.kp T.bY .nil aJ (aa (pv 1) (aa ao aj))) (pv 5)))))))))),?_⟩
  wp_walk using cU;have sN:=ok.l5;have bd:∀i,1<=dB (z.take i)/\dB (z.take i)<=777600000:=λi=>by
   have h1:=vH (m:=60) (by decide) (z.take i) λp hp=>(ok.r p (List.mem_of_mem_take hp)).2.2
   have h2:=Ka (m:=60) (by decide) (show (z.take i).length<=5 by rw[List.length_take];lia)
   have e:(60:Int) ^ 5=777600000:=by decide
   lia
  refine rl a (ts.map V.ref) (λi σ H'=>∃r d,σ = [some (.ref a),some (.int c),some (.int (dB (z.take i))),r,d,none]/\H' = H) (λQ q=>⟨_,rfl,q⟩) hz.sq ⟨none,none,rfl,rfl⟩ (by rintro i σ H' _ ⟨r,d,rfl,rfl⟩;exact hz.sq) ?_ ?_
  ·rintro i x σ H' N hN hx ⟨r,d,rfl,rfl⟩;obtain⟨t,p,rfl,hp,ht⟩:=hz.at hx;refine j7 (bA.of ht) rfl ?_;walk_at "rdm";have:=bd i;refine⟨.inl ⟨by lia,by lia⟩,hN _ _ ⟨some (.int p.1),some (.int p.2),?_,rfl⟩⟩
   rw[take_succ_get hp,Tq]
  ·rintro σ H' ⟨r,d,rfl,rfl⟩;rw[lenZ hz.n,List.take_length];have hb:=bd z.length;rw[List.take_length] at hb;wp_walk using cU;unfold ni at q;have hq:1<=1000000000 / dB z:=(Int.le_ediv_iff_mul_le (by lia)).mpr (by lia)
   refine dz (λh=>?_) (λh=>?_)
   ·rw[if_pos h] at q;exact⟨by decide,by lia,by lia,by lia,.inl ⟨by lia,by lia⟩,q⟩
   ·rw[if_neg h] at q;exact⟨.inl ⟨by lia,by lia⟩,q⟩
theorem YA(T:Tx K mg A)(aI:bx mg base A.bq A.aZ):aU P w K mg base br 2 A.yC A.yD ["_law_many", "_law_cell"] (Tz K):=by
 have bJ:=oq (P:=P) (w:=w) (base:=base) T aI;refine T.E9.ok nU (λvs H Q E h=>?_) (λaO Ar outer s H vs Q E hr h=>?_)
 ·obtain⟨m,c,rfl,_⟩:=h
  rfl
 ·obtain⟨m,c,rfl,h2,h60,q⟩:=h;refine⟨_,(aC (bI (bw d_ (aF bL (aM bJ (hr.mono (by first | decide | lia)) rfl T.bZ T.bV.kp T.bY .nil aJ (aa (pv 1) (aa ao aj))) ao) ao (a_ _)) (aC (aY (i:=2) nU.nd rfl (Or.inl rfl) (aF cg ao (aF bL (aM bJ (hr.mono (by first | decide | lia)) rfl T.bZ T.bV.kp T.bY .nil aJ (aa (pv 1) (aa ao aj))) ao)))
   (aC (bI (bw d_ (aF bL (aM bJ (hr.mono (by first | decide | lia)) rfl T.bZ T.bV.kp T.bY .nil aJ (aa (pv 1) (aa ao aj))) ao) ao (a_ _)) (aL (aY (i:=2) nU.nd rfl (Or.inl rfl) (aF cg ao (aF bL (aM bJ (hr.mono (by first | decide | lia)) rfl T.bZ T.bV.kp T.bY .nil aJ (aa (pv 1) (aa ao aj))) (aF mD ao ao))))) bH)
   (aC (aY (i:=3) nU.nd rfl (Or.inl rfl) (dG (aa ao (aa (pv 2) aj))))
   (aC (dw PassesOwn.never rfl (kW rfl T.fJ (aa ao (aa (pv 0) aj))) (b7 (i:=4) nU.nd rfl (Or.inl rfl))
   (aC (aY (i:=2) nU.nd rfl (Or.inl rfl) (aF iU (pv 2) (aF u0 (aF bL (aM bJ (hr.mono (by first | decide | lia)) rfl T.bZ T.bV.kp T.bY .nil aJ (aa (pv 1) (aa (aF cg (pv 4) ao) aj))) (aF cg (pv 2) ao)) ao)))
   (aL (cO (jV PySem.F.plainAttrs_list PySem.F.slot_list_append PySem.F.type_list_append jW (pv 3) (aa (aF cg (bF eS (pv 3) (Iw IA ao) (λ_ _=>rfl)) (pv 2)) aj))))))
   (aL (bE (pv 3))))))) bH)
   (aC (aY (i:=5) nU.nd rfl (Or.inr rfl) (aF cg ao (aF bL (aM bJ (hr.mono (by first | decide | lia)) rfl T.bZ T.bV.kp T.bY .nil aJ (aa (pv 1) (aa ao aj))) (aF mD ao ao))))
   (aL (bE (aF Jq (dG (aa ao aj)) (bT SO rfl T.tX boot_sorted (aa (vB (N:=["_law_k", "_law_least", "_law_cell"]) (nt:=1) (fv:=[5,1]) (dX.of rfl rfl (by rfl) (by rfl) (by repeat (first | exact trivial | refine⟨rfl,?_⟩)) (by rfl) (by rfl) (by rfl) (by decide) (by decide +kernel)) rfl (kW rfl T.fJ (aa ao (aa (pv 0) aj))) (λC s H fp=>(b7 (i:=0) (show List.Nodup (["_law_k", "_law_least", "_law_cell"]:List Str) by decide +kernel) rfl (Or.inl rfl))) (λC s H fp=>vA) (λC s H fp=>(aF cg (pv 1) (aF bL (aM bJ (hr.mono (by first | decide | lia)) rfl T.bZ T.bV.kp T.bY .nil aJ (aa (pv 2) (aa (aF cg (pv 0) ao) aj))) (aF cg (pv 1) ao))))) aj))))))),?_⟩
  wp_walk using cU;refine dz (λh8=>dz (λh9=>⟨by decide,?_⟩) (λh9=>?_)) (λh8=>⟨by decide,?_⟩)
  ·skip
   intro l hl;have fS:1<=1+mix c 1 % 10000000/\1+mix c 1 % 10000000<=10000000:=⟨by have:=Int.emod_nonneg (mix c 1) (show (10000000:Int)≠0 by decide);lia,by have:=Int.emod_lt_of_pos (mix c 1) (show (0:Int)<10000000 by decide);lia⟩
   generalize 1+mix c 1 % 10000000=s0 at fS ⊢;refine lq 2 m (λj σ H'=>∃kk,σ = [some (.int m),some (.int c),some (.int (c7 c s0 j)),some (.ref l),kk,none]/\ah H H'/\H' l=some (.lst (((List.range (2+j)).map (ez c s0)).map V.int)))
    (λQ q=>?_) (by lia) (by lia) (by lia) (by lia) ⟨none,rfl,ah.put hl,?_⟩ ?_ ?_
   ·walk_at "rdm";exact q
   ·rw[aB];simp[List.range_succ,ez,c7]
   ·rintro j σ H' N hN hj ⟨kk,rfl,hs,h1⟩;have b:=nj c fS.1 j;wp_walk using cU;refine⟨by lia,by lia,by lia,⟨_,aH.of h1⟩,_,aH.of h1,_,JQ (by simp;lia),?_⟩
    wp_walk using h1;refine⟨by simp;lia,hN _ _ ⟨some (.int (2+(j:Int))),?_,ah.put2 hs hl,?_⟩⟩
    ·rw[c7]
    ·rw[aB,← Nat.add_assoc,List.range_succ,List.map_append,List.map_append,List.length_range,_L.range_getD (by lia)]
     congr 4;simp only[List.map_cons,List.map_nil,List.cons.injEq,and_true,V.int.injEq];obtain⟨i,e⟩:∃i,2+j=i+1:=⟨1+j,by lia⟩
     rw[show 2+j - 1=1+j by lia,show 2+j=1+j+1 by lia,ez,show 1+j=j+1 by lia]
     rw[c7]
   ·rintro σ H' ⟨kk,rfl,hs,h1⟩;walk_at "rdm";have e:2+(m - 2).toNat=m.toNat:=by lia
    rw[e] at h1;have so:=J9 c fS.1 (show s0<=10000000 by lia) (n:=m.toNat) (by lia) (by lia)
    rw[show ((m.toNat:Nat):Int)=m by lia] at so
    exact q _ _ _ hs hl h1 so
  ·skip
   intro l hl;have fS:1<=1+mix c 1 % 1000/\1+mix c 1 % 1000<=1000:=⟨by have:=Int.emod_nonneg (mix c 1) (show (1000:Int)≠0 by decide);lia,by have:=Int.emod_lt_of_pos (mix c 1) (show (0:Int)<1000 by decide);lia⟩
   generalize 1+mix c 1 % 1000=s0 at fS ⊢;refine lq 2 m (λj σ H'=>∃kk,σ = [some (.int m),some (.int c),some (.int (c7 c s0 j)),some (.ref l),kk,none]/\ah H H'/\H' l=some (.lst (((List.range (2+j)).map (ez c s0)).map V.int)))
    (λQ q=>?_) (by lia) (by lia) (by lia) (by lia) ⟨none,rfl,ah.put hl,?_⟩ ?_ ?_
   ·walk_at "rdm";exact q
   ·rw[aB];simp[List.range_succ,ez,c7]
   ·rintro j σ H' N hN hj ⟨kk,rfl,hs,h1⟩;have b:=nj c fS.1 j;wp_walk using cU;refine⟨by lia,by lia,by lia,⟨_,aH.of h1⟩,_,aH.of h1,_,JQ (by simp;lia),?_⟩
    wp_walk using h1;refine⟨by simp;lia,hN _ _ ⟨some (.int (2+(j:Int))),?_,ah.put2 hs hl,?_⟩⟩
    ·rw[c7]
    ·rw[aB,← Nat.add_assoc,List.range_succ,List.map_append,List.map_append,List.length_range,_L.range_getD (by lia)]
     congr 4;simp only[List.map_cons,List.map_nil,List.cons.injEq,and_true,V.int.injEq];obtain⟨i,e⟩:∃i,2+j=i+1:=⟨1+j,by lia⟩
     rw[show 2+j - 1=1+j by lia,show 2+j=1+j+1 by lia,ez,show 1+j=j+1 by lia]
     rw[c7]
   ·rintro σ H' ⟨kk,rfl,hs,h1⟩;walk_at "rdm";have e:2+(m - 2).toNat=m.toNat:=by lia
    rw[e] at h1;have so:=J9 c fS.1 (show s0<=10000000 by lia) (n:=m.toNat) (by lia) (by lia)
    rw[show ((m.toNat:Nat):Int)=m by lia] at so
    exact q _ _ _ hs hl h1 so
  ·intro l0 cE;have hL:1<=1+mix c 1 % 100000000/\1+mix c 1 % 100000000<=100000000:=⟨by have:=Int.emod_nonneg (mix c 1) (show (100000000:Int)≠0 by decide);lia,by have:=Int.emod_lt_of_pos (mix c 1) (show (0:Int)<100000000 by decide);lia⟩
   generalize 1+mix c 1 % 100000000=L at hL ⊢;have s0:=ah.put (o:=.lst [V.int 0]) cE;refine JZ 1 m (λD i ys aD H2=>∃ns:List Int,ys=ns.map V.int/\ns.length=i/\(∀x∈ns,L<=x/\x<=2*L)/\H2 D=some (.lst ys)/\ah (upd H l0 (.lst [V.int 0])) H2/\upd H l0 (.lst [V.int 0]) D=none/\i<=60/\∃u,aD = [u,some (.int L),some (.int c)])
    (λQ q=>?_) (by lia) (by lia) (by lia) (by lia) ?_ ?_ ?_ ?_
   ·walk_at "rdm";exact q
   ·intro D hD;exact⟨[],rfl,rfl,(by intro x hx;cases hx),aB,ah.put hD,hD,by lia,none,rfl⟩
   ·rintro D i ys aD H2 ⟨ns,rfl,e0,_,e1,e2,e3,e4,_⟩;exact⟨e1,qU (by rw[List.length_map];lia)⟩
   ·rintro D i ys aD H2 N hN hi ⟨ns,rfl,e0,eb,e1,e2,e3,e4,u,rfl⟩;wp_walk using cU;have b1:=Int.emod_nonneg (mix c (1+(i:Int)+2)) (show L+1≠0 by lia)
    have b2:=Int.emod_lt_of_pos (mix c (1+(i:Int)+2)) (show 0<L+1 by lia)
    refine⟨by lia,by lia,by lia,e1,hN _ _ _ ⟨ns++[L+mix c (1+(i:Int)+2) % (L+1)],by rw[List.map_append];rfl,by simp[e0],?_,aB,ah.put2 e2 e3,e3,by lia,_,rfl⟩⟩
    intro x hx;rcases List.mem_append.mp hx with hx | hx
    ·exact eb x hx
    ·rw[List.mem_singleton.mp hx];generalize mix c (1+(i:Int)+2) % (L+1)=y at b1 b2 ⊢;lia
   ·rintro D ys aD H2 ⟨ns,rfl,e0,eb,e1,e2,e3,e4,u,rfl⟩;walk_at "rdm";refine⟨ns,aH.of e1,by lia,λl iD hl hp hs=>?_⟩
    have OC:=e2 _ _ aB;have gm:l0≠l:=bK OC hl;refine⟨[V.int 0],by rw[au gm];exact OC,?_,λp kI=>?_⟩
    ·have:=hp.length_eq;simp;lia
    ·have cZ:p≠l:=(bK aB kI).symm;have YB:H2 p=none:=by rw[au cZ] at kI;exact kI
     have hH:H p=none:=(s0.trans e2).free YB;have YC:H l=none:=(s0.trans e2).free hl;have so:=To hL.1 hL.2 (ns:=iD) (λx hx=>eb x (hp.mem_iff.mp hx)) hs (by rw[hp.length_eq];lia)
     rw[hp.length_eq,show ((ns.length+1:Nat):Int)=m by lia] at so
     exact q p (0::iD) _ (ah.put2 (ah.put2 (s0.trans e2) YC) hH) hH (by rw[aB];rfl) so
theorem YD(T:Tx K mg A)(aI:bx mg base A.bq A.aZ):aU P w K mg base br 2 A.yE A.yF ["_law_counts_here", "_law_spare", "_law_a"] (VV K):=by
 have bJ:=oq (P:=P) (w:=w) (base:=base) T aI;refine T.E_.ok wU (λvs H Q E h=>?_) (λaO Ar outer s H vs Q E hr h=>?_)
 ·obtain⟨ca,sp,a,rc,rfl,_⟩:=h
  rfl
 ·obtain⟨ca,sp,a,rc,rfl,F_,n1,acS,s0,s1,hc,q⟩:=h;have hu:=mR hr;refine⟨_,(aC (aY (i:=3) wU.nd rfl (Or.inl rfl) BP)
   (aC (dw PassesOwn.never rfl (qA rfl T.fJ (aa (bT (A6 rfl) rfl T.lV boot_min (aa (aF bL (aM bJ (hr.mono (by first | decide | lia)) rfl T.bZ T.bV.kp T.bY .nil aJ (aa (pv 2) (aa ao aj))) ao) (aa (aF jz (pv 1) (bT eT rfl T.dM boot_len (aa (pv 0) aj))) aj))) aj)) (b7 (i:=4) wU.nd rfl (Or.inl rfl))
   (aC (aY (i:=5) wU.nd rfl (Or.inl rfl) (aF bL (aM bJ (hr.mono (by first | decide | lia)) rfl T.bZ T.bV.kp T.bY .nil aJ (aa (pv 2) (aa (aF cg ao (pv 4)) aj))) (bT eT rfl T.dM boot_len (aa (pv 0) aj))))
   (aL (vo hu (pv 3) (cY (aa (pv 5) (aa (aF bL (aM bJ (hr.mono (by first | decide | lia)) rfl T.bZ T.bV.kp T.bY .nil aJ (aa (pv 2) (aa (aF cg ao (pv 4)) aj))) (bF eS (pv 0) (pv 5) (λ_ _=>rfl))) aj))) fy rfl))))
   (aL (bE (jU (VE rfl) rfl T.jM boot_list (aa (pv 3) aj)))))),?_⟩
  wp_walk using cU;refine λd nd=>?_;have g0:=Int.emod_nonneg (mix a 20) (show (7:Int)≠0 by decide)
  have g1:=Int.emod_lt_of_pos (mix a 20) (show (0:Int)<7 by decide)
  have p0:0<=sp*(rc.length:Int):=Int.mul_nonneg s0 (by lia)
  have p1:sp*(rc.length:Int)<=1000*100:=Int.mul_le_mul s1 (by lia) (by lia) (by decide)
  obtain⟨M,eM,M6,Ms⟩:∃M:Nat,(if sp*(rc.length:Int)<mix a 20 % 7 then sp*(rc.length:Int) else mix a 20 % 7)=(M:Int)/\M<=6/\(M:Int)<=sp*(rc.length:Int) :=
   ⟨(if sp*(rc.length:Int)<mix a 20 % 7 then sp*(rc.length:Int) else mix a 20 % 7).toNat,by split <;> lia,by split <;> lia,by split <;> lia⟩
  have sd:=ah.put (o:=.dT []) nd;refine Cg M (λi σ H'=>∃x y bz,σ = [some (.ref ca),some (.int sp),some (.int a),some (.ref d),x,y]/\ah H H'/\H' d=some (.dT (cy bz))/\bz.Nodup/\(∀q∈bz,0<=q.1/\q.1<rc.length/\0<=q.2/\q.2<rc.getD q.1.toNat 0)/\bz.length<=i) (λQ q=>?_) (by lia) ⟨none,none,[],rfl,sd,aB,List.nodup_nil,(λ_ h=>nomatch h),Nat.le_refl _⟩ ?_ ?_
  ·wp_walk using cU;refine⟨_,.inl (aH.of (sd _ _ F_)),.inl ⟨by lia,by lia⟩,?_⟩
   rw[List.length_map,eM];exact q
  ·rintro i σ H' N hN hi ⟨x,y,bz,rfl,hs,hd,nb,zF,bl⟩;wp_walk using cU;have r0:=Int.emod_nonneg (mix a (21+(i:Int))) (show (rc.length:Int)≠0 by lia)
   have r1:=Int.emod_lt_of_pos (mix a (21+(i:Int))) (show 0<(rc.length:Int) by lia)
   refine⟨by lia,by lia,_,.inl (aH.of (hs _ _ F_)),?_⟩
   rw[List.length_map];generalize mix a (21+(i:Int)) % (rc.length:Int)=r at r0 r1 ⊢;have hcr:=hc r.toNat (by lia)
   have c0:=Int.emod_nonneg (mix a (31+(i:Int))) (show rc.getD r.toNat 0≠0 by lia)
   have c1:=Int.emod_lt_of_pos (mix a (31+(i:Int))) (show 0<rc.getD r.toNat 0 by lia)
   refine⟨by lia,by lia,by lia,_,aH.of (hs _ _ F_),_,g7 r0 r1,_,rfl,by lia,λp np=>?_⟩
   generalize mix a (31+(i:Int)) % rc.getD r.toNat 0=c at c0 c1 ⊢;have Ga:=ah.put (o:=.tup [V.int r,V.int c]) np;refine⟨_,k6.t (k:=kT (r,c)) (Ga _ _ hd) aB (by rw[mX,cy,List.length_map];lia),hN _ _ ?_⟩
   by_cases hm:(r,c)∈bz
   ·rw[VW _ hm];exact⟨_,_,bz,rfl,ah.put2 (hs.trans Ga) nd,aB,nb,zF,by lia⟩
   ·rw[LA _ hm];refine⟨_,_,bz++[(r,c)],rfl,ah.put2 (hs.trans Ga) nd,aB,?_,?_,by simp;lia⟩
    ·rw[List.nodup_append];exact⟨nb,by simp,λx hx y hy e=>hm (by rw[List.mem_singleton.mp hy] at e;rw[← e];exact hx)⟩
    ·intro x hx;rcases List.mem_append.mp hx with h | h
     ·exact zF x h
     ·rw[List.mem_singleton.mp h];exact⟨r0,r1,c0,c1⟩
  ·rintro σ H' ⟨x,y,bz,rfl,hs,hd,nb,zF,bl⟩;walk_at "rdm";refine⟨_,hd,λl ts nl ka=>q l ts bz _ (hs.trans (ah.put nl)) (hs.free nl) nb zF (by lia) ?_ (ka.zn nl)⟩
   have:((sp.toNat*rc.length:Nat):Int)=sp*(rc.length:Int):=by rw[Int.natCast_mul,Int.toNat_of_nonneg s0]
   lia
theorem YE(T:Tx K mg A)(aI:bx mg base A.bq A.aZ):aU P w K mg base br 2 A.yG A.yH ["_law_cell", "_law_many"] V_:=by
 have bJ:=oq (P:=P) (w:=w) (base:=base) T aI;refine T.Fb.ok sU (λvs H Q E h=>?_) (λaO Ar outer s H vs Q E hr h=>?_)
 ·obtain⟨c,m,rfl,_⟩:=h
  rfl
 ·obtain⟨c,m,rfl,m0,m1,q⟩:=h;refine⟨_,(aC (aY (i:=2) sU.nd rfl (Or.inl rfl) (dG aj))
   (aC (dw PassesOwn.never rfl (qA rfl T.fJ (aa (pv 1) aj)) (b7 (i:=3) sU.nd rfl (Or.inl rfl))
   (aC (aY (i:=4) sU.nd rfl (Or.inl rfl) (aF bL (aM bJ (hr.mono (by first | decide | lia)) rfl T.bZ T.bV.kp T.bY .nil aJ (aa (pv 0) (aa (aF cg ao (pv 3)) aj))) (aF cg (aF mD ao ao) ao)))
   (aC (lz (bI (bw d_ (aF bL (aM bJ (hr.mono (by first | decide | lia)) rfl T.bZ T.bV.kp T.bY .nil aJ (aa (pv 0) (aa (aF cg ao (pv 3)) aj))) ao) ao (a_ _)) (aL (aY (i:=4) sU.nd rfl (Or.inl rfl) (bF eS (dG (aa ao (aa ao (aa (aF mD ao ao) aj)))) (aF bL (pv 4) ao) (λ_ _=>rfl)))) bH))
   (aL (cO (jV PySem.F.plainAttrs_list PySem.F.slot_list_append PySem.F.type_list_append jW (pv 2) (aa (pv 4) aj)))))))
   (aL (bE (pv 2))))),?_⟩
  wp_walk using cU;intro l hl;have sl:=ah.put (o:=.lst []) hl;refine JY m (λi σ H'=>∃x y ms,σ = [some (.int c),some (.int m),some (.ref l),x,y]/\ah H H'/\H' l=some (.lst (ms.map V.int))/\ms.length=i/\i<=16/\∀x∈ms,0<=x/\x<=1000000000) (λQ q=>?_) (by lia) (by lia) ⟨none,none,[],rfl,sl,aB,rfl,by lia,(λ_ h=>nomatch h)⟩ ?_ ?_
  ·walk_at "rdm";exact q
  ·rintro i σ H' N hN hi ⟨x,y,ms,rfl,hs,h1,h2,h3,h4⟩;wp_walk using cU;have j1:=Int.emod_nonneg (mix c (40+(i:Int))) (show (1000000001:Int)≠0 by decide)
   have j2:=Int.emod_lt_of_pos (mix c (40+(i:Int))) (show (0:Int)<1000000001 by decide)
   generalize mix c (40+(i:Int)) % 1000000001=n at j1 j2 ⊢;have k0:=Int.emod_nonneg n (show (3:Int)≠0 by decide)
   have k1:=Int.emod_lt_of_pos n (show (0:Int)<3 by decide)
   refine⟨by lia,by lia,by decide,by lia,by lia,λσ H2=>∃n,σ = [some (.int c),some (.int m),some (.ref l),some (.int (i:Int)),some (.int n)]/\ah H' H2/\0<=n/\n<=1000000000,dz (λ_=>⟨by decide,λp np=>?_⟩) (λ_=>⟨n,rfl,ah.refl _,j1,by lia⟩),?_⟩
   ·have e3:([V.int 0,V.int 1,V.int 1000000000]:List V) = [0,1,1000000000].map V.int:=rfl;refine⟨_,aH.of aB,_,by rw[e3];exact g7 k0 (by simpa using k1),?_⟩
    refine⟨_,rfl,ah.put np,?_,?_⟩
    ·have:n % 3=0\/n % 3=1\/n % 3=2:=by lia
     rcases this with e | e | e <;> rw[e] <;> decide
    ·have:n % 3=0\/n % 3=1\/n % 3=2:=by lia
     rcases this with e | e | e <;> rw[e] <;> decide
   ·rintro σ H2 ⟨n,rfl,s2,n0,n1⟩;walk_at "rdm";have OD:=s2 _ _ h1;refine⟨⟨_,aH.of OD⟩,_,OD,by rw[List.length_map];lia,hN _ _ ⟨_,_,ms++[n],rfl,ah.put2 (hs.trans s2) hl,by rw[aB,List.map_append];rfl,by simp[h2],by lia,?_⟩⟩
    intro x hx;rcases List.mem_append.mp hx with hx | hx
    ·exact h4 x hx
    ·rw[List.mem_singleton.mp hx];exact⟨n0,n1⟩
  ·rintro σ H' ⟨x,y,ms,rfl,hs,h1,h2,h3,h4⟩;walk_at "rdm";exact q _ _ _ hs hl h1 (by lia) h4
theorem OE(T:Tx K mg A)(aI:bx mg base A.bq A.aZ):aU P w K mg base br 3 A.w6 A.w_ ["first", "many", "at", "asker", "latest", "behind"] (V1 K):=by
 have jj:=zC (P:=P) (w:=w) (base:=base) T aI;have YF:=Yq (P:=P) (w:=w) (base:=base) T aI;refine T.yT.ok XF (λvs H Q E h=>?_) (λaO Ar outer s H vs Q E hr h=>?_)
 ·obtain⟨f,m,a,s',l,b,ns,rfl,_⟩:=h
  rfl
 ·obtain⟨f,m,a,s',l,b,ns,rfl,hB,hS,hR,q⟩:=h;refine⟨_,(aC (cO (aM jj (hr.mono (by first | decide | lia)) rfl T.kF T.jL.kp T.kE .nil aJ (aa (pv 0) (aa ao (aa (fz (v:=.int 1000000) rfl T.Oe ⟨_,rfl⟩) (aa cM aj))))))
   (aC (cO (aM jj (hr.mono (by first | decide | lia)) rfl T.kF T.jL.kp T.kE .nil aJ (aa (pv 1) (aa ao (aa (fz (v:=.int 16) rfl T.Od ⟨_,rfl⟩) (aa cM aj))))))
   (aC (cO (aM jj (hr.mono (by first | decide | lia)) rfl T.kF T.jL.kp T.kE .nil aJ (aa (pv 2) (aa ao (aa (fz (v:=.int 1000000000000) rfl T.FH ⟨_,rfl⟩) (aa cM aj))))))
   (aC (cO (aM jj (hr.mono (by first | decide | lia)) rfl T.kF T.jL.kp T.kE .nil aJ (aa (pv 3) (aa ao (aa (fz (v:=.int 20) rfl T.Og ⟨_,rfl⟩) (aa cM aj))))))
   (aC (bI (bw RG (pv 4) ju (a_ _)) (aL (cO (aM jj (hr.mono (by first | decide | lia)) rfl T.kF T.jL.kp T.kE .nil aJ (aa (pv 4) (aa ao (aa (fz (v:=.int 10000000000000) rfl T.Oh ⟨_,rfl⟩) (aa cM aj))))))) bH)
   (aL (cO (aM YF (hr.mono (by first | decide | lia)) rfl T.MQ T.Ex.kp T.MP .nil aJ (aa (pv 5) aj))))))))),?_⟩
  walk_at "rdm";refine⟨_,_,_,_,rfl,hB.f0,hB.f1,_,_,_,_,rfl,hB.m0,hB.m1,_,_,_,_,rfl,hB.a0,hB.a1,_,_,_,_,rfl,hB.s0,hB.s1,?_⟩
  try dsimp only
  cases l with
  | none=>exact ite_no (by simp[fG]) ⟨b,ns,rfl,hS,hR,q⟩
  | some x=>exact ite_yes (by simp[fG]) ⟨x,0,10000000000000,_,rfl,(hB.l x rfl).1,(hB.l x rfl).2,b,ns,rfl,hS,hR,q⟩
theorem OF(T:Tx K mg A)(aI:bx mg base A.bq A.aZ):aU P w K mg base br 3 A.xr A.xu ["at"] (V6 K A.bN):=by
 have uf:=FP (P:=P) (w:=w) (base:=base) T aI;have jj:=zC (P:=P) (w:=w) (base:=base) T aI;refine T.yW.ok XH (λvs H Q E h=>?_) (λaO Ar outer s H vs Q E hr h=>?_)
 ·obtain⟨a,rfl,_⟩:=h
  rfl
 ·obtain⟨a,rfl,a0,a1,q⟩:=h;refine⟨_,(aC (cO (aM jj (hr.mono (by first | decide | lia)) rfl T.kF T.jL.kp T.kE .nil aJ (aa (pv 0) (aa ao (aa (fz (v:=.int 1000000000000) rfl T.FH ⟨_,rfl⟩) (aa cM aj))))))
   (aL (bE (oV T.yZ uf (hr.mono (by first | decide | lia)) rfl T.y9 T.yS .nil aJ (aa cM (aa ao (aa ao (aa (cY aj) (aa (pv 0) (aa ao (aa ju (aa (cY aj) (aa fy aj))))))))))))),?_⟩
  walk_at "rdt";refine⟨_,_,_,_,rfl,a0,a1,?_⟩
  try dsimp only
  intro m nm b nb x dx nx gn gm;refine⟨x,dx,_,_,_,_,_,_,_,_,_,rfl,aB,rfl,?_⟩;obtain⟨a1,a2,a3⟩:=De (K:=K) (C:=A.bN) (q:=⟨"rest",0,0,[],a,0,none,[],false⟩) ((ah.put nm).trans (ah.put nb)) nx gn gm (ah.put nb _ _ aB) aB;exact q _ _ _ _ _ a1 a2 a3
theorem OG(T:Tx K mg A)(aI:bx mg base A.bq A.aZ):aU P w K mg base br 3 A.sY A.xT ["self", "zones", "lap", "skew", "swing"] (Td K):=by
 have YG:=Ye (P:=P) (w:=w) (base:=base) T aI;have YH:=Yg (P:=P) (w:=w) (base:=base) T aI;have YI:=Yr (P:=P) (w:=w) (base:=base) T aI;have YJ:=Yi (P:=P) (w:=w) (base:=base) T aI;have Gb:=Oz (P:=P) (w:=w) (base:=base) T aI;have Gd:=OB (P:=P) (w:=w) (base:=base) T aI;refine T.Na.ok XM (λvs H Q E h=>?_) (λaO Ar outer s H vs Q E hr h=>?_)
 ·obtain⟨C,p,dx,za,sa,fF,z,aW,cj,sw,rfl,_⟩:=h
  rfl
 ·obtain⟨C,p,dx,za,sa,fF,z,aW,cj,sw,rfl,cp,hp,hz,ok,h1,h2,h3,h4,hd,hS,so,q⟩:=h;refine⟨_,(aC (cO (aM YG (hr.mono (by first | decide | lia)) rfl T.MZ T.EJ.kp T.MY .nil aJ (aa (pv 1) aj)))
   (aC (cO (aM YH (hr.mono (by first | decide | lia)) rfl T.M3 T.EK.kp T.M0 .nil aJ (aa (pv 1) (aa (pv 2) (aa (pv 3) aj)))))
   (aC (dU (pv 0) (aM YJ (hr.mono (by first | decide | lia)) rfl T.M_ T.EN.kp T.M9 .nil aJ (aa (pv 1) aj)) rfl)
   (aC (cO (aM YI (hr.mono (by first | decide | lia)) rfl T.M5 T.EL.kp T.M4 .nil aJ (aa (pv 4) (aa (bT eT rfl T.dM boot_len (aa (cK (pv 0) rfl) aj)) aj))))
   (aC (dU (pv 0) (pv 2) rfl)
   (aC (dU (pv 0) (pv 3) rfl)
   (aC (dU (pv 0) (jU Bp rfl T.jM boot_list (aa (pv 4) aj)) rfl)
   (aC (dU (pv 0) (aM Gb (hr.mono (by first | decide | lia)) rfl T.ER T.yX.kp T.EO .nil aJ (aa (cK (pv 0) rfl) (aa ao aj))) rfl)
   (aL (dU (pv 0) (aM Gd (hr.mono (by first | decide | lia)) rfl T.ET T.yY.kp T.ES .nil aJ (aa (cK (pv 0) rfl) aj)) rfl)))))))))),?_⟩
  wp_walk using cp.cl,cp.n1,cp.n2,cp.n3,cp.n4,cp.n5,cp.n6;refine⟨za,fF,z,rfl,hz,ok,λH1 s1=>⟨za,fF,z,aW,cj,rfl,hz.same s1,ok,h1,h2,h3,h4,hd,?_⟩⟩;refine⟨za,fF,z,rfl,hz.same s1,ok,λa1 H2 s2 n1 e1=>?_⟩;have kI:=(s1.trans s2) _ _ hp;have ou:a1≠p:=(bK (s1 _ _ hp) n1).symm;have cl:=q_ z λp hp=>(ok.r p hp).1;have YK:=ok.vD;have c2:=ok.s2;have nB:SameBut p H H2:=.of (s1.trans s2);have YL:H a1=none:=s1.free n1;wp_walk using cp.cl,cp.n1,cp.n2,cp.n3,cp.n4,cp.n5,cp.n6,kI;refine⟨_,.inl (aH.of ((au ou).trans e1)),?_⟩;have OH:∀ {H':Hp},SameBut p H H'->aH K H' sa (sw.map V.int):=λ{H'} sb=>by
   rcases hS with(h | ⟨o,h⟩) | h
   ·exact .inl (.inl (sb _ _ h (fZ h hp (by intro z;cases z))))
   ·exact .inl (.inr ⟨o,sb _ _ h (fZ h hp (by intro z;cases z))⟩)
   ·exact .inr h
  refine⟨sa,sw,_,rfl,OH nB.put,?_,?_,?_⟩
  ·simpa only[List.length_map,cl] using so
  ·simp only[List.length_map];lia
  wp_walk using cp.cl,cp.n1,cp.n2,cp.n3,cp.n4,cp.n5,cp.n6;refine⟨_,.inl (OH nB.put),λa2 n2=>?_⟩;have iM:p≠a2:=bK aB n2;have OI:H2 a2=none:=by rw[au iM.symm] at n2;exact n2
  wp_walk using cp.cl,cp.n1,cp.n2,cp.n3,cp.n4,cp.n5,cp.n6,au iM;have YM:a1≠a2:=bK e1 OI;have lY:SameBut p H (upd (upd (upd H2 p (HO.ins C dx [(Str.ofString "ring_cells",V.ref a1),(Str.ofString "lap",V.int aW),(Str.ofString "skew",V.int cj)])) a2 (HO.lst (List.map V.int sw))) p
   (HO.ins C dx [(Str.ofString "ring_cells",V.ref a1),(Str.ofString "lap",V.int aW),(Str.ofString "skew",V.int cj),(Str.ofString "swing",V.ref a2)])):=(nB.put.step (ah.put n2)).put
  have JC:=e1;have YN:H a2=none:=(s1.trans s2).free OI;generalize Ge:upd (upd (upd H2 p _) a2 _) p _=H3 at lY ⊢;have p3:H3 p=some (HO.ins C dx [(Str.ofString "ring_cells",V.ref a1),(Str.ofString "lap",V.int aW),(Str.ofString "skew",V.int cj),(Str.ofString "swing",V.ref a2)]):=by rw[← Ge,aB]
  have q1:H3 a1=some (.lst ((counts z).map V.int)):=by rw[← Ge,au ou,au YM,au ou];exact e1
  have q2:H3 a2=some (.lst (sw.map V.int)):=by rw[← Ge,au iM.symm,aB]
  have cm:∀c∈counts z,0<=c/\c<=1000:=λc hc=>by
   obtain⟨y,hy,rfl⟩:=Cf hc;have:=ok.r y hy;lia
  refine⟨a1,counts z,0,rfl,aH.of q1,by lia,cm,by decide,by decide,λa3 ts H4 s4 n3 zG z4=>?_⟩
  have p4:=s4 _ _ p3;have Gf:a3≠p:=(bK p3 n3).symm;have gY:H a3=none:=by
   cases e:H a3 with
   | none=>rfl
   | some o=>rw[lY _ _ e Gf] at n3;cases n3
  have Gg:∀t∈ts,t≠p:=λt ht=>(bK p3 (zG t ht)).symm;have YO:∀t∈ts,H t=none:=λt ht=>by
   cases e:H t with
   | none=>rfl
   | some o=>have:=lY _ _ e (Gg t ht);rw[zG t ht] at this;cases this
  wp_walk using cp.cl,cp.n1,cp.n2,cp.n3,cp.n4,cp.n5,cp.n6,p4;have z5:=z4.keep (H':=upd H4 p (HO.ins C dx [(Str.ofString "ring_cells",V.ref a1),(Str.ofString "lap",V.int aW),(Str.ofString "skew",V.int cj),(Str.ofString "swing",V.ref a2),(Str.ofString "number_cells",V.ref a3)])) (au Gf) λt ht=>au (Gg t ht);have zl:(dJ (counts z) 0).length<=1000000:=by
   have:=rm (s:=0) (by decide) (counts z) 0 cm
   have e:(counts z).length<=120:=by lia
   unfold dJ;lia
  refine⟨a3,ts,_,rfl,z5,zl,λa4 H5 s5 n4 e4=>?_⟩;have Gh:a4≠p:=(bK aB n4).symm;have YQ:SameBut p H H5:=((lY.step s4).put).step s5;have OJ:H4 a4=none:=by rw[au Gh] at n4;exact n4
  have YR:H a4=none:=by
   cases e:H a4 with
   | none=>rfl
   | some o=>rw[(lY.step s4) _ _ e Gh] at OJ;cases OJ
  wp_walk using cp.cl,cp.n1,cp.n2,cp.n3,cp.n4,cp.n5,cp.n6,s5 _ _ aB;refine q _ dx a1 a2 a3 a4 ts YQ.put ?_ aB (j8.lit cp aB ?_ ?_ ?_ ?_)
  ·intro b hb;simp only[List.mem_cons] at hb;rcases hb with rfl | rfl | rfl | rfl | hb
   ·exact YL
   ·exact YN
   ·exact gY
   ·exact YR
   ·exact YO b hb
  ·rw[au ou];exact s5 _ _ ((au ou).trans (s4 _ _ q1))
  ·rw[au iM.symm];exact s5 _ _ ((au iM.symm).trans (s4 _ _ q2))
  ·exact(z5.same s5).keep (au Gf) λt ht=>au (Gg t ht)
  ·rw[au Gh];exact e4
theorem OL(T:Tx K mg A)(aI:bx mg base A.bq A.aZ):aU P w K mg base (eB P w base) 3 A.pZ A.xX ["self", "number"] (Xv K A.bg):=by
 have OM:=Ow (P:=P) (w:=w) (base:=base) T aI;refine T.Nn.vK XR (λvs H Q E h=>?_) (λaO Ar outer s H vs Q E hr h=>?_)
 ·obtain⟨C,p,P,fp,k,rfl,_⟩:=h
  rfl
 ·obtain⟨C,p,P,fp,k,rfl,hP,q,qe⟩:=h;obtain⟨dx,a1,a2,a3,a4,ts,fs,rfl,h⟩:=hP;refine⟨_,(aC (bI (PW.pt (gf (bw gG (pv 1) ao (a_ _)) (gb (bw qE (pv 1) (bT eT rfl T.dM boot_len (aa (cK (pv 0) rfl) aj)) (a_ _))))) (aL (WA (by exact Wz) rfl T.qa T.n8 PySem.F.excBase_ValueError rfl rfl OM (hr.mono (by first | decide | lia)) T.MM (show Vals [.aG] [.none] from(.cons rfl .nil)) (aa (pv 1) aj))) bH)
   (aL (bE (bF eS (cK (pv 0) rfl) (pv 1) (λ_ _=>rfl))))),?_⟩
  wp_walk using h.o,h.f1,h.f2,h.f3,h.f4,h.f5,h.f6,h.m1,h.m2,h.m3,h.m4,h.m5,h.m6,h.m7,h.m8,h.m9,h.mZ,h.m_,h.cp.cl,h.cp.n1,h.cp.n2,h.cp.n3,h.cp.n4,h.cp.n5,h.cp.n6;have hn:=h.nc.n;refine dz (λh0=>λd nd=>qe (by lia) d _ (ah.put nd) aB) λh0=>⟨_,.inl h.nc.sq,?_⟩
  rw[List.length_map];refine dz (λh1=>λd nd=>qe (by lia) d _ (ah.put nd) aB) λh1=>?_
  have hk:k.toNat<ts.length:=by lia
  have g1:(ts.map V.ref)[k.toNat]? = some (V.ref ts[k.toNat]):=by simp[hk]
  obtain⟨t,q',e1,e2,e3⟩:=h.nc.at g1;have ek:k=(k.toNat:Int):=by lia
  refine⟨_,h.nc.sq,V.ref ts[k.toNat],?_,?_⟩
  ·have:=oY g1;rwa [← ek] at this
  ·rw[e1];exact q (by lia) (by lia) t q' e2 e3
theorem YS(T:Tx K mg A)(aI:bx mg base A.bq A.aZ):aU P w K mg base br 3 A.x_ A.ya ["plate", "bad"] (TU K [A.bu,A.bf]):=by
 have YT:=Yk (P:=P) (w:=w) (base:=base) T aI;refine T.EY.ok wO (λvs H Q E h=>?_) (λaO Ar outer s H vs Q E hr h=>?_)
 ·obtain⟨C,p,ba,P,fp,iG,bz,rfl,_⟩:=h
  rfl
 ·obtain⟨C,p,ba,P,fp,iG,bz,rfl,hC,hP,hz,hlen,nd,hv,q⟩:=h;have hu:=mR hr;refine⟨_,(aC (aY (i:=2) wO.nd rfl (Or.inl rfl) BP)
   (aC (dw PassesOwn.never rfl (gW (pv 1)) (jw rfl (dQ (b7 (i:=3) wO.nd rfl (Or.inl rfl)) (dQ (b7 (i:=4) wO.nd rfl (Or.inl rfl)) jv)))
   (aC (bI (PW.pt (gf (mw (kO (Kg (pv 0) T.Yb YT (hr.mono (by first | decide | lia)) T.Nk .nil aJ (aa (pv 3) (aa (pv 4) aj))))) (gb (AI (Jx hu (cY (aa (pv 3) (aa (pv 4) aj))) (pv 2)))))) fO bH)
   (aL (vo hu (pv 2) (cY (aa (pv 3) (aa (pv 4) aj))) fy rfl))))
   (aL (bE (pv 2))))),?_⟩
  walk_at "rdm";refine λd hd=>?_;refine rl ba (iG.map V.ref) (λi σ H'=>∃r c,σ = [some (.ref p),some (.ref ba),some (.ref d),r,c]/\ah H H'/\i<=bz.length/\H' d=some (.dT (cy (bz.take i)))) (λQ q=>⟨_,rfl,q⟩) (ah.put hd |>.seq hz.sq)
   ⟨none,none,rfl,ah.put hd,Nat.zero_le _,aB⟩ (by rintro i σ H' _ ⟨r,c,rfl,hs,_⟩;exact hs.seq hz.sq) ?_ ?_
  ·rintro i x σ H' N hN hx ⟨r,c,rfl,hs,hi,h1⟩;obtain⟨t,w,rfl,hw,ht⟩:=hz.at hx;refine j7 (bA.of (hs _ _ ht)) rfl ?_;have ON:=hP.same hs;obtain⟨dx,a1,a2,a3,a4,ts,fs,Gi,h⟩:=id ON;obtain⟨v0,v1,v2,v3⟩:=hv w (get_mem hw);have ue:=iF hw;wp_walk using h.o,h.f1,h.f2,h.f3,h.f4,h.f5,h.f6,h.m1,h.m2,h.m3,h.m4,h.m5,h.m6,h.m7,h.m8,h.m9,h.mZ,h.m_,h.cp.cl,h.cp.n1,h.cp.n2,h.cp.n3,h.cp.n4,h.cp.n5,h.cp.n6;refine⟨hC,C,p,P,fp,_,_,rfl,ON,?_⟩;rw[decide_eq_true ⟨v0,v1,v2,v3⟩];refine⟨true,rfl,by simp,λt1 n1=>?_⟩
   have rW:w∉bz.take i:=by
    intro hm;obtain⟨j,hj,e⟩:=List.mem_iff_getElem.mp hm;rw[List.length_take] at hj;rw[List.getElem_take] at e;have g1:bz[j]? = some w:=by rw[← e];exact List.getElem?_eq_getElem (by lia)
    have:=(List.getElem?_inj (by lia) nd).mp (g1.trans hw.symm)
    lia
   have s1:=ah.put (o:=.tup [V.int w.1,V.int w.2]) n1;refine⟨_,iY.t (k:=kT w) (s1 _ _ h1) aB,by rw[rA rW];simp,λt2 n2=>?_⟩
   have s2:=s1.trans (ah.put (o:=.tup [V.int w.1,V.int w.2]) n2);refine⟨_,k6.t (k:=kT w) (s2 _ _ h1) aB (by rw[mX,cy,List.length_map,List.length_take];lia),hN _ _ ⟨_,_,rfl,ah.put2 (hs.trans s2) hd,ue,?_⟩⟩
   rw[aB,Js _ (rA rW),take_succ_get hw];simp[cy]
  ·rintro σ H' ⟨r,c,rfl,hs,hi,h1⟩;walk_at "rdm";rw[lenZ hz.n,List.take_length] at h1;exact q _ _ hs hd h1
theorem YU(T:Tx K mg A)(aI:bx mg base A.bq A.aZ):aU P w K mg base br 3 A.yh A.yi ["ring_cells", "spares", "number_cells", "bad_cells"] (VQ K A.aZ (nG fH) (nH "nearest_rings")):=by
 have YV:=Ym (P:=P) (w:=w) (base:=base) T aI;have YW:=Yt (P:=P) (w:=w) (base:=base) T aI;refine T.E5.ok pT (λvs H Q E h=>?_) (λaO Ar outer s H vs Q E hr h=>?_)
 ·obtain⟨ra,na,d,sp,rc,ts,z,bz,rfl,_⟩:=h
  rfl
 ·obtain⟨ra,na,d,sp,rc,ts,z,bz,rfl,zE,h2,i8,s0,s1,hc,hz,hlen,hd,pN,zH,tab,en,q⟩:=h;have hu:=mR hr;refine⟨_,(aC (aY (i:=4) pT.nd rfl (Or.inl rfl) (dG aj))
   (aC (aY (i:=5) pT.nd rfl (Or.inl rfl) (jU Vw rfl T.zy boot_dict (aa (pv 3) aj)))
   (aC (dw PassesOwn.never rfl (gW (aM YV (hr.mono (by first | decide | lia)) rfl T.Ny T.EZ.kp T.Nx .nil aJ (aa (pv 2) (aa (pv 3) aj)))) (b7 (i:=6) pT.nd rfl (Or.inl rfl))
   (aC (aY (i:=7) pT.nd rfl (Or.inl rfl) (bF eS (pv 2) (pv 6) (λ_ _=>rfl)))
   (aC (aY (i:=8) pT.nd rfl (Or.inl rfl) (aM YW (hr.mono (by first | decide | lia)) rfl T.ND T.E4.kp T.NC .nil aJ (aa (pv 0) (aa (pv 1) (aa (bF cQ (pv 7) ao (λ_ _=>rfl)) (aa (pv 5) aj))))))
   (aC (bI (bw u5 (pv 8) ju (a_ _)) fO bH)
   (aC (vo hu (pv 5) (pv 8) fy rfl)
   (aL (cO (jV PySem.F.plainAttrs_list PySem.F.slot_list_append PySem.F.type_list_append jW (pv 4) (aa (cY (aa (pv 6) (aa (pv 7) (aa (pv 8) aj)))) aj)))))))))
   (aL (bE (pv 4)))))),?_⟩
  walk_at "rdm";refine λl hl=>?_;have bk:(cy bz).map (λx=>x.1)=bz.map kT:=by unfold cy;rw[List.map_map];rfl
  refine⟨_,ah.put hl _ _ hd,by rw[bk];exact pN,λu nu=>?_⟩
  have Gj:=(ah.put (o:=.lst []) hl).trans (ah.put (o:=.dT (cy bz)) nu);have YX:H u=none:=(ah.put (o:=.lst []) hl).free nu;refine vF ?_;walk_at "rdm";refine⟨na,d,ts,z,cy bz,rfl,hz.same Gj,hlen,Gj _ _ hd,λb H2 s2 nb eb=>⟨b,rfl,?_⟩⟩;rw[wu,List.map_map] at eb;have s3:=Gj.trans s2;have el:H2 l=some (.lst []):=s2 _ _ (ah.put nu _ _ aB);have eu:H2 u=some (.dT (cy bz)):=s2 _ _ aB;have lu:l≠u:=bK aB nu;have YY:b≠l:=(bK (ah.put nu _ _ aB) nb).symm;have YZ:b≠u:=(bK aB nb).symm;refine mY.by b ((fh bz 0 z).map (V.int ∘ λ(n:Nat)=>(n:Int))) (λi σ H'=>∃x y w us os ms,σ = [some (.ref ra),some (.int sp),some (.ref na),some (.ref d),some (.ref l),some (.ref u),x,y,w]/\Kp A.aZ (nG fH) (nH "nearest_rings") H H'/\
    H' b=some (.lst ((fh bz 0 z).map (V.int ∘ λ(n:Nat)=>(n:Int))))/\H' u=some (.dT (cy (bz++ms.map λm=>m.2.2)))/\lJ rc sp z bz ((fh bz 0 z).take i) ms/\fV H' l ts us os ms/\∀t∈os,H t=none)
   (aH.of eb) ⟨none,none,none,[],[],[],rfl,Kp.of tab s3,eb,by simpa using eu,.nil,⟨el,rfl,rfl,λi u m e=>by cases e⟩,λt z=>by cases z⟩ (by rintro i σ H' _ ⟨x,y,w,us,os,ms,rfl,k,hb,_⟩;exact aH.of hb) ?_ ?_
  ·rintro i x σ H' N hN hx ⟨x0,y0,w0,us,os,ms,rfl,k,hb,qb,hL,hM,Gk⟩;obtain⟨n,hn,rfl⟩:=j6 hx;obtain⟨_,c,zI,hcb⟩:=Lz (get_mem hn);rw[Nat.sub_zero] at zI;have jk:Zn H' na ts z:=⟨k.get tab hz.l,hz.n,λi t p e1 e2=>k.get tab (hz.t i t p e1 e2)⟩;simp only[Function.comp_apply,Ml,Mj,Jc,LM,LN,Ku,vP,CC,Cw,vO,KJ,Kv,Ds,Dn,Dl,Dm,Dy,DH,LG,nJ,LH,Ly,Jp,rq,Jj,Bq,BA,IG,Ci,Bh,Bg,I_,Bo,Bm,and_assoc,uL,HO.ins.injEq,q9,gK,cX,String.reduceBEq,List.lookup_cons,List.lookup_nil,aB,HO.lst.injEq,HO.dT.injEq,HO.tup.injEq,String.reduceEq,false_and,or_false,false_or,mX,BO,Jy,BN,Jw,BJ,BK,Jz,Bool.not_eq_true',decide_eq_false_iff_not,Classical.not_not,AR,if_false_left,if_false_right,B5,AM,gH,List.length_map,List.getElem?_nil,AO,qu,kQ,uY,qq,qt,AU,uU,tC,oO,jR,rI,AY,rU,A5,tB,AQ,uX,Io,uW,ve,Bc,u9,qK,AN,Ih,AJ,AK,AL,Ii,Ij,Bf,Bd,Br,qN,Bw,Bx,BB,BD,qM,oZ,A3,A4,My,Mz,MA,MB,MC,MD,ME,MF,qD,A1,A2,A_,Bb,IS,u_,_L.start,JN,JO,JP,List.map_cons,List.map_nil,List.cons_append,List.nil_append,List.append_nil,List.length_cons,List.length_nil,List.getElem?_cons_zero,List.getElem?_cons_succ,Option.some.injEq,exists_eq_left,exists_eq_left',exists_and_left,exists_eq,V.int.injEq,V.ref.injEq,V.bl.injEq,V.ty.injEq,V.str.injEq,List.cons.injEq,and_true,true_and,List.set_cons_zero,List.set_cons_succ,decide_eq_true_eq,Nat.reduceSub,Nat.reduceAdd,List.replicate_succ,List.replicate_zero,List.replicate,Int.reduceLT,Int.reduceLE,Int.reducePow,Int.reduceToNat,Int.reduceNeg,Nat.reduceLT,Nat.reduceLeDiff,Nat.reducePow,Int.reduceMul,Int.reduceAdd,Int.reduceSub,and_self,or_true,true_or,gt_iff_lt,ge_iff_le,if_true,if_false,Bool.false_eq_true,reduceIte,Nat.sub_self,Nat.sub_zero];have Y0:n<ts.length:=by rw[hz.n];exact iF zI
   obtain⟨t,g1⟩:∃t,ts[n]? = some t:=⟨_,List.getElem?_eq_getElem Y0⟩;have g2:(ts.map V.ref)[n]? = some (V.ref t):=by rw[List.getElem?_map,g1];rfl
   have ht:=jk.t n t c g1 zI;have Y3:=hL.len;rw[List.length_take] at Y3;have ue:=iF hn;have bl:=VP bz z;refine⟨_,jk.sq,_,oY g2,t,rfl,_,bA.of ht,_,rfl,?_⟩;refine⟨ra,u,c.1,sp,rc,bz++ms.map (λm=>m.2.2),rfl,k.seq tab zE,h2,i8,s0,s1,hc,qb,k.t,λis H3 ord k3=>⟨λz=>absurd z (en _ _ _ (by rw[List.length_map];lia) ord),λo to hf Y4 Gm=>?_⟩⟩
   have ia:=k3.get k.t qb;have ho:=VH hf;have Y5:=hM.but k.t k3;have OO:=Y5.other (o:=.dT (putK (cy (bz++ms.map λm=>m.2.2)) (kT o) (.bl true))) ⟨_,ia⟩;have kA:=(k.trans k3).put (o:=.dT (putK (cy (bz++ms.map λm=>m.2.2)) (kT o) (.bl true))) YX ia;have l4:=OO.l;refine⟨(by intro z;cases z),_,k6.t (k:=kT o) ia Gm (by rw[mX,cy,List.length_map,List.length_append,List.length_map];lia),⟨_,aH.of l4⟩,λp np=>?_⟩
   have lZ:=ah.put (o:=HO.tup [V.int (n:Int),V.ref t,V.ref to]) np;have e9:cy (bz++(ms++[(n,c,o)]).map λm=>m.2.2)=putK (cy (bz++ms.map λm=>m.2.2)) (kT o) (.bl true):=by
    rw[LA _ ho,List.map_append,← List.append_assoc];rfl
   have t3:=k3.get k.t ht;refine⟨_,lZ _ _ l4,by rw[List.length_map,hM.n];lia,hN _ _ ⟨_,_,_,us++[p],os++[to],ms++[(n,c,o)],rfl,?_,?_,?_,?_,?_,?_⟩⟩
   ·exact(kA.step lZ).put hl (lZ _ _ l4)
   ·rw[au YY];refine lZ _ _ ?_;rw[au YZ];exact k3.get k.t hb
   ·rw[au lu.symm,e9];exact lZ _ _ aB
   ·rw[take_succ_get hn];exact hL.snoc zI ord hf
   ·refine(OO.same lZ).snoc (m:=(n,c,o)) aB g1 (lZ _ _ ?_) (lZ _ _ ?_)
    ·rw[au (fZ t3 ia (by intro z;cases z))];exact t3
    ·rw[au (fZ Gm ia (by intro z;cases z))];exact Gm
   ·intro t' Y6;rcases List.mem_append.mp Y6 with h' | h'
    ·exact Gk t' h'
    ·rw[List.mem_singleton.mp h'];exact k.free Y4
  ·rintro σ H' ⟨x,y,w,us,os,ms,rfl,k,hb,qb,hL,hM,Gk⟩;walk_at "rdm";rw[List.length_map,List.take_length] at hL;exact q l us os ms H' k hl Gk hL hM
theorem Y7(T:Tx K mg A)(aI:bx mg base A.bq A.aZ):aU P w K mg base br 3 A.yI A.yJ ["_law_cell", "_law_total", "_law_lap_here", "_law_at_here", "_law_others"] (Wa K):=by
 have bJ:=oq (P:=P) (w:=w) (base:=base) T aI;have Y8:=YE (P:=P) (w:=w) (base:=base) T aI;refine T.Fc.ok gu (λvs H Q E h=>?_) (λaO Ar outer s H vs Q E hr h=>?_)
 ·obtain⟨c,T',aW,a,oa,os,rfl,_⟩:=h
  rfl
 ·obtain⟨c,T',aW,a,oa,os,rfl,t0,t1,l0,l1,a0,a1,ho,hR,q⟩:=h;refine⟨_,(aC (aY (i:=5) gu.nd rfl (Or.inl rfl) (dG (aa cM (aa cM (aa cM (aa cM (aa cM (aa cM (aa cM (aa cM (aa cM (aa cM (aa cM aj)))))))))))))
   (aC (aY (i:=5) gu.nd rfl (Or.inl rfl) (bF eS (pv 5) (aF bL (aM bJ (hr.mono (by first | decide | lia)) rfl T.bZ T.bV.kp T.bY .nil aJ (aa (pv 0) (aa ao aj))) ao) (λ_ _=>rfl)))
   (aC (aY (i:=3) gu.nd rfl (Or.inl rfl) (aF cg (pv 3) (aF jz (aF bL (aM bJ (hr.mono (by first | decide | lia)) rfl T.bZ T.bV.kp T.bY .nil aJ (aa (pv 0) (aa ao aj))) ao) (aF bL (aM bJ (hr.mono (by first | decide | lia)) rfl T.bZ T.bV.kp T.bY .nil aJ (aa (pv 0) (aa ao aj))) (aF cg (aF u0 (pv 2) ao) ao)))))
   (aC (bI (bw d_ (pv 5) cM (a_ _)) (aL (bE (cY (aa (pv 5) (aa ao (aa ao (aa (cY aj) (aa (pv 3) (aa ao (aa ju (aa (cY aj) aj))))))))))) bH)
   (aC (aY (i:=6) gu.nd rfl (Or.inl rfl) (aF bL (aM bJ (hr.mono (by first | decide | lia)) rfl T.bZ T.bV.kp T.bY .nil aJ (aa (pv 0) (aa ao aj))) (pv 1)))
   (aC (aY (i:=7) gu.nd rfl (Or.inl rfl) (aF cg ao (aF bL (aM bJ (hr.mono (by first | decide | lia)) rfl T.bZ T.bV.kp T.bY .nil aJ (aa (pv 0) (aa ao aj))) (bT (A6 rfl) rfl T.lV boot_min (aa ao (aa (aF iU (pv 1) (pv 6)) aj))))))
   (aC (lz (bI (bw d_ (aF bL (aM bJ (hr.mono (by first | decide | lia)) rfl T.bZ T.bV.kp T.bY .nil aJ (aa (pv 0) (aa ao aj))) ao) ao (a_ _)) (aL (aY (i:=7) gu.nd rfl (Or.inl rfl) (bT (A6 rfl) rfl T.lV boot_min (aa ao (aa (aF iU (pv 1) (pv 6)) aj))))) bH))
   (aC (aY (i:=8) gu.nd rfl (Or.inl rfl) (aF bL (aM bJ (hr.mono (by first | decide | lia)) rfl T.bZ T.bV.kp T.bY .nil aJ (aa (pv 0) (aa ao aj))) ao))
   (aC (lz (bI (bw d_ (aF bL (aM bJ (hr.mono (by first | decide | lia)) rfl T.bZ T.bV.kp T.bY .nil aJ (aa (pv 0) (aa ao aj))) ao) ao (a_ _)) (aL (aY (i:=8) gu.nd rfl (Or.inl rfl) ao)) bH))
   (aC (aY (i:=9) gu.nd rfl (Or.inl rfl) ju)
   (aC (lz (bI (bw d_ (aF bL (aM bJ (hr.mono (by first | decide | lia)) rfl T.bZ T.bV.kp T.bY .nil aJ (aa (pv 0) (aa ao aj))) ao) ao (a_ _)) (aL (aY (i:=9) gu.nd rfl (Or.inl rfl) (aF cg (pv 3) (aF bL (aM bJ (hr.mono (by first | decide | lia)) rfl T.bZ T.bV.kp T.bY .nil aJ (aa (pv 0) (aa ao aj))) (aF cg (aF jz ao (pv 2)) ao))))) bH))
   (aC (aY (i:=10) gu.nd rfl (Or.inl rfl) (cY aj))
   (aC (lz (bI (bw d_ (aF bL (aM bJ (hr.mono (by first | decide | lia)) rfl T.bZ T.bV.kp T.bY .nil aJ (aa (pv 0) (aa ao aj))) ao) ao (a_ _)) (aL (aY (i:=10) gu.nd rfl (Or.inl rfl) (jU vf rfl T.jN boot_tuple (aa (vB (N:=["_law_k", "_law_cell"]) (nt:=1) (fv:=[0]) (dX.of rfl rfl (by rfl) (by rfl) (by repeat (first | exact trivial | refine⟨rfl,?_⟩)) (by rfl) (by rfl) (by rfl) (by decide) (by decide +kernel)) rfl (gW (pv 4)) (λC s H fp=>(b7 (i:=0) (show List.Nodup (["_law_k", "_law_cell"]:List Str) by decide +kernel) rfl (Or.inl rfl))) (λC s H fp=>(JD (bw d_ (aF bL (aM bJ (hr.mono (by first | decide | lia)) rfl T.bZ T.bV.kp T.bY .nil aJ (aa (pv 1) (aa (aF cg ao (pv 0)) aj))) ao) ao (a_ _)))) (λC s H fp=>(pv 0))) aj)))) bH))
   (aC (aY (i:=11) gu.nd rfl (Or.inl rfl) (cY aj))
   (aC (lz (bI (bw jS (pv 5) cM (a_ _)) (aL (aY (i:=11) gu.nd rfl (Or.inl rfl) (jU vf rfl T.jN boot_tuple (aa (aM Y8 (hr.mono (by first | decide | lia)) rfl T.NV T.Fb.kp T.NU .nil aJ (aa (pv 0) (aa (pv 7) aj))) aj)))) bH))
   (aL (bE (cY (aa (pv 5) (aa (pv 6) (aa (pv 7) (aa (pv 11) (aa (pv 3) (aa (pv 8) (aa (pv 9) (aa (pv 10) aj)))))))))))))))))))))))))),?_⟩
  wp_walk using cU;have md:∀(x n:Int),0<n->0<=x % n/\x % n<n:=λx n h=>⟨Int.emod_nonneg _ (by lia),Int.emod_lt_of_pos _ h⟩
  intro kp Y9;obtain⟨k,ek,hk⟩:=V8 (md (mix c 10) 11 (by decide)).1 (md (mix c 10) 11 (by decide)).2
  have d1:=md (mix c 11) 4 (by decide)
  have d2:=md (mix c 12) (aW / 2+1) (by lia)
  refine⟨r9,aH.of aB,.str k,ek,by lia,.inl ⟨by lia,by lia⟩,rfl,?_⟩
  have d3:=V9 d1.1 d1.2 d2.1 d2.2 l1;generalize mix c 11 % 4*(mix c 12 % (aW / 2+1))=st at d3 ⊢;have s1:=ah.put (o:=.lst r9) Y9;have eH:upd H kp (.lst r9)=upd H kp (HO.lst [V.str "read",V.str "read",V.str "read",V.str "read",V.str "write",V.str "write",V.str "write",V.str "write",V.str "early",V.str "early",V.str "rest"]):=rfl;rw[← eH];generalize upd H kp (.lst r9)=H1 at s1 ⊢;refine dz (λe=>?_) λe=>?_
  ·intro p1 n1 p2 n2 p3 n3;have s2:=(ah.put (o:=.tup []) n1).trans ((ah.put (o:=.tup []) n2).trans (ah.put (o:=.tup [V.str k,V.int 0,V.int 0,V.ref p1,V.int (a+st),V.int 0,V.aG,V.ref p2]) n3));have e':k = "rest" := V.str.inj e;refine q p3 ⟨k,0,0,[],a+st,0,none,[]⟩ p1 p2 _ (s1.trans s2) ((s1.trans ((ah.put n1).trans (ah.put n2))).free n3) ⟨aB,?_,?_⟩ ⟨.rest e' rfl rfl rfl rfl rfl rfl (by dsimp only;lia) (by dsimp only;lia),by dsimp only;lia,by dsimp only;lia,(λn h=>nomatch h)⟩
   ·exact ah.put n3 _ _ (ah.put n2 _ _ aB)
   ·exact ah.put n3 _ _ aB
  ·have Y_:k≠"rest" := λz=>e (by rw[z])
   have f:=md (mix c 13) T' (by lia)
   generalize mix c 13 % T' = fi at f ⊢;refine⟨by lia,by split <;> lia,λσ H'=>∃mn,σ = [some (.int c),some (.int T'),some (.int aW),some (.int (a+st)),some (.ref oa),some (.str k),some (.int fi),some (.int mn),none,none,none,none]/\H' = H1/\1<=mn/\mn<=16/\fi+mn<=T',dz (λ_=>⟨_,rfl,rfl,by split <;> lia,by split <;> lia,by split <;> lia⟩) (λ_=>?_),?_⟩
   ·have dd:(if T' - fi<4 then T' - fi else 4)<=4/\(if T' - fi<4 then T' - fi else 4)<=T' - fi/\0<(if T' - fi<4 then T' - fi else 4):=by split <;> lia
    generalize (if T' - fi<4 then T' - fi else 4)=d at dd ⊢
    have:=md (mix c 14) d dd.2.2;exact⟨_,rfl,rfl,by lia,by lia,by lia⟩
   rintro iy H2 ⟨mn,rfl,rfl,b1,b2,b3⟩;wp_walk using cU;have d4:=md (mix c 16) 4 (by decide)
   refine⟨λσ H'=>∃ak,σ = [some (.int c),some (.int T'),some (.int aW),some (.int (a+st)),some (.ref oa),some (.str k),some (.int fi),some (.int mn),some (.int ak),none,none,none]/\H' = H2/\0<=ak/\ak<=20,dz (λ_=>⟨20,rfl,rfl,by lia,by lia⟩) (λ_=>⟨_,rfl,rfl,by lia,by lia⟩),?_⟩
   rintro iy H3 ⟨ak,rfl,rfl,b4,b5⟩;wp_walk using cU;have d5:=md (mix c 19) (2*aW+1) (by lia)
   refine⟨λσ H'=>∃lt,σ = [some (.int c),some (.int T'),some (.int aW),some (.int (a+st)),some (.ref oa),some (.str k),some (.int fi),some (.int mn),some (.int ak),some (fG lt),none,none]/\H' = H3/\∀x,lt=some x->0<=x/\x<=10000000000000,dz (λ_=>⟨by lia,some _,rfl,rfl,λx hx=>by cases hx;lia⟩) (λ_=>⟨none,rfl,rfl,(λx hx=>nomatch hx)⟩),?_⟩
   rintro iy H4 ⟨lt,rfl,rfl,b6⟩;wp_walk using cU;intro bp OP;have s4:=ah.put (o:=.tup []) OP;have OQ:upd H4 bp (.tup []) bp=some (.tup []):=aB;generalize upd H4 bp (.tup [])=H5 at s4 OQ ⊢;have OR:=(s1.trans s4) _ _ ho;have e7:=hR.len;refine⟨λσ H'=>∃b bs,σ = [some (.int c),some (.int T'),some (.int aW),some (.int (a+st)),some (.ref oa),some (.str k),some (.int fi),some (.int mn),some (.int ak),some (fG lt),some (.ref b),none]/\ah H5 H'/\H' b=some (.tup (bs.map V.int))/\bs.Sublist os,dz (λ_=>?_) (λ_=>⟨bp,[],rfl,ah.refl _,OQ,List.nil_sublist _⟩),?_⟩
   ·refine J0 oa (os.map V.int) (λD i ys aD H6=>∃(u:Option V) (bs:List Int),ys=bs.map V.int/\bs.Sublist (os.take i)/\aD = [u,some (.int c)]/\H6 D=some (.lst ys)/\ah H5 H6/\H5 D=none) (λQ q=>⟨_,rfl,q⟩) (aH.of OR) ?_ ?_ ?_ ?_
    ·intro D hD;exact⟨none,[],rfl,List.nil_sublist _,rfl,aB,ah.put hD,hD⟩
    ·rintro D i ys aD H6 ⟨u,bs,rfl,g1,rfl,g2,g3,g4⟩;have:=g1.length_le;rw[List.length_take] at this;exact⟨g2,qU (by rw[List.length_map];lia),aH.of (g3 _ _ OR)⟩
    ·rintro D i x ys aD H6 N hN hx ⟨u,bs,rfl,g1,rfl,g2,g3,g4⟩;obtain⟨n,hn,rfl⟩:=j6 hx;have hn0:=hR.lo n (get_mem hn);have hn1:=hR.hi n (get_mem hn);wp_walk using cU;refine⟨by lia,by lia,dz (λ_=>⟨g2,hN _ _ _ ⟨_,bs++[n],by rw[List.map_append];rfl,?_,rfl,aB,ah.put2 g3 g4,g4⟩⟩) λ_=>hN _ _ _ ⟨_,bs,rfl,?_,rfl,g2,g3,g4⟩⟩
     ·rw[take_succ_get hn];exact g1.append (List.Sublist.refl _)
     ·rw[take_succ_get hn];exact g1.trans (List.sublist_append_left _ _)
    ·rintro D ys aD H6 ⟨u,bs,rfl,g1,rfl,g2,g3,g4⟩;rw[List.length_map,List.take_length] at g1;exact⟨D,rfl,_,.inl ⟨aH.of g2,λl nl=>⟨l,bs,rfl,g3.trans (ah.put nl),aB,g1⟩⟩⟩
   rintro iy H6 ⟨b,bs,rfl,s6,Za,Gn⟩;wp_walk using cU;intro mp Zb;have s7:=ah.put (o:=.tup []) Zb;have OS:upd H6 mp (.tup []) mp=some (.tup []):=aB;generalize upd H6 mp (.tup [])=H7 at s7 OS ⊢;refine⟨λσ H'=>∃mk ms,σ = [some (.int c),some (.int T'),some (.int aW),some (.int (a+st)),some (.ref oa),some (.str k),some (.int fi),some (.int mn),some (.int ak),some (fG lt),some (.ref b),some (.ref mk)]/\ah H7 H'/\H' mk=some (.tup (ms.map V.int))/\((k = "read"/\ms = [])\/(k≠"read"/\(ms.length:Int)=mn/\∀x∈ms,0<=x/\x<=1000000000)),dz (λGp=>?_) (λGp=>⟨mp,[],rfl,ah.refl _,OS,.inl ⟨Classical.not_not.mp Gp,rfl⟩⟩),?_⟩
   ·exact⟨c,mn,rfl,by lia,b2,λl ms H8 s8 nl hl hlen qc=>⟨l,rfl,_,.inl ⟨aH.of hl,λl2 ow=>⟨l2,ms,rfl,s8.trans (ah.put ow),aB,.inr ⟨Gp,hlen,qc⟩⟩⟩⟩⟩
   rintro iy H8 ⟨mk,ms,rfl,s8,Zc,qc⟩;wp_walk using cU;intro t nt;have s9:=(s4.trans s6).trans (s7.trans s8);have OT:=s1.trans s9;have B:lM fi mn (a+st) ak lt:=⟨f.1,by lia,b1,b2,by lia,by lia,b4,b5,b6⟩
   refine q t ⟨k,fi,mn,ms,a+st,ak,lt,bs⟩ mk b _ (OT.trans (ah.put nt)) (OT.free nt) ⟨aB,ah.put nt _ _ Zc,ah.put nt _ _ ((s7.trans s8) _ _ Za)⟩ ⟨?_,by dsimp only;lia,by dsimp only;lia,λn hn=>Gn.subset hn⟩
   rcases qc with⟨h1,h2⟩ | ⟨h1,h2,h3⟩
   ·exact .read h1 h2 B (hR.sub Gn) b3
   ·refine .write ?_ h2 h3 B (hR.sub Gn) b3;rcases hk with z | z | z | z
    ·exact absurd z Y_
    ·exact absurd z h1
    ·exact .inl z
    ·exact .inr z
theorem OU(T:Tx K mg A)(aI:bx mg base A.bq A.aZ):aU P w K mg base br 4 A.xj A.sX ["first", "many", "at", "asker", "latest", "behind"] (V4 K A.bN):=by
 have uf:=FP (P:=P) (w:=w) (base:=base) T aI;have Gq:=OE (P:=P) (w:=w) (base:=base) T aI;have Gr:=Ox (P:=P) (w:=w) (base:=base) T aI;refine T.yV.ok MH (λvs H Q E h=>?_) (λaO Ar outer s H vs Q E hr h=>?_)
 ·obtain⟨f,m,a,s',l,bv,ns,rfl,_⟩:=h
  rfl
 ·obtain⟨f,m,a,s',l,bv,ns,rfl,hB,hv,hR,q⟩:=h;refine⟨_,(aC (aY (i:=6) MH.nd rfl (Or.inl rfl) (aM Gr (hr.mono (by first | decide | lia)) rfl T.EB T.yU.kp T.EA .nil aJ (aa (pv 5) aj)))
   (aC (cO (aM Gq (hr.mono (by first | decide | lia)) rfl T.Ez T.yT.kp T.Ey .nil aJ (aa (pv 0) (aa (pv 1) (aa (pv 2) (aa (pv 3) (aa (pv 4) (aa (pv 6) aj))))))))
   (aL (bE (oV T.yZ uf (hr.mono (by first | decide | lia)) rfl T.y9 T.yS .nil aJ (aa cM (aa (pv 0) (aa (pv 1) (aa (cY aj) (aa (pv 2) (aa (pv 3) (aa (pv 4) (aa (pv 6) (aa fy aj)))))))))))))),?_⟩
  walk_at "rdt";refine⟨_,ns,rfl,hv,λb H1 s1 hb=>?_⟩;walk_at "rdt";refine⟨_,_,_,_,_,_,ns,rfl,hB,bA.of hb,hR,?_⟩;walk_at "rdt";intro mk nm x dx nx gn gm;refine⟨x,dx,_,_,_,_,_,_,_,_,_,rfl,aB,rfl,?_⟩;obtain⟨a1,a2,a3⟩:=De (K:=K) (C:=A.bN) (q:=⟨"read",f,m,[],a,s',l,ns,false⟩) (s1.trans (ah.put nm)) nx gn gm aB (ah.put nm _ _ hb);exact q _ _ _ _ _ a1 a2 a3
theorem Zd(T:Tx K mg A)(aI:bx mg base A.bq A.aZ):aU P w K mg base br 4 A.xm A.xq ["first", "marks", "at", "asker", "latest", "behind", "early"] (V5 K A.bN):=by
 have uf:=FP (P:=P) (w:=w) (base:=base) T aI;have jj:=zC (P:=P) (w:=w) (base:=base) T aI;have Gq:=OE (P:=P) (w:=w) (base:=base) T aI;have Gr:=Ox (P:=P) (w:=w) (base:=base) T aI;refine T.ED.ok Er (λvs H Q E h=>?_) (λaO Ar outer s H vs Q E hr h=>?_)
 ·obtain⟨f,a,s',ma,ms,l,bv,ns,e,rfl,_⟩:=h
  rfl
 ·obtain⟨f,a,s',ma,ms,l,bv,ns,e,rfl,hm,qc,hB,hv,hR,q⟩:=h;refine⟨_,(aC (aY (i:=7) Er.nd rfl (Or.inl rfl) (aM Gr (hr.mono (by first | decide | lia)) rfl T.EB T.yU.kp T.EA .nil aJ (aa (pv 5) aj)))
   (aC (cO (aM Gq (hr.mono (by first | decide | lia)) rfl T.Ez T.yT.kp T.Ey .nil aJ (aa (pv 0) (aa (bT eT rfl T.dM boot_len (aa (pv 1) aj)) (aa (pv 2) (aa (pv 3) (aa (pv 4) (aa (pv 7) aj))))))))
   (aC (dw PassesOwn.never rfl (gW (pv 1)) (b7 (i:=8) Er.nd rfl (Or.inl rfl))
   (aL (cO (aM jj (hr.mono (by first | decide | lia)) rfl T.kF T.jL.kp T.kE .nil aJ (aa (pv 8) (aa ao (aa (fz (v:=.int 1000000000) rfl T.Of ⟨_,rfl⟩) (aa cM aj))))))))
   (aL (bE (oV T.yZ uf (hr.mono (by first | decide | lia)) rfl T.y9 T.yS .nil aJ (aa cM (aa (pv 0) (aa (bT eT rfl T.dM boot_len (aa (pv 1) aj)) (aa (jU vf rfl T.jN boot_tuple (aa (pv 1) aj)) (aa (pv 2) (aa (pv 3) (aa (pv 4) (aa (pv 7) (aa (pv 6) aj))))))))))))))),?_⟩
  walk_at "rdt";refine⟨_,ns,rfl,hv,λb H1 s1 hb=>?_⟩;walk_at "rdt";refine⟨_,.inl (s1.seq hm),?_⟩;simp only[List.length_map];refine⟨_,_,_,_,_,_,ns,rfl,hB,bA.of hb,hR,?_⟩
  try dsimp only
  have j_:=s1.seq hm;refine rl ma (ms.map V.int) (λi σ H'=>∃x,σ = [some (.int f),some (.ref ma),some (.int a),some (.int s'),some (fG l),some bv,some (.bl e),some (.ref b),x]/\H' = H1) (λQ q=>⟨_,rfl,q⟩) j_ ⟨none,rfl,rfl⟩ (by rintro i σ H' _ ⟨x,rfl,rfl⟩;exact j_) ?_ ?_
  ·rintro i x σ H' N hN hx ⟨x0,rfl,rfl⟩;obtain⟨n,hn,rfl⟩:=j6 hx;walk_at "rdm";exact⟨n,0,1000000000,_,rfl,(qc n (get_mem hn)).1,(qc n (get_mem hn)).2,hN _ _ ⟨_,rfl,rfl⟩⟩
  ·rintro σ H' ⟨x0,rfl,rfl⟩;walk_at "rdt";refine⟨_,.inl j_,_,.inl ⟨j_,λmk nm=>?_⟩⟩;intro x dx nx gn gm;refine⟨x,dx,_,_,_,_,_,_,_,_,_,rfl,aB,rfl,?_⟩;simp only[List.length_map];obtain⟨a1,a2,a3⟩:=De (K:=K) (C:=A.bN) (q:=⟨"write",f,ms.length,ms,a,s',l,ns,e⟩) (s1.trans (ah.put nm)) nx gn gm aB (ah.put nm _ _ hb);exact q _ _ _ _ _ a1 a2 a3
theorem Gs(T:Tx K mg A)(aI:bx mg base A.bq A.aZ):aU P w K mg base (eB P w base) 4 A.xw A.xx ["plate", "ask"] (Xw K [A.bu,A.bf] A.bN A.bg):=by
 have Gu:=OL (P:=P) (w:=w) (base:=base) T aI;refine T.lP.vK XI (λvs H Q E h=>?_) (λaO Ar outer s H vs Q E hr h=>?_)
 ·obtain⟨C,p,ap,P,fp,q',m,b,dx,rfl,_⟩:=h
  rfl
 ·obtain⟨C,p,ap,P,fp,q',m,b,dx,rfl,hC,hP,ha,f0,f1,m0,m1,hn,q,qe⟩:=h;refine⟨_,(aL (bE (WM (by exact Mf) rfl rfl rfl (N:=["number", "plate"]) (nt:=1) (fv:=[0]) (dX.of rfl rfl (by rfl) (by rfl) (by repeat (first | exact trivial | refine⟨rfl,?_⟩)) (by rfl) (by rfl) (by rfl) (by decide) (by decide +kernel)) rfl (kW rfl T.fJ (aa (cK (pv 1) rfl) (aa (aF cg (cK (pv 1) rfl) (cK (pv 1) rfl)) aj))) (λC s H fp=>(b7 (i:=0) (show List.Nodup (["number", "plate"]:List Str) by decide +kernel) rfl (Or.inl rfl))) (λC s H fp=>vA) (λC s H fp=>(Xu (pv 1) T.Ou Gu (hr.mono (by first | decide | lia)) T.EV .nil (aa (pv 0) aj)))))),?_⟩
  wp_walk using T,ha.o;refine JZ q'.first (q'.first+q'.many) (λD i ys aD H2=>∃(u:Option V) (ts:List Addr),aD = [u,some (.ref p)]/\ys=ts.map V.ref/\Zn H2 D ts ((P.nc.drop q'.first.toNat).take i)/\ah H H2/\H D=none/\i<=16/\(i=0\/q'.first+i<=P.nc.length)) (λQ q=>?_) (by lia) (by lia) (by lia) (by lia) ?_ ?_ ?_ ?_
  ·wp_walk using T,ha.o
   try exact q
  ·intro D hD;exact⟨none,[],rfl,rfl,by rw[List.take_zero];exact Zn.start,ah.put hD,hD,by lia,.inl rfl⟩
  ·rintro D i ys aD H2 ⟨u,ts,rfl,rfl,g2,g3,g4,g5,g6⟩;exact⟨g2.l,qU (by rw[List.length_map,g2.n,List.length_take];lia)⟩
  ·rintro D i ys aD H2 N hN hi ⟨u,ts,rfl,rfl,g2,g3,g4,g5,g6⟩;walk_at "rdm";obtain⟨Gv,a1,a2,a3,a4,ts',fs,Gi,hA⟩:=hP.same g3;refine⟨C,Gv,fs,hA.o,hC,hA.m9,⟨C,p,P,fp,_,rfl,hP.same g3,λk0 k1 t q0 eq ht=>⟨g2.l,hN _ _ _ ⟨_,ts++[t],rfl,by rw[List.map_append];rfl,?_,ah.put2 g3 g4,g4,by lia,.inr (by lia)⟩⟩,λno d H3 s3 nc=>?_⟩⟩
   ·rw[Mx f0 eq];exact g2.pushX ht
   ·refine(qe (by lia)).2 d H3 (g3.trans s3) ?_
    rw[show max q'.first (P.nc.length:Int)=q'.first+(i:Int) by lia]
    exact nc
  ·rintro D ys aD H2 ⟨u,ts,rfl,rfl,g2,g3,g4,g5,g6⟩;rw[show (q'.first+q'.many - q'.first).toNat=q'.many.toNat by lia] at g2 g6
   refine q ?_ _ _ _ g3 g4 g2;rcases g6 with g6 | g6
   ·by_cases z:(P.nc.length:Int)<q'.first+q'.many
    ·have:=(qe z).1;lia
    ·lia
   ·lia
theorem Ze(T:Tx K mg A)(aI:bx mg base A.bq A.aZ):aU P w K mg base br 4 A.yj A.yl ["self", "zones", "lap", "skew", "swing", "spares", "bad"] (VT K A.bf A.aZ (nG fH) (nH "nearest_rings")):=by
 have Gb:=Oz (P:=P) (w:=w) (base:=base) T aI;have Gd:=OB (P:=P) (w:=w) (base:=base) T aI;have Gw:=OG (P:=P) (w:=w) (base:=base) T aI;have Zf:=Yl (P:=P) (w:=w) (base:=base) T aI;have Zg:=YS (P:=P) (w:=w) (base:=base) T aI;have Zh:=YU (P:=P) (w:=w) (base:=base) T aI;refine T.NH.ok sR (λvs H Q E h=>?_) (λaO Ar outer s H vs Q E hr h=>?_)
 ·obtain⟨p,dx,za,sa,ba,fF,iG,z,bz,aW,cj,s,sw,rfl,_⟩:=h
  rfl
 ·obtain⟨p,dx,za,sa,ba,fF,iG,z,bz,aW,cj,s,sw,rfl,cp,nm,hp,hz,ok,h1,h2,h3,h4,hd,hS,so,ug,zH,bnd,bin,Zi,fS,zJ,tab,en,q⟩:=h;refine⟨_,(aC (cO (TF rfl T.FG T.N_ Gw (hr.mono (by first | decide | lia)) T.EU .nil aJ (aa (pv 0) (aa (pv 1) (aa (pv 2) (aa (pv 3) (aa (pv 4) aj)))))))
   (aC (cO (aM Zf (hr.mono (by first | decide | lia)) rfl T.Nt T.EW.kp T.Nr .nil aJ (aa (pv 5) (aa (cK (pv 0) rfl) aj))))
   (aC (aY (i:=7) sR.nd rfl (Or.inl rfl) (aM Zg (hr.mono (by first | decide | lia)) rfl T.Nv T.EY.kp T.Nu .nil aJ (aa (pv 0) (aa (pv 6) aj))))
   (aC (dU (pv 0) (aM Gb (hr.mono (by first | decide | lia)) rfl T.ER T.yX.kp T.EO .nil aJ (aa (cK (pv 0) rfl) (aa (pv 5) aj))) rfl)
   (aC (dU (pv 0) (aM Zh (hr.mono (by first | decide | lia)) rfl T.NG T.E5.kp T.NF .nil aJ (aa (cK (pv 0) rfl) (aa (pv 5) (aa (cK (pv 0) rfl) (aa (pv 7) aj))))) rfl)
   (aC (dw PassesOwn.never rfl (gW (cK (pv 0) rfl)) (jw rfl (dQ (b7 (i:=8) sR.nd rfl (Or.inl rfl)) (dQ (b7 (i:=9) sR.nd rfl (Or.inl rfl)) (dQ (b7 (i:=10) sR.nd rfl (Or.inl rfl)) jv))))
   (aL (Rx (pv 10) (Rw (cK (pv 0) rfl) (pv 8) set_list))))
   (aL (dU (pv 0) (aM Gd (hr.mono (by first | decide | lia)) rfl T.ET T.yY.kp T.ES .nil aJ (aa (cK (pv 0) rfl) aj)) rfl)))))))),?_⟩
  walk_at "rdm";refine⟨_,p,dx,za,sa,fF,z,aW,cj,sw,rfl,cp,hp,hz,ok,h1,h2,h3,h4,hd,hS,so,λH1 qd a1 a2 a3 a4 ts sb nf dN hA=>?_⟩;have cl:=q_ z λp hp=>(ok.r p hp).1;have YK:=ok.vD;have c2:=ok.s2;have cm:∀c∈counts z,0<=c/\c<=60:=λc hc=>by
   obtain⟨y,hy,rfl⟩:=Cf hc;have:=ok.r y hy;lia
  have OV:∀c∈counts z,0<=c/\c<=1000:=λc hc=>by have:=cm c hc;lia
  have cE:0<(counts z).length:=by lia
  have s60:s<60:=by
   have:=zJ _ (List.getElem_mem cE);have:=cm _ (List.getElem_mem cE);lia
  have Gx:∀ {a:Addr} {o:HO},H a=some o->(∀C d f,o≠.ins C d f)->a≠p:=λe n z=>n _ _ _ (by rw[z,hp] at e;exact(Option.some.inj e).symm)
  have Zj:Zn H1 ba iG bz:=⟨sb _ _ ug.l (Gx ug.l (by intro _ _ _ z;cases z)),ug.n,λi t x e1 e2=>sb _ _ (ug.t i t x e1 e2) (Gx (ug.t i t x e1 e2) (by intro _ _ _ z;cases z))⟩
  have pP:A.aZ≠p:=(tab.ne hp (by intro _ z;cases z)).symm
  have Zk:cD A.aZ (nG fH) (nH "nearest_rings") H1:=by
   obtain⟨ps,e',k,c⟩:=tab;refine⟨ps,sb _ _ e' pP,k,?_⟩;rcases c with c | ⟨c',c1,c2⟩
   ·exact .inl c
   ·exact .inr ⟨c',c1,sb _ _ c2 (Gx c2 (by intro _ _ _ z;cases z))⟩
  wp_walk using hA.o,hA.f1,hA.f2,hA.f3,hA.f4,hA.f5,hA.f6,hA.m1,hA.m2,hA.m3,hA.m4,hA.m5,hA.m6,hA.m7,hA.m8,hA.m9,hA.mZ,hA.m_,hA.cp.cl,hA.cp.n1,hA.cp.n2,hA.cp.n3,hA.cp.n4,hA.cp.n5,hA.cp.n6;refine⟨a1,counts z,s,rfl,aH.of hA.rc,by lia,fS,zJ,?_⟩
  refine⟨_,p,ba,_,_,iG,bz,rfl,by simp,⟨qd,a1,a2,a3,a4,ts,_,rfl,hA⟩,Zj,by lia,bnd,bin,λd H2 s2 nd e2=>?_⟩
  have cz:=hA.move (H':=H2) (by rw[hA.o];exact s2 _ _ hA.o) (by rw[hA.rc];exact s2 _ _ hA.rc) (by rw[hA.sw];exact s2 _ _ hA.sw) (by rw[hA.nc.l];exact s2 _ _ hA.nc.l) (by rw[hA.cn];exact s2 _ _ hA.cn) (λt ht=>by obtain⟨o,e⟩:=hA.nc.has ht;rw[e];exact s2 _ _ e)
  wp_walk using cz.o,cz.f1,cz.f2,cz.f3,cz.f4,cz.f5,cz.f6,cz.m1,cz.m2,cz.m3,cz.m4,cz.m5,cz.m6,cz.m7,cz.m8,cz.m9,cz.mZ,cz.m_,cz.cp.cl,cz.cp.n1,cz.cp.n2,cz.cp.n3,cz.cp.n4,cz.cp.n5,cz.cp.n6;refine⟨a1,counts z,s,rfl,aH.of cz.rc,by lia,OV,fS,?_,λl3 t3 H3 s3 n3 OW z3=>?_⟩
  ·have:=zJ _ (List.getElem_mem cE);have:=cm _ (List.getElem_mem cE);lia
  have o3:=s3 _ _ cz.o;wp_walk using o3,pq,cp.cl,cp.n1,cp.n5,nm;have oz:l3≠p:=(bK cz.o n3).symm;have uh:∀t∈t3,t≠p:=λt ht=>(bK cz.o (OW t ht)).symm;have pd:d≠p:=(bK hA.o nd).symm;have zK:a1≠p:=fZ cz.rc cz.o (by intro z;cases z)
  have Gy:a2≠p:=fZ cz.sw cz.o (by intro z;cases z)
  have lY:SameBut p H H3:=(sb.step s2).step s3;have OX:=Zk.same (s2.trans s3);have zl:(dJ (counts z) s).length<=1000000:=by
   have:=rm (s:=s) fS (counts z) 0 OV;have e:(counts z).length<=120:=by lia
   unfold dJ;lia
  have pN:wj (bz.map kT):=Vy (λx hx=>by
   obtain⟨b1,b2,b3,b4⟩:=bin x hx;have hi:x.1.toNat<(counts z).length:=by lia
   rw[show (counts z).getD x.1.toNat 0=(counts z)[x.1.toNat] by simp[hi]] at b4
   have:=cm _ (List.getElem_mem hi);lia) bnd
  refine⟨a1,l3,d,s,counts z,t3,_,bz,rfl,aH.of ((au zK).trans (s3 _ _ cz.rc)),by lia,Zi,fS,by lia,λc hc=>by have:=zJ c hc;have:=cm c hc;lia,z3.keep (au oz) (λt ht=>au (uh t ht)),zl,(au pd).trans (s3 _ _ e2),pN,zH,OX.put o3,en,λmv us os ms H5 k5 zL OY hL hM=>?_⟩
  have um:mv≠p:=(bK aB zL).symm;have Zl:H3 mv=none:=by rw[au um] at zL;exact zL
  have uo:=OX.put (o:=HO.ins A.bf qd [(Str.ofString "ring_cells",V.ref a1),(Str.ofString "lap",V.int aW),(Str.ofString "skew",V.int cj),(Str.ofString "swing",V.ref a2),(Str.ofString "number_cells",V.ref l3),(Str.ofString "cell_numbers",V.ref a4)]) o3;have p5:=k5.get uo aB;wp_walk using p5,cp.cl,nm;refine vF ?_;wp_walk using cp.cl,nm;have zU:=z3.keep (H':=upd H3 p (HO.ins A.bf qd [(Str.ofString "ring_cells",V.ref a1),(Str.ofString "lap",V.int aW),(Str.ofString "skew",V.int cj),(Str.ofString "swing",V.ref a2),(Str.ofString "number_cells",V.ref l3),(Str.ofString "cell_numbers",V.ref a4)])) (au oz) (λt ht=>au (uh t ht));have z5:Zn H5 l3 t3 _:=⟨k5.get uo zU.l,zU.n,λi t x e1 e2=>k5.get uo (zU.t i t x e1 e2)⟩;have Gz:mv≠l3:=(bK zU.l zL).symm;generalize e6:upd H5 p (HO.ins A.bf qd [(Str.ofString "ring_cells",V.ref a1),(Str.ofString "lap",V.int aW),(Str.ofString "skew",V.int cj),(Str.ofString "swing",V.ref a2),(Str.ofString "number_cells",V.ref l3),(Str.ofString "cell_numbers",V.ref a4),(Str.ofString "moves",V.ref mv)])=H6;have p6:H6 p=some (HO.ins A.bf qd [(Str.ofString "ring_cells",V.ref a1),(Str.ofString "lap",V.int aW),(Str.ofString "skew",V.int cj),(Str.ofString "swing",V.ref a2),(Str.ofString "number_cells",V.ref l3),(Str.ofString "cell_numbers",V.ref a4),(Str.ofString "moves",V.ref mv)]):=by rw[← e6];exact aB
  have o6:∀b,b≠p->H6 b=H5 b:=λb hb=>by rw[← e6];exact au hb
  have Zm:cD A.aZ (nG fH) (nH "nearest_rings") H6:=by rw[← e6];exact k5.t.put p5
  have M6:fV H6 mv t3 us os ms:=⟨(o6 mv um).trans hM.l,hM.n,hM.no,λi u m e1 e2=>by
   obtain⟨tc,to,x,a,b,c,d⟩:=hM.t i u m e1 e2;exact⟨tc,to,x,(o6 _ (fZ a p5 (by intro z;cases z))).trans a,b,(o6 _ (fZ c p5 (by intro z;cases z))).trans c,(o6 _ (fZ d p5 (by intro z;cases z))).trans d⟩⟩
  have z6:=z5.keep (o6 l3 oz) (λt ht=>o6 t (uh t ht));refine mY.by mv (us.map V.ref) (λi σ H'=>∃x y w jl,σ = [some (V.ref p),some (V.ref za),some (V.int aW),some (V.int cj),some (V.ref sa),some (V.int s),some (V.ref ba),some (V.ref d),x,y,w]/\(∀b,b≠l3->H' b=H6 b)/\Zn H' l3 jl (kq (dJ (counts z) s) (ms.take i))/\∀t∈jl,t∈t3\/t∈os)
   (aH.of M6.l) ⟨none,none,none,t3,rfl,λ_ _=>rfl,z6,λt ht=>.inl ht⟩ (by rintro i σ H' _ ⟨x,y,w,jl,rfl,hb,_⟩;exact aH.of ((hb mv Gz).trans M6.l)) ?_ ?_
  ·rintro i x σ H' N hN hx ⟨x0,y0,w0,jl,rfl,hb,jk,zM⟩;obtain⟨u,qb,rfl⟩:=j6 hx;have hi:i<ms.length:=by rw[← M6.n];exact iF qb
   obtain⟨m,hm⟩:∃m,ms[i]? = some m:=⟨_,List.getElem?_eq_getElem hi⟩;obtain⟨tc,to,ho,ea,eb,ec,ed⟩:=M6.t i u m qb hm;have zN:∀ {a:Addr} {xs:List V},H6 a=some (.tup xs)->H' a=some (.tup xs):=λ{a xs} e=>(hb a (fZ e z6.l (by intro z;cases z))).trans e
   refine⟨u,[.int (m.1:Int),.ref tc,.ref to],rfl,bA.of (zN ea),rfl,_,_,rfl,_,_,rfl,_,_,rfl,rfl,?_⟩;wp_walk using(hb p oz.symm).trans p6,cp.cl,cp.n5;have Zo:m.1<jl.length:=by rw[jk.n,wz,← z6.n];exact iF eb
   refine⟨_,jk.l,m.1,VR (by rw[List.length_map];exact Zo),?_⟩
   rw[← List.map_set];refine hN _ _ ⟨_,_,_,jl.set m.1 to,rfl,λb h=>by rw[au h];exact hb b h,?_,?_⟩
   ·rw[take_succ_get hm,VS];exact jk.setAt (zN ed)
   ·intro t ht;rcases List.mem_or_eq_of_mem_set ht with h | h
    ·exact zM t h
    ·rw[h];exact .inr (get_mem ho)
  ·rintro σ H' ⟨x,y,w,jl,rfl,hb,jk,zM⟩;rw[List.length_map,M6.n,List.take_length] at jk;have zO:=(hb p oz.symm).trans p6;wp_walk using zO,cp.cl,cp.n5,cp.n6;have pL:=Zm.keep hb z6.l;refine⟨l3,jl,_,rfl,jk,by rw[wz];exact zl,λcn H7 s7 uq Zp=>?_⟩
   have OZ:cn≠p:=(bK zO uq).symm;wp_walk using s7 _ _ zO,cp.cl,cp.n6;have fresh:∀b,b≠p->H3 b=none->H b=none:=λb hb e=>by
    cases q':H b with
    | none=>rfl
    | some o=>rw[lY _ _ q' hb] at e;cases e
   have O0:H l3=none:=by
    cases q':H l3 with
    | none=>rfl
    | some o=>rw[(sb.step s2) _ _ q' oz] at n3;cases n3
   have O1:∀b o,H b=some o->b≠p->b≠A.aZ->H' b=some o:=λb o e np nP=>by
    rw[hb b (bK e O0),o6 b np];exact k5.b _ _ ((au np).trans (lY _ _ e np)) nP
   have Zq:a1≠l3:=bK cz.rc n3;have Zr:a2≠l3:=bK cz.sw n3;have r7:=s7 _ _ ((hb a1 Zq).trans ((o6 a1 zK).trans (k5.get uo ((au zK).trans (s3 _ _ cz.rc)))));have w7:=s7 _ _ ((hb a2 Zr).trans ((o6 a2 Gy).trans (k5.get uo ((au Gy).trans (s3 _ _ cz.sw)))));have tp:∀t∈jl,t≠p:=λt ht=>by
    obtain⟨o,e⟩:=jk.has ht;rcases zM t ht with h | h
    ·exact uh t h
    ·exact(bK aB (OY t h)).symm
   have zN:∀ {a:Addr} {xs:List V},H6 a=some (.tup xs)->H7 a=some (.tup xs):=λ{a xs} e=>s7 _ _ ((hb a (fZ e z6.l (by intro z;cases z))).trans e)
   have GA:∀ {a:Addr} {xs:List V} {o:HO},H6 a=some (.tup xs)->upd H7 p o a=some (.tup xs):=λ{a xs o} e=>(au (fZ e p6 (by intro z;cases z))).trans (zN e)
   refine q _ (a1::a2::l3::cn::jl) mv t3 us os ms (λb o e np nP=>(au np).trans (s7 _ _ (O1 b o e np nP))) ((pL.same s7).put (s7 _ _ zO)) ?_ hL ⟨qd,a1,a2,l3,cn,jl,[(Str.ofString "ring_cells",V.ref a1),(Str.ofString "lap",V.int aW),(Str.ofString "skew",V.int cj),(Str.ofString "swing",V.ref a2),(Str.ofString "number_cells",V.ref l3),(Str.ofString "cell_numbers",V.ref cn),(Str.ofString "moves",V.ref mv)],rfl,?_,nm,?_,?_⟩ ⟨?_,M6.n,M6.no,λi u m e1 e2=>?_⟩
   ·intro b j9;simp only[List.mem_cons] at j9;rcases j9 with rfl | rfl | rfl | rfl | rfl | j9
    ·exact fresh _ um Zl
    ·exact nf _ (by simp)
    ·exact nf _ (by simp)
    ·exact O0
    ·cases q':H b with
     | none=>rfl
     | some o =>
      by_cases nP:b=A.aZ
      ·obtain⟨ps,e',_⟩:=pL;rw[nP,e'] at uq;cases uq
      ·rw[O1 _ _ q' OZ nP] at uq;cases uq
    ·rcases zM b j9 with h | h
     ·have:=OW b h;cases q':H b with
      | none=>rfl
      | some o=>rw[(sb.step s2) _ _ q' (uh b h)] at this;cases this
     ·have np:=tp b j9;have:=OY b h;rw[au np] at this;exact fresh b np this
   ·refine⟨cp,aB,?_,?_,?_,?_,?_,?_,?_,?_,?_,?_,?_,?_,?_,?_,?_,?_,?_,?_,?_,?_,?_⟩
    rotate_left 17
    ·exact(au zK).trans r7
    ·exact(au Gy).trans w7
    ·exact(jk.same s7).keep (au oz) (λt ht=>au (tp t ht))
    ·exact(au OZ).trans Zp
    all_goals simp[List.lookup_cons,gK]
   ·simp[List.lookup_cons,gK]
   ·exact(au um).trans (s7 _ _ ((hb mv Gz).trans M6.l))
   ·exact(au um).trans (s7 _ _ ((hb mv Gz).trans M6.l))
   ·obtain⟨tc,to,x,a,b,c,d⟩:=M6.t i u m e1 e2;exact⟨tc,to,x,GA a,b,GA c,GA d⟩
theorem Zt(T:Tx K mg A)(aI:bx mg base A.bq A.aZ):aU P w K mg base (eB P w base) 5 A.xy A.xA ["plate", "number", "ask"] (Xx K [A.bu,A.bf] A.bN A.bg):=by
 have OM:=Ow (P:=P) (w:=w) (base:=base) T aI;have l7:=Gs (P:=P) (w:=w) (base:=base) T aI;have Zu:=Yd (P:=P) (w:=w) (base:=base) T aI;refine T.EH.vK MI (λvs H Q E h=>?_) (λaO Ar outer s H vs Q E hr h=>?_)
 ·obtain⟨C,p,ap,k,P,fp,q',m,b,dx,rfl,_⟩:=h
  rfl
 ·obtain⟨C,p,ap,k,P,fp,q',m,b,dx,rfl,hC,hP,ha,f0,f1,m0,m1,hn,q,qe⟩:=h;refine⟨_,(aL (Xs rfl rfl (λE=>(Ub (Ky l7 (hr.mono (by first | decide | lia)) rfl T.nX T.lP.kp T.nW .nil (aa (pv 0) (aa (pv 2) aj)))))
   (Xi (i:=3) (by exact Mf) rfl rfl rfl T.qa T.nZ MI.nd rfl rfl rfl rfl T.qa T.n8 PySem.F.excBase_ValueError Zu (hr.mono (by first | decide | lia)) T.MN .nil (λa=>(aa (sL (pv 3) rfl) (aa (pv 1) aj))) Cv.x))),?_⟩
  walk_at "rdt";refine⟨C,p,ap,P,fp,q',m,b,dx,rfl,hC,hP,ha,f0,f1,m0,m1,hn,q,λz=>⟨(qe z).1,λd H1 s1 nc=>?_⟩⟩;walk_at "rdt";refine⟨A.bg,rfl,T.nZ,λa ha=>.inl ⟨T.zB,W6 d,_,_,rfl,[(("cell" : Str),.int (max q'.first (P.nc.length:Int))),(("ask" : Str),.aG)],?_,⟨T.lX,T.jO.hd⟩,T.lW,_,by simp only[List.lookup_cons,gK,String.reduceBEq];rfl,λd1 Zv=>?_⟩⟩
  ·rw[Mn];exact ah.put ha _ _ nc
  ·exact(qe z).2 d1 _ (s1.trans ((ah.put ha).trans (ah.put Zv))) aB
theorem Zw(T:Tx K mg A)(aI:bx mg base A.bq A.aZ):aU P w K mg base br 5 A.yK A.yL ["_law_spec_here"] (We K A.bN):=by
 have GB:=OU (P:=P) (w:=w) (base:=base) T aI;have Zx:=Zd (P:=P) (w:=w) (base:=base) T aI;have GC:=OF (P:=P) (w:=w) (base:=base) T aI;refine T.Fd.ok XX (λvs H Q E h=>?_) (λaO Ar outer s H vs Q E hr h=>?_)
 ·obtain⟨t,q',m,b,T',rfl,_⟩:=h
  rfl
 ·obtain⟨t,q',m,b,T',rfl,hz,hk,q⟩:=h;refine⟨_,(aC (bI (bw d_ (bF cQ (pv 0) ao (λ_ _=>rfl)) cM (a_ _)) (aL (bE (aM GC (hr.mono (by first | decide | lia)) rfl T.EG T.yW.kp T.EF .nil aJ (aa (bF cQ (pv 0) ao (λ_ _=>rfl)) aj)))) bH)
   (aC (bI (bw d_ (bF cQ (pv 0) ao (λ_ _=>rfl)) cM (a_ _)) (aL (bE (aM GB (hr.mono (by first | decide | lia)) rfl T.EC T.yV.kp T.MS .nil aJ (aa (bF cQ (pv 0) ao (λ_ _=>rfl)) (aa (bF cQ (pv 0) ao (λ_ _=>rfl)) (aa (bF cQ (pv 0) ao (λ_ _=>rfl)) (aa (bF cQ (pv 0) ao (λ_ _=>rfl)) (aa (bF cQ (pv 0) ao (λ_ _=>rfl)) (aa (bF cQ (pv 0) ao (λ_ _=>rfl)) aj))))))))) bH)
   (aL (bE (aM Zx (hr.mono (by first | decide | lia)) rfl T.MU T.ED.kp T.MT .nil aJ (aa (bF cQ (pv 0) ao (λ_ _=>rfl)) (aa (jU Bp rfl T.jM boot_list (aa (bF cQ (pv 0) ao (λ_ _=>rfl)) aj)) (aa (bF cQ (pv 0) ao (λ_ _=>rfl)) (aa (bF cQ (pv 0) ao (λ_ _=>rfl)) (aa (bF cQ (pv 0) ao (λ_ _=>rfl)) (aa (jU Bp rfl T.jM boot_list (aa (bF cQ (pv 0) ao (λ_ _=>rfl)) aj)) (aa (mF d_ (bF cQ (pv 0) ao (λ_ _=>rfl)) cM (a_ _)) aj)))))))))))),?_⟩
  walk_at "rdt";have ht:=bA.of (K:=K) hz.o;refine⟨_,ht,_,rfl,rfl,dz (λe=>?_) λe=>⟨_,ht,_,rfl,rfl,dz (λe2=>?_) λe2=>?_⟩⟩
  ·obtain⟨ea,a0,a1⟩:=Wb (V.str.inj e) hk;rw[ea] at q;exact⟨_,ht,_,rfl,q'.at_,rfl,a0,a1,q⟩
  ·obtain⟨ea,hB,hR⟩:=Wc (V.str.inj e2) hk;rw[ea] at q;exact⟨_,ht,_,rfl,_,ht,_,rfl,_,ht,_,rfl,_,ht,_,rfl,_,ht,_,rfl,_,ht,_,rfl,_,_,_,_,q'.eX,_,q'.behind,rfl,hB,.inr ⟨b,rfl,.inr hz.bh⟩,hR,q⟩
  ·obtain⟨ea,hB,hR,hM⟩:=Wd (λz=>e (by rw[z])) (λz=>e2 (by rw[z])) hk
   rw[ea] at q;have ed:decide (V.str q'.kind=V.str "early")=decide (q'.kind = "early"):=by simp only[V.str.injEq]
   refine⟨_,ht,_,rfl,_,ht,_,rfl,m,rfl,_,.inr (bA.of hz.ms),λl1 FW=>?_⟩;have s1:=ah.put (o:=.lst (q'.marks.map V.int)) FW;have ur:=s1.JW ht;refine⟨_,ur,_,rfl,_,ur,_,rfl,_,ur,_,rfl,_,ur,_,rfl,b,rfl,_,.inr (bA.of (s1 _ _ hz.bh)),λl2 ow=>?_⟩;have s2:=ah.put (o:=.lst (q'.behind.map V.int)) ow;refine⟨_,s2.JW ur,_,rfl,rfl,_,_,_,l1,q'.marks,q'.eX,_,q'.behind,_,rfl,aH.of (s2 _ _ aB),hM,hB,.inr ⟨l2,rfl,.inl (aH.of aB)⟩,hR,λp mk bb dx H' s np ha=>q p mk bb dx H' ((s1.trans s2).trans s) ((s1.trans s2).free np) (by rw[ed] at ha;exact ha)⟩
theorem O2(T:Tx K mg A)(aI:bx mg base A.bq A.aZ):aU P w K mg base (eB P w base) 6 A.xB A.xC ["self", "plate", "number", "ask"] (Xy K [A.bu,A.bf] A.bN A.cV A.bg):=by
 have Zy:=Zt (P:=P) (w:=w) (base:=base) T aI;refine T.MX.vK XJ (λvs H Q E h=>?_) (λaO Ar outer s H vs Q E hr h=>?_)
 ·obtain⟨C,p,pl,ap,dx,n,P,fp,q',m,b,jh,rfl,_⟩:=h
  rfl
 ·obtain⟨C,p,pl,ap,dx,n,P,fp,q',m,b,jh,rfl,hp,hC,hP,ou,iM,ha,f0,f1,m0,m1,hn,q,qe⟩:=h;refine⟨_,(aC (dU (pv 0) (pv 2) rfl)
   (aC (dU (pv 0) (pv 3) rfl)
   (aL (dU (pv 0) (aM Zy (hr.mono (by first | decide | lia)) rfl T.MW T.EH.kp T.MV .nil T8 (aa (pv 1) (aa (pv 2) (aa (pv 3) aj)))) rfl)))),?_⟩
  wp_walk using T,hp;have GD:ap≠p:=λe=>by
   have:=ha.o;rw[e,hp] at this;simp[nJ] at this
  have nm:m≠p:=λe=>by have:=ha.ms;rw[e,hp] at this;cases this
  have nb:b≠p:=λe=>by have:=ha.bh;rw[e,hp] at this;cases this
  have O3:dI K C (upd H p (HO.ins A.cV dx [("number",V.int n),("ask",V.ref ap)])) pl P fp:=hP.keep (au (Ne.symm ou)) λb hb=>au (λe=>iM (e▸hb));have O4:gS K A.bN (upd H p (HO.ins A.cV dx [("number",V.int n),("ask",V.ref ap)])) ap q' m b jh:=⟨(au GD).trans ha.o,(au nm).trans ha.ms,(au nb).trans ha.bh⟩;have sb:SameBut p H (upd H p (HO.ins A.cV dx [("number",V.int n),("ask",V.ref ap)])):=(SameBut.of (ah.refl H)).put;have dN:upd H p (HO.ins A.cV dx [("number",V.int n),("ask",V.ref ap)]) p=some (HO.ins A.cV dx [("number",V.int n),("ask",V.ref ap)]):=aB;generalize upd H p (HO.ins A.cV dx [("number",V.int n),("ask",V.ref ap)])=H1 at O3 O4 sb dN ⊢;refine⟨C,pl,ap,n,P,fp,q',m,b,jh,rfl,hC,O3,O4,f0,f1,m0,m1,hn,λfit l ts H2 s2 nl hz=>⟨_,_,_,s2 _ _ dN,T.tT,T.tU,(show (2:Nat)<1000 by decide),?_⟩,λz=>⟨(qe z).1,λd H2 s2 nc=>(qe z).2 d H2 (sb.step s2) nc⟩⟩
  rw[show cX (Str.ofString "cells") (V.ref l) [(Str.ofString "number",V.int n),(Str.ofString "ask",V.ref ap)] = [(Str.ofString "number",V.int n),(Str.ofString "ask",V.ref ap),(Str.ofString "cells",V.ref l)] by simp[cX,gK,q9]]
  have ow:l≠p:=(bK dN nl).symm;refine q fit l ts _ (sb.step s2).put aB (hz.keep (au ow) λt ht=>au λe=>?_)
  obtain⟨i,hi,et⟩:=List.mem_iff_getElem.mp ht;have jE:i<(lO P.nc q'.first q'.many).length:=by rw[← hz.n];exact hi
  have:=hz.t i t _ (by rw[← et];exact List.getElem?_eq_getElem hi) (List.getElem?_eq_getElem jE)
  rw[e,s2 _ _ dN] at this;cases this
theorem Zz(T:Tx K mg A)(aI:bx mg base A.bq A.aZ):aU P w K mg base br 8 A.yO A.yP ["_law_plate", "_law_ask_here", "_law_number"] (XA K [A.bu,A.bf] A.bN):=by
 have l7:=Gs (P:=P) (w:=w) (base:=base) T aI;have GF:=O2 (P:=P) (w:=w) (base:=base) T aI;refine T.Ff.ok wV (λvs H Q E h=>?_) (λaO Ar outer s H vs Q E hr h=>?_)
 ·obtain⟨C,p,ap,k,P,fp,q',m,b,dx,rfl,_⟩:=h
  rfl
 ·obtain⟨C,p,ap,k,P,fp,q',m,b,dx,rfl,hC,hP,ha,f0,f1,m0,m1,hn,bey,q⟩:=h;refine⟨_,(aC (aY (i:=3) wV.nd rfl (Or.inl rfl) (dG aj))
   (aC (KL rfl rfl (λE=>(Kz (Ky l7 (hr.mono (by first | decide | lia)) rfl T.nX T.lP.kp T.nW .nil (aa (pv 0) (aa (pv 1) aj)))))
   (KH (i:=4) rfl T.qa T.nZ wV.nd rfl rfl rfl (λa=>(aL (cO (jV PySem.F.plainAttrs_list PySem.F.slot_list_append PySem.F.type_list_append jW (pv 3) (aa (cY (aa (sL (pv 4) rfl) (aa (sL (pv 4) rfl) (aa (bT KO rfl T.fX boot_isinstance (aa (pv 4) (aa (fz (v:=.ref A.fq) rfl T.tZ rfl) aj))) aj)))) aj))))) Cv))
   (aC (KL rfl rfl (λE=>(Kz (Ua T.FE GF (hr.mono (by first | decide | lia)) rfl T.FF T.EI .nil (aa (pv 0) (aa (pv 2) (aa (pv 1) aj))))))
   (KH (i:=4) rfl T.qa T.nZ wV.nd rfl rfl rfl (λa=>(aL (cO (jV PySem.F.plainAttrs_list PySem.F.slot_list_append PySem.F.type_list_append jW (pv 3) (aa (cY (aa (sL (pv 4) rfl) (aa (sL (pv 4) rfl) (aa (bT KO rfl T.fX boot_isinstance (aa (pv 4) (aa (fz (v:=.ref A.fq) rfl T.tZ rfl) aj))) aj)))) aj))))) Cv))
   (aL (bE (pv 3)))))),?_⟩
  walk_at "rdt";intro l hl;have s1:=ah.put (o:=.lst []) hl;refine⟨C,p,ap,P,fp,q',m,b,dx,rfl,hC,hP.same s1,ha.same s1,f0,f1,by lia,m1,hn,λfit=>absurd fit (by lia),λ_=>⟨m0,λd H1 s2 nc=>?_⟩⟩
  refine⟨A.bg,rfl,T.nZ,λe he=>.inl ⟨T.zB,?_⟩⟩;walk_at "rdt";have l1:H1 l=some (.lst []):=s2 _ _ aB;have e1:=ah.put (o:=dZ e A.bg (some (2*d))) he;have jm:upd H1 e (dZ e A.bg (some (2*d))) (2*d / 2)=some (dF (2*d / 2) [(("cell" : Str),.int (max q'.first (P.nc.length:Int))),(("ask" : Str),.aG)]):=by
   rw[Mn];exact e1 _ _ nc
  refine⟨⟨_,aH.of (e1 _ _ l1)⟩,_,_,rfl,_,jm,⟨T.lX,T.jO.hd⟩,T.lW,.int (max q'.first (P.nc.length:Int)),by simp[List.lookup_cons,gK],_,_,rfl,_,jm,⟨T.lX,T.jO.hd⟩,T.n_,.aG,by simp[List.lookup_cons,gK],A.bg,_,.inl rfl,⟨_,rfl⟩,T.lX,T.FL,true,T.t_,λt1 zP=>?_⟩
  have e2:=e1.trans (ah.put (o:=.tup [.int (max q'.first (P.nc.length:Int)),.aG,.bl true]) zP);refine⟨_,e2 _ _ l1,by simp,λx dx nx gn GG=>?_⟩
  have GH:upd (upd (upd H1 e (dZ e A.bg (some (2*d)))) t1 (.tup [.int (max q'.first (P.nc.length:Int)),.aG,.bl true])) l (.lst ([]++[V.ref t1])) t1=some (.tup [.int (max q'.first (P.nc.length:Int)),.aG,.bl true]):=by
   rw[au (bK (e1 _ _ l1) zP).symm,aB]
  have lA:upd (upd (upd H1 e (dZ e A.bg (some (2*d)))) t1 (.tup [.int (max q'.first (P.nc.length:Int)),.aG,.bl true])) l (.lst ([]++[V.ref t1])) l=some (.lst [V.ref t1]):=aB;have sA:ah H (upd (upd (upd H1 e (dZ e A.bg (some (2*d)))) t1 (.tup [.int (max q'.first (P.nc.length:Int)),.aG,.bl true])) l (.lst ([]++[V.ref t1]))):=ah.put2 (s1.trans (s2.trans e2)) hl;generalize upd (upd (upd H1 e (dZ e A.bg (some (2*d)))) t1 (.tup [.int (max q'.first (P.nc.length:Int)),.aG,.bl true])) l (.lst ([]++[V.ref t1]))=HA at GH lA sA nx gn ⊢;have u1:=ah.put (o:=.own x) gn;have rX:upd HA dx (.own x) x=none:=(au GG.symm).trans nx;have u2:=u1.trans (ah.put (o:=.ins A.cV dx []) rX);have GI:=hP.same sA;have xp:x≠p:=λz=>by obtain⟨o,w⟩:=GI.here;rw[← z,nx] at w;cases w
  have xf:x∉fp:=λz=>by obtain⟨o,w⟩:=GI.has z;rw[nx] at w;cases w
  refine⟨C,x,p,ap,dx,k,P,fp,q',m,b,_,rfl,aB,hC,GI.same u2,xp,xf,(ha.same sA).same u2,f0,f1,by lia,m1,hn,λfit=>absurd fit (by lia),λ_=>⟨m0,λd2 H2 sb uu=>?_⟩⟩
  refine⟨A.bg,rfl,T.nZ,λe2 ZA=>.inl ⟨T.zB,?_⟩⟩;walk_at "rdt";have hx:H x=none:=sA.free nx;have ZC:ah H H2:=λb o w=>sb b o (u2 _ _ (sA _ _ w)) (bK w hx);have l2:H2 l=some (.lst [V.ref t1]):=sb _ _ (u2 _ _ lA) (bK lA nx);have GJ:=sb _ _ (u2 _ _ GH) (bK GH nx);have g1:=ah.put (o:=dZ e2 A.bg (some (2*d2+1))) ZA;have O5:upd H2 e2 (dZ e2 A.bg (some (2*d2+1))) ((2*d2+1) / 2)=some (dF ((2*d2+1) / 2) [(("cell" : Str),.int (max q'.first (P.nc.length:Int))),(("ask" : Str),.int k)]):=by
   rw[Mm];exact g1 _ _ uu
  refine⟨⟨_,aH.of (g1 _ _ l2)⟩,_,_,rfl,_,O5,⟨T.lX,T.jO.hd⟩,T.lW,.int (max q'.first (P.nc.length:Int)),by simp[List.lookup_cons,gK],_,_,rfl,_,O5,⟨T.lX,T.jO.hd⟩,T.n_,.int k,by simp[List.lookup_cons,gK],A.bg,_,.inl rfl,⟨_,rfl⟩,T.lX,T.FL,true,T.t_,λt2 uv=>?_⟩
  have g2:=g1.trans (ah.put (o:=.tup [.int (max q'.first (P.nc.length:Int)),.int k,.bl true]) uv);refine⟨_,g2 _ _ l2,by simp,?_⟩
  refine q l _ (ah.put2 (ZC.trans g2) hl) (Rep.pA (n:=2) aB ⟨Rep.nq (n:=1) ((au ?_).trans (g2 _ _ GJ)) ⟨.int _,.aG,.bl _,trivial⟩,Rep.nq (n:=1) ((au ?_).trans aB) ⟨.int _,.int _,.bl _,trivial⟩,trivial⟩)
  ·exact λz=>by rw[z,l2] at GJ;cases GJ
  ·exact(bK (g1 _ _ l2) uv).symm
theorem ZD(T:Tx K mg A)(aI:bx mg base A.bq A.aZ):aU P w K mg base br 9 A.yM A.yN ["_law_ask_here", "_law_spec_here"] (Wf K A.bN):=by
 have oA:=Ov (P:=P) (w:=w) (base:=base) T aI;refine T.Fe.ok sV (λvs H Q E h=>?_) (λaO Ar outer s H vs Q E hr h=>?_)
 ·obtain⟨p,t,q',mk,bb,dx,m,b,rfl,_⟩:=h
  rfl
 ·obtain⟨p,t,q',mk,bb,dx,m,b,rfl,ha,hz,l1,l2,q⟩:=h;refine⟨_,(aC (aY (i:=2) sV.nd rfl (Or.inl rfl) (bF cQ (pv 1) ao (λ_ _=>rfl)))
   (aC (lz (bI (bw d_ (pv 2) cM (a_ _)) (aL (aY (i:=2) sV.nd rfl (Or.inl rfl) cM)) bH))
   (aC (aY (i:=3) sV.nd rfl (Or.inl rfl) (dG (aa (pv 2) (aa (bF cQ (pv 1) ao (λ_ _=>rfl)) (aa (bF cQ (pv 1) ao (λ_ _=>rfl)) (aa (bF cQ (pv 1) ao (λ_ _=>rfl)) (aa (bF cQ (pv 1) ao (λ_ _=>rfl)) (aa (bF cQ (pv 1) ao (λ_ _=>rfl)) (aa (bF cQ (pv 1) ao (λ_ _=>rfl)) (aa (bF cQ (pv 1) ao (λ_ _=>rfl)) (aa (mF d_ (bF cQ (pv 1) ao (λ_ _=>rfl)) cM (a_ _)) aj)))))))))))
   (aC (aY (i:=4) sV.nd rfl (Or.inl rfl) (dG (aa (cK (pv 0) rfl) (aa (cK (pv 0) rfl) (aa (cK (pv 0) rfl) (aa (cK (pv 0) rfl) (aa (cK (pv 0) rfl) (aa (cK (pv 0) rfl) (aa (cK (pv 0) rfl) (aa (cK (pv 0) rfl) (aa (cK (pv 0) rfl) aj)))))))))))
   (aL (bE (aM oA (hr.mono (by first | decide | lia)) rfl T.lU T.kH.kp T.lT .nil aJ (aa (pv 4) (aa (pv 3) aj))))))))),?_⟩
  wp_walk using T,ha.o;have ht:=bA.of (K:=K) hz.o;refine⟨_,ht,_,rfl,rfl,λσ H'=>σ = [some (.ref p),some (.ref t),some (.str (d7 q').kind),none,none]/\H' = H,dz (λe=>⟨?_,rfl⟩) (λe=>⟨?_,rfl⟩),?_⟩
  ·rw[show (d7 q').kind = "write" from if_pos (V.str.inj e)]
  ·rw[show (d7 q').kind=q'.kind from if_neg (λz=>e (by rw[z]))]
  rintro iy H1 ⟨rfl,rfl⟩;wp_walk using T,ha.o;refine⟨_,ht,_,rfl,_,ht,_,rfl,_,ht,_,rfl,_,ht,_,rfl,_,ht,_,rfl,_,ht,_,rfl,_,ht,_,rfl,_,ht,_,rfl,rfl,?_⟩;intro p1 n1;have ed:decide (V.str q'.kind=V.str "early")=decide (q'.kind = "early"):=by simp only[V.str.injEq]
  rw[ed];have s1:=ah.put (o:=.lst [V.str (d7 q').kind,V.int q'.first,V.int q'.many,V.ref m,V.int q'.at_,V.int q'.eE,fG q'.eX,V.ref b,V.bl (decide (q'.kind = "early"))]) n1;have o1:=s1 _ _ ha.o;have dN:upd H1 p1 (.lst [V.str (d7 q').kind,V.int q'.first,V.int q'.many,V.ref m,V.int q'.at_,V.int q'.eE,fG q'.eX,V.ref b,V.bl (decide (q'.kind = "early"))]) p1=_:=aB;generalize upd H1 p1 (.lst [V.str (d7 q').kind,V.int q'.first,V.int q'.many,V.ref m,V.int q'.at_,V.int q'.eE,fG q'.eX,V.ref b,V.bl (decide (q'.kind = "early"))])=H2 at s1 o1 dN ⊢;wp_walk using T,o1;intro p2 n2;have s2:=ah.put (o:=.lst [V.str (d7 q').kind,V.int q'.first,V.int q'.many,V.ref mk,V.int q'.at_,V.int q'.eE,fG q'.eX,V.ref bb,V.bl (decide (q'.kind = "early"))]) n2;have r1:=LK (q:=q') (s2 _ _ dN) (s2 _ _ (s1 _ _ hz.ms)) (s2 _ _ (s1 _ _ hz.bh)) l1 l2;exact⟨_,_,LJ q',rfl,LK (q:=q') (m:=mk) (b:=bb) aB (s2 _ _ (s1 _ _ ha.ms)) (s2 _ _ (s1 _ _ ha.bh)) l1 l2,r1,λH3 s3=>q _ ((s1.trans s2).trans s3)⟩
theorem ZE(T:Tx K mg A)(aI:bx mg base A.bq A.aZ):aU P w K mg base br 10 A.yQ A.yR ["_law_script"] (wA K [(A.bq,A.aZ)]):=by
 have GB:=OU (P:=P) (w:=w) (base:=base) T aI;have GC:=OF (P:=P) (w:=w) (base:=base) T aI;have l7:=Gs (P:=P) (w:=w) (base:=base) T aI;have GF:=O2 (P:=P) (w:=w) (base:=base) T aI;have Gw:=OG (P:=P) (w:=w) (base:=base) T aI;have ZF:=Yj (P:=P) (w:=w) (base:=base) T aI;have Gu:=OL (P:=P) (w:=w) (base:=base) T aI;have ZG:=Ze (P:=P) (w:=w) (base:=base) T aI;have oB:=Yo (P:=P) (w:=w) (base:=base) T aI;have oA:=Ov (P:=P) (w:=w) (base:=base) T aI;have bJ:=oq (P:=P) (w:=w) (base:=base) T aI;have ZI:=Yy (P:=P) (w:=w) (base:=base) T aI;have ZJ:=Yp (P:=P) (w:=w) (base:=base) T aI;have ZK:=Yz (P:=P) (w:=w) (base:=base) T aI;have ZM:=YA (P:=P) (w:=w) (base:=base) T aI;have ZN:=YD (P:=P) (w:=w) (base:=base) T aI;have ZO:=Y7 (P:=P) (w:=w) (base:=base) T aI;have ZP:=Zw (P:=P) (w:=w) (base:=base) T aI;have ZQ:=ZD (P:=P) (w:=w) (base:=base) T aI;have ZR:=Zz (P:=P) (w:=w) (base:=base) T aI;refine T.N9.ok fj (λvs H Q E h=>?_) (λaO Ar outer s H vs Q E hr h=>?_)
 ·obtain⟨a,ns,rfl,_⟩:=h
  rfl
 ·obtain⟨a,ns,rfl,hS,hl,tabs,q⟩:=h;have tab:=tabs (A.bq,A.aZ) (by simp)
  have hu1:=hr.RU;refine⟨_,(aC (aY (i:=1) fj.nd rfl (Or.inl rfl) (aM ZI (hr.mono (by first | decide | lia)) rfl T.NK T.E6.kp T.NJ .nil aJ (aa (aM oB (hr.mono (by first | decide | lia)) rfl T.lR T.kG.kp T.lQ .nil aJ (aa (pv 0) (aa ao aj))) (aa (aM oB (hr.mono (by first | decide | lia)) rfl T.lR T.kG.kp T.lQ .nil aJ (aa (pv 0) (aa ao aj))) aj))))
   (aC (aY (i:=2) fj.nd rfl (Or.inl rfl) (aM ZJ (hr.mono (by first | decide | lia)) rfl T.NN T.E7.kp T.NL .nil aJ (aa (pv 1) aj)))
   (aC (aY (i:=3) fj.nd rfl (Or.inl rfl) (aM ZK (hr.mono (by first | decide | lia)) rfl T.NP T.E8.kp T.NO .nil aJ (aa (pv 1) (aa (aM oB (hr.mono (by first | decide | lia)) rfl T.lR T.kG.kp T.lQ .nil aJ (aa (pv 0) (aa ao aj))) aj))))
   (aC (aY (i:=4) fj.nd rfl (Or.inl rfl) (aM ZM (hr.mono (by first | decide | lia)) rfl T.NR T.E9.kp T.NQ .nil aJ (aa (bT eT rfl T.dM boot_len (aa (pv 2) aj)) (aa (aM oB (hr.mono (by first | decide | lia)) rfl T.lR T.kG.kp T.lQ .nil aJ (aa (pv 0) (aa ao aj))) aj))))
   (aC (aY (i:=5) fj.nd rfl (Or.inl rfl) (aF bL (aM bJ (hr.mono (by first | decide | lia)) rfl T.bZ T.bV.kp T.bY .nil aJ (aa (aM oB (hr.mono (by first | decide | lia)) rfl T.lR T.kG.kp T.lQ .nil aJ (aa (pv 0) (aa ao aj))) (aa ao aj))) (bT (JI rfl) rfl T.lV boot_min (aa (pv 2) aj))))
   (aC (aY (i:=6) fj.nd rfl (Or.inr rfl) (oV T.Oa Gw (hr.mono (by first | decide | lia)) rfl T.FG T.EU .nil aJ (aa (pv 1) (aa (pv 3) (aa ao (aa (pv 4) aj))))))
   (aC (lz (bI (bw d_ (aF bL (aM bJ (hr.mono (by first | decide | lia)) rfl T.bZ T.bV.kp T.bY .nil aJ (aa (aM oB (hr.mono (by first | decide | lia)) rfl T.lR T.kG.kp T.lQ .nil aJ (aa (pv 0) (aa ao aj))) (aa ao aj))) ao) ao (a_ _)) (aL (aY (i:=6) fj.nd rfl (Or.inr rfl) (oV T.Ob ZG (hr.mono (by first | decide | lia)) rfl T.Oc T.NI .nil aJ (aa (pv 1) (aa (pv 3) (aa ao (aa (pv 4) (aa (pv 5) (aa (aM ZN (hr.mono (by first | decide | lia)) rfl T.NT T.E_.kp T.NS .nil aJ (aa (pv 2) (aa (pv 5) (aa (aM oB (hr.mono (by first | decide | lia)) rfl T.lR T.kG.kp T.lQ .nil aJ (aa (pv 0) (aa ao aj))) aj)))) aj))))))))) bH))
   (aC (aY (i:=7) fj.nd rfl (Or.inl rfl) (TM (pv 6) T.X_ ZF (hr.mono (by first | decide | lia)) T.Ng .nil aJ))
   (aC (dw PassesOwn.never rfl (gW (aF Jq (dG (aa ao (aa ao aj))) (RZ R8 (pv 0) (Ja ao) (Ja ao)))) (b7 (i:=8) fj.nd rfl (Or.inl rfl))
   (aC (aY (i:=9) fj.nd rfl (Or.inr rfl) (aM ZO (hr.mono (by first | decide | lia)) rfl T.NY T.Fc.kp T.NW .nil aJ (aa (pv 8) (aa (pv 7) (aa (pv 3) (aa ao (aa (dG aj) aj)))))))
   (aC (aY (i:=10) fj.nd rfl (Or.inl rfl) (aM ZP (hr.mono (by first | decide | lia)) rfl T.N1 T.Fd.kp T.NZ .nil aJ (aa (pv 9) aj)))
   (aC (aY (i:=11) fj.nd rfl (Or.inl rfl) (aF bL (aM bJ (hr.mono (by first | decide | lia)) rfl T.bZ T.bV.kp T.bY .nil aJ (aa (pv 8) (aa ao aj))) ao))
   (aC (SD (i:=12) fj.nd rfl (Or.inl rfl) (N:=["_law_k", "_law_plate", "_law_spec_here"]) (nt:=1) (fv:=[6,9]) (dX.of rfl rfl (by rfl) (by rfl) (by repeat (first | exact trivial | refine⟨rfl,?_⟩)) (by rfl) (by rfl) (by rfl) (by decide) (by decide +kernel)) rfl (qA rfl T.fJ (aa (bF cQ (pv 9) ao (λ_ _=>rfl)) aj)) (λC s H fp=>(b7 (i:=0) (show List.Nodup (["_law_k", "_law_plate", "_law_spec_here"]:List Str) by decide +kernel) rfl (Or.inl rfl))) (λC s H fp=>vA) (λC s H fp=>(Kg (pv 1) T.Ou Gu (hr.mono (by first | decide | lia)) T.EV .nil pB (aa (aF cg (bF (JX (K:=K) rfl) (pv 2) ao (λ_ _=>rfl)) (pv 0)) aj))))
   (aC (bI (mw (kO (aM oA (hr.mono (by first | decide | lia)) rfl T.lU T.kH.kp T.lT .nil aJ (aa (aM l7 (hr.mono (by first | decide | lia)) rfl T.nX T.lP.kp T.nW .nil pB (aa (pv 6) (aa (pv 10) aj))) (aa (pv 12) aj))))) (aL (bE fy)) bH)
   (aC (aY (i:=13) fj.nd rfl (Or.inl rfl) (oV T.FE GF (hr.mono (by first | decide | lia)) rfl T.FF T.EI .nil pB (aa (pv 6) (aa (pv 11) (aa (pv 10) aj)))))
   (aC (bI (PW.pt (gf (mw (kO (aM oA (hr.mono (by first | decide | lia)) rfl T.lU T.kH.kp T.lT .nil aJ (aa (dG (aa (cK (pv 13) rfl) (aa (cK (pv 13) rfl) aj))) (aa (dG (aa (pv 11) (aa (pv 12) aj))) aj))))) (gb (mw (kO (aM ZQ (hr.mono (by first | decide | lia)) rfl T.N6 T.Fe.kp T.N3 .nil aJ (aa (cK (pv 13) rfl) (aa (pv 9) aj)))))))) (aL (bE fy)) bH)
   (aC (cO (R_ PySem.F.plainAttrs_list PySem.F.slot_list_clear PySem.F.type_list_clear Sd (aM l7 (hr.mono (by first | decide | lia)) rfl T.nX T.lP.kp T.nW .nil pB (aa (pv 6) (aa (pv 10) aj)))))
   (aC (bI (mw (kO (aM oA (hr.mono (by first | decide | lia)) rfl T.lU T.kH.kp T.lT .nil aJ (aa (aM l7 (hr.mono (by first | decide | lia)) rfl T.nX T.lP.kp T.nW .nil pB (aa (pv 6) (aa (pv 10) aj))) (aa (pv 12) aj))))) (aL (bE fy)) bH)
   (aC (aY (i:=14) fj.nd rfl (Or.inl rfl) (bF eS (dG (aa (aF iU (pv 7) ao) (aa (pv 7) (aa (aF cg (pv 7) (aF bL (aM bJ (hr.mono (by first | decide | lia)) rfl T.bZ T.bV.kp T.bY .nil aJ (aa (pv 8) (aa ao aj))) (aF mD ao ao))) (aa (bT (u6 rfl) rfl T.nY boot_max (aa ao (aa (aF iU (pv 7) ao) aj))) aj))))) (aF bL (aM bJ (hr.mono (by first | decide | lia)) rfl T.bZ T.bV.kp T.bY .nil aJ (aa (pv 8) (aa ao aj))) ao) (λ_ _=>rfl)))
   (aC (aY (i:=15) fj.nd rfl (Or.inl rfl) (aM GB (hr.mono (by first | decide | lia)) rfl T.EC T.yV.kp T.MR (show Vals [.int 0,.aG,.aG] [.int 0 A.Eu,.none,.none] from(.cons ⟨_,rfl⟩ (.cons rfl (.cons rfl .nil)))) aJ (aa (pv 14) (aa (aF cg (aF cg ao (aF bL (aM bJ (hr.mono (by first | decide | lia)) rfl T.bZ T.bV.kp T.bY .nil aJ (aa (pv 8) (aa ao aj))) ao)) (bT (u6 rfl) rfl T.nY boot_max (aa ao (aa (aF iU (pv 7) (pv 14)) aj)))) (aa ao aj)))))
   (aC (aY (i:=12) fj.nd rfl (Or.inl rfl) (dG (aa (cY (aa (bT (u6 rfl) rfl T.nY boot_max (aa (pv 14) (aa (pv 7) aj))) (aa ju (aa fy aj)))) (aa (cY (aa (bT (u6 rfl) rfl T.nY boot_max (aa (pv 14) (aa (pv 7) aj))) (aa (pv 11) (aa fy aj)))) aj))))
   (aL (bI (mw (kO (aM oA (hr.mono (by first | decide | lia)) rfl T.lU T.kH.kp T.lT .nil aJ (aa (aM ZR (hr.mono (by first | decide | lia)) rfl T.N8 T.Ff.kp T.N7 .nil aJ (aa (pv 6) (aa (pv 15) (aa (pv 11) aj)))) (aa (pv 12) aj))))) (aL (bE fy)) bH)))))))))))))))
   (aL (bE (aM oA (hr.mono (by first | decide | lia)) rfl T.lU T.kH.kp T.lT .nil aJ (aa (aM l7 (hr.mono (by first | decide | lia)) rfl T.nX T.lP.kp T.nW .nil pB (aa (pv 6) (aa (aM GC (hr.mono (by first | decide | lia)) rfl T.EG T.yW.kp T.EF .nil aJ (aa ao aj)) aj))) (aa (dG aj) aj)))))))))))))),?_⟩
  wp_walk using T,pe,cU;refine⟨ns,hS,hl,ns,hS,hl,?_⟩;refine⟨_,_,rfl,λza fF H1 s1 n1 zG hz=>?_⟩;have zl:=Tr (iE ns 0) (iE ns 1);generalize ng (iE ns 0) (iE ns 1)=z at hz zl;refine⟨za,fF,z,rfl,hz,zl.ok,λca H2 s2 n2 hc=>?_⟩;have cl:=q_ z λp hp=>(zl.ok.r p hp).1;have c15:=zl.sm;have c2:=zl.ok.s2;have l8:=s1.trans s2;refine⟨ns,l8.seq hS,hl,⟨za,fF,z,_,rfl,hz.same s2,zl.ok,?_⟩⟩;obtain⟨zQ,zR,GK⟩:=Tt zl (iE ns 2);generalize ni z (iE ns 2)=aW at zQ zR GK ⊢;have fY:=hz.same s2;wp_walk using T,pe,cU;refine⟨_,.inl (aH.of hc),ns,l8.seq hS,hl,?_⟩;refine⟨_,_,rfl,by rw[List.length_map];lia,by rw[List.length_map];lia,λsa sw H4 s4 n4 qY so=>?_⟩
  rw[List.length_map,cl] at so;have bG:∀c∈counts z,1<=c/\c<=1000:=λc hc=>by
   obtain⟨y,hy,rfl⟩:=Cf hc;have:=zl.ok.r y hy;lia
  refine⟨ns,(l8.trans s4).seq hS,hl,_,aH.of (s4 _ _ hc),by lia,λM hM zD=>⟨by have:=bG M hM;lia,?_⟩⟩
  have M1:=(bG M hM).1;have k0:=Int.emod_nonneg (mix (iE ns 4) 0) (show M≠0 by lia)
  have k1:=Int.emod_lt_of_pos (mix (iE ns 4) 0) (show 0<M by lia)
  generalize mix (iE ns 4) 0 % M=sp at k0 k1 ⊢;intro p dx np gn nd;have uw:=fY.same s4;have s5:=ah.put (o:=.own p) gn;have iM:upd H4 dx (.own p) p=none:=by rw[au (Ne.symm nd)];exact np
  have s6:=s5.trans (ah.put (o:=.ins A.bu dx []) iM);refine⟨A.bu,p,dx,za,sa,fF,z,aW,0,sw,rfl,T.X7,aB,uw.same s6,zl.ok,zQ,zR,by lia,by lia,GK,aH.of (s6 _ _ qY),so,λH5 ZS a1 a2 a3 a4 O6 sb ZT ZU hA=>⟨rfl,?_⟩⟩
  have hP:dI K A.bu H5 p _ (a1::a2::a3::a4::O6):=⟨ZS,a1,a2,a3,a4,O6,_,rfl,hA⟩;have qg:∀b o,H4 b=some o->H5 b=some o:=λb o e=>sb _ _ (s6 _ _ e) (bK e np);have qh:ah H H5:=λb o e=>qg _ _ (s4 _ _ (l8 _ _ e));have O7:=qg _ _ qY;have zS:Zn H5 za fF z:=⟨qg _ _ (s4 _ _ fY.l),fY.n,λi t p e1 e2=>qg _ _ (s4 _ _ (fY.t i t p e1 e2))⟩;have jm:∀s:Int,0<=s->s<M->1<=(dJ (counts z) s).length/\(dJ (counts z) s).length<=100000:=λs h0 h1=>by
   have lo:=rm (s:=s) h0 (counts z) 0 λc hc=>⟨by have:=(bG c hc).1;lia,(bG c hc).2⟩
   have cE:0<(counts z).length:=by lia
   have g0:=zD _ (List.getElem_mem cE);have e0:(counts z).getD 0 0=(counts z)[0]:=by simp[cE]
   have:=TQ (s:=s) (rc:=counts z) (λc hc=>by have:=zD c hc;lia) (r:=0) (k:=0) cE (by lia) (by rw[e0];lia)
   have:=(List.getElem?_eq_some_iff.mp this).1;exact⟨by lia,by unfold dJ;lia⟩
  have O8:(0:Int)<M:=by lia
  try wp_walk using T,pe,cU
  have GL:=qh _ _ tab;have O9:=qg _ _ (s4 _ _ hc);refine⟨λσ H'=>∃(C p:Addr) (P:Pl) (fp:List Addr),σ = [some (.ref a),some (.ref za),some (.ref ca),some (.int aW),some (.ref sa),some (.int sp),some (.ref p),none,none,none,none,none,none,none,none,none]/\C∈[A.bu,A.bf]/\dI K C H' p P fp/\1<=P.nc.length/\P.nc.length<=100000/\aH K H' a (ns.map V.int),?_,?_⟩
  ·refine⟨ns,qh.seq hS,hl,dz (λh2=>?_) (λh2=>⟨A.bu,p,_,_,rfl,by simp,hP,(jm 0 (by lia) O8).1,(jm 0 (by lia) O8).2,qh.seq hS⟩)⟩
   refine⟨ns,qh.seq hS,hl,?_⟩;have gD:∀i:Nat,i<(counts z).length->(counts z).getD i 0∈counts z:=λi hi=>by
    rw[show (counts z).getD i 0=(counts z)[i] by simp[hi]];exact List.getElem_mem hi
   have M2:=(bG M hM).2;refine⟨ca,_,_,counts z,rfl,O9,by lia,by lia,k0,by lia,λi hi=>bG _ (gD i hi),λba iG bz H6 O_ n6 bnd ZV b6 ZW hb=>?_⟩
   intro x ux nx ZX CO;have u1:=ah.put (o:=HO.own x) ZX;have ZY:upd H6 ux (HO.own x) x=none:=by rw[au (Ne.symm CO)];exact nx
   have u:=u1.trans (ah.put (o:=HO.ins A.bf ux []) ZY);have v:=O_.trans u;refine⟨x,ux,za,sa,ba,fF,iG,z,bz,aW,0,sp,sw,rfl,T.X8,T.zw,aB,zS.same v,zl.ok,zQ,zR,by lia,by lia,GK,aH.of (v _ _ O7),so,hb.same u,by lia,bnd,ZV,by lia,k0,λc mq=>by have:=zD c mq;lia,
    ⟨#[],v _ _ GL,trivial,.inl rfl⟩,λos r is=>VU k0 ZW os r is,λH7 fp mv ts us os ms keep acT nf acU ZZ hmv=>⟨rfl,?_⟩⟩
   have Z0:H5 x=none:=O_.free nx;have k7:∀ {b:Addr} {o:HO},H5 b=some o->(∀ps,o≠.dm ps)->H7 b=some o:=λ{b o} e n=>keep b o (v _ _ e) (bK e Z0) (λz=>by
    rw[z,GL] at e;exact n _ (Option.some.inj e).symm)
   refine⟨A.bf,x,_,fp,rfl,by simp,ZZ.TX,?_,?_,?_⟩
   ·show 1<=(kq _ _).length;rw[wz];exact(jm sp k0 k1).1
   ·show (kq _ _).length<=_;rw[wz];exact(jm sp k0 k1).2
   ·rcases qh.seq hS with(h | ⟨o,h⟩) | h
    ·exact .inl (.inl (k7 h (λ_ z=>nomatch z)))
    ·exact .inl (.inr ⟨o,k7 h (λ_ z=>nomatch z)⟩)
    ·exact .inr h
  clear uw s5 s6 iM sb ZT ZU qg hP hA O7 qh zS np gn nd jm GL O9 tab tabs;clear s4 n4 n1 n2 s1 s2 l8 zG hz fY qY hc hS;rintro σ H5 ⟨C,p,P,fp,rfl,hC,hP,p1,p2,hS⟩;wp_walk using T,pe,cU;obtain⟨Gv,b1,b2,b3,b4,tsp,fs,Gi,hA⟩:=id hP;refine⟨C,Gv,fs,hA.o,hC,hA.m2,⟨C,p,P,fp,rfl,hP,?_⟩⟩;dsimp only;refine vF ?_;wp_walk using T,pe,cU;intro c1 jm;obtain⟨ms,Z1,acV⟩:=Tc ns (some 6) (some 26);have w1:=ah.put (o:=.lst [V.int 0,V.int 7]) jm;refine⟨_,w1.seq hS,?_⟩;rw[Z1];intro c2 uu;have w2:=w1.trans (ah.put (o:=.lst (ms.map V.int)) uu);refine⟨_,ah.put uu _ _ aB,by simp only[List.length_cons,List.length_nil,List.length_map];lia,λL nL=>?_⟩
  have w3:=w2.trans (ah.put (o:=.lst ([V.int 0,V.int 7]++ms.map V.int)) nL);have eL:upd (upd (upd H5 c1 (.lst [V.int 0,V.int 7])) c2 (.lst (ms.map V.int))) L (.lst ([V.int 0,V.int 7]++ms.map V.int)) L=some (.lst ((0::7::ms).map V.int)):=aB;have GN:=hP.same w3;generalize upd (upd (upd H5 c1 (.lst [V.int 0,V.int 7])) c2 (.lst (ms.map V.int))) L (.lst ([V.int 0,V.int 7]++ms.map V.int))=H6 at eL GN w3 ⊢;clear hP hA Gi w1 w2 nL jm uu;refine mY.by L ((0::7::ms).map V.int) (λi σ H'=>∃x8 x9 gv gw gz gA gB gC,σ = [some (V.ref a),some (V.ref za),some (V.ref ca),some (V.int aW),some (V.ref sa),some (V.int sp),some (V.ref p),some (V.int (P.nc.length:Int)),x8,x9,gv,gw,gz,gA,gB,gC]/\ah H6 H') (aH.of eL) ⟨none,none,none,none,none,none,none,none,rfl,ah.refl _⟩ (by rintro i σ H' _ ⟨_,_,_,_,_,_,_,_,rfl,sm⟩;exact aH.of (sm _ _ eL)) ?_ ?_
  ·rintro i x σ H' N hN hx ⟨x8,x9,gv,gw,gz,gA,gB,gC,rfl,sm⟩;obtain⟨c,hc,rfl⟩:=j6 hx;have zT:=GN.same sm
   replace hN:∀x8 x9 gv gw gz gA gB gC H2,ah H' H2->N [some (V.ref a),some (V.ref za),some (V.ref ca),some (V.int aW),some (V.ref sa),some (V.int sp),some (V.ref p),some (V.int (P.nc.length:Int)),x8,x9,gv,gw,gz,gA,gB,gC] H2:=λx8 x9 gv gw gz gA gB gC H2 s2=>hN _ _ ⟨x8,x9,gv,gw,gz,gA,gB,gC,rfl,sm.trans s2⟩
   clear sm hx hc;wp_walk using T,cU;intro o1 Pa;have y1:=ah.put (o:=.lst []) Pa;refine⟨c,_,aW,0,o1,[],rfl,by lia,by lia,zQ,zR,by lia,by lia,aB,⟨.nil,(λ_ h=>nomatch h),(λ_ h=>nomatch h)⟩,λt sq m b H7 s7 nt GO zW=>?_⟩
   refine⟨t,sq,m,b,_,rfl,GO,zW.k,λap mk bb jh H8 s8 GD zX=>?_⟩;have fit:0<=sq.first/\sq.first<=1000000/\0<=sq.many/\sq.many<=16/\sq.first+sq.many<=(P.nc.length:Int):=by
    cases zW.k with
    | rest h1 h2 h3=>rw[h2,h3];exact⟨by lia,by lia,by lia,by lia,by lia⟩
    | read h1 h2 h3 h4 h5=>exact⟨h3.f0,h3.f1,by have:=h3.m0;lia,h3.m1,h5⟩
    | write h1 h2 Dg h3 h4 h5=>exact⟨h3.f0,h3.f1,by have:=h3.m0;lia,h3.m1,h5⟩
   obtain⟨f0,f1,m0,m1,fT⟩:=fit;have y8:=(y1.trans s7).trans s8;have zY:=zT.same y8;have zZ:=GO.same s8
   replace hN:∀x8 x9 gv gw gz gA gB gC H2,ah H8 H2->N [some (V.ref a),some (V.ref za),some (V.ref ca),some (V.int aW),some (V.ref sa),some (V.int sp),some (V.ref p),some (V.int (P.nc.length:Int)),x8,x9,gv,gw,gz,gA,gB,gC] H2:=λx8 x9 gv gw gz gA gB gC H2 s2=>hN x8 x9 gv gw gz gA gB gC H2 (y8.trans s2)
   clear y1 y8 zT s7 s8 GO nt GD Pa;have n0:=Int.emod_nonneg (mix c 30) (show (100:Int)≠0 by decide)
   generalize mix c 30 % 100=num at n0 ⊢;refine VG sq.many (λD j ys aD H2=>∃(u:Option V) (ts:List Addr),ys=ts.map V.ref/\aD = [u,some (.ref p),some (.ref t)]/\Zn H2 D ts ((P.nc.drop sq.first.toNat).take j)/\ah H8 H2/\H8 D=none/\j<=16) (λQ q=>?_) (by lia) (by lia) ?_ ?_ ?_ ?_
   ·walk_at "rdt";exact⟨_,bA.of zZ.o,_,rfl,q⟩
   ·intro D hD;exact⟨none,[],rfl,rfl,by rw[List.take_zero];exact Zn.start,ah.put hD,hD,by lia⟩
   ·rintro D j ys aD H2 ⟨u,ts,rfl,rfl,g1,g2,g3,g4⟩;exact⟨g1.l,qU (by rw[List.length_map,g1.n,List.length_take];lia)⟩
   ·rintro D j ys aD H2 N2 oh hj ⟨u,ts,rfl,rfl,g1,g2,g3,g4⟩;walk_at "rdt";obtain⟨Z2,b1',b2',b3',b4',acW,uM,acX,Pb⟩:=id (zY.same g2);refine⟨C,Z2,uM,Pb.o,hC,Pb.m9,_,bA.of (zZ.same g2).o,_,rfl,_,rfl,C,p,P,fp,_,rfl,zY.same g2,λ_ _ t' q0 eq ht=>⟨g1.l,oh _ _ _ ⟨_,ts++[t'],by rw[List.map_append];rfl,rfl,?_,ah.put2 g2 g3,g3,by lia⟩⟩,λno=>absurd ⟨by lia,by lia⟩ no⟩
    rw[Mx f0 eq];exact g1.pushX ht
   ·rintro D ys aD H2 ⟨u,ts,rfl,rfl,g1,g2,g3,g4⟩;have GP:Zn H2 D ts (lO P.nc sq.first sq.many):=g1;have uy:=zY.same g2;have uz:=zX.same g2;have Z3:=zZ.same g2
    replace hN:∀x8 x9 gv gw gz gA gB gC H3,ah H2 H3->N [some (V.ref a),some (V.ref za),some (V.ref ca),some (V.int aW),some (V.ref sa),some (V.int sp),some (V.ref p),some (V.int (P.nc.length:Int)),x8,x9,gv,gw,gz,gA,gB,gC] H3:=λx8 x9 gv gw gz gA gB gC H3 s2=>hN x8 x9 gv gw gz gA gB gC H3 (g2.trans s2)
    clear g1 g2 g3 g4 zY zX zZ;have qj:(lO P.nc sq.first sq.many).length<=1000000:=by unfold lO;rw[List.length_take];lia
    refine⟨C,p,ap,P,fp,d7 sq,mk,bb,jh,rfl,hC,uy,uz,f0,by show sq.first<=_;lia,m0,m1,by lia,λ_ l2 Pc H9 s9 ow fY=>?_,λz=>absurd fT (by have z:(P.nc.length:Int)<sq.first+sq.many:=z;lia)⟩
    refine⟨_,_,_,rfl,fY.rep qj (n:=2),(GP.same s9).rep qj (n:=2),λPd Z4=>⟨true,rfl,ite_no (by simp) ?_⟩⟩
    intro x dx nx gn GG;have v1:=ah.put (o:=.own x) gn;have rX:upd Pd dx (.own x) x=none:=(au GG.symm).trans nx;have v2:=v1.trans (ah.put (o:=.ins A.cV dx []) rX);have GQ:=s9.trans Z4;have GR:=uy.same GQ;have xp:x≠p:=λz=>by obtain⟨o,w⟩:=GR.here;rw[← z,nx] at w;cases w
    have xf:x∉fp:=λz=>by obtain⟨o,w⟩:=GR.has z;rw[nx] at w;cases w
    refine⟨C,x,p,ap,dx,num,P,fp,d7 sq,mk,bb,jh,rfl,aB,hC,GR.same v2,xp,xf,(uz.same GQ).same v2,f0,by show sq.first<=_;lia,m0,m1,by lia,λ_ l3 ts3 Z5 sb GS Z6=>⟨rfl,?_⟩,λz=>absurd fT (by have z:(P.nc.length:Int)<sq.first+sq.many:=z;lia)⟩
    have Z7:ah Pd Z5:=λb o e=>sb _ _ (v2 _ _ e) (bK e nx);have Pe:=GQ.trans Z7;refine⟨_,_,_,GS,T.tT,T.y_,.int num,by simp[List.lookup_cons,gK],_,_,_,GS,T.tT,T.tU,.ref l3,by simp[List.lookup_cons,gK],λr1 Z8 r2 Pf=>?_⟩
    have z1:=ah.put (o:=.lst [V.int num,V.ref l3]) Z8;have z2:=z1.trans (ah.put (o:=.lst [V.int num,V.ref D]) Pf);refine⟨_,_,.lst [.int num,.lst ((lO P.nc sq.first sq.many).map pairD)],rfl,Rep.pA (n:=3) (ah.put Pf _ _ aB) ⟨.int _,(Z6.same z2).rep qj (n:=1),trivial⟩,Rep.pA (n:=3) aB ⟨.int _,(GP.same (Pe.trans z2)).rep qj (n:=1),trivial⟩,λH12 l8=>⟨true,rfl,ite_no (by simp) ?_⟩⟩
    have sC:=(Pe.trans z2).trans l8;have Z9:=l8 _ _ (z2 _ _ GS);have Z_:sq.marks.length<=1000000:=by
     cases zW.k with
     | rest h1 h2 h3 h4=>rw[h4];simp
     | read h1 h2=>rw[h2];simp
     | write h1 h2=>lia
    have zH:sq.behind.length<=1000000:=by
     have:sq.behind = []:=List.eq_nil_iff_forall_not_mem.mpr λn hn=>by have:=zW.bh n hn;cases this
     rw[this];simp
    refine⟨_,_,_,Z9,T.tT,T.zb,.ref ap,by simp[List.lookup_cons,gK],⟨ap,t,sq,mk,bb,jh,m,b,rfl,uz.same sC,Z3.same sC,Z_,zH,λH13 s13=>⟨true,rfl,ite_no (by simp) ?_⟩⟩⟩
    have sD:=sC.trans s13;refine⟨C,p,ap,P,fp,d7 sq,mk,bb,jh,rfl,hC,uy.same sD,uz.same sD,f0,by show sq.first<=_;lia,m0,m1,by lia,λ_ l4 ts4 H14 s14 nl4 uw=>?_,λz=>absurd fT (by have z:(P.nc.length:Int)<sq.first+sq.many:=z;lia)⟩
    dsimp only;refine⟨⟨_,uw.sq⟩,l4,rfl,_,uw.l,?_⟩;have sE:=sD.trans (ah.put2 (o:=.lst []) s14 nl4);generalize upd H14 l4 (.lst [])=H15 at sE ⊢;refine⟨C,p,ap,P,fp,d7 sq,mk,bb,jh,rfl,hC,uy.same sE,uz.same sE,f0,by show sq.first<=_;lia,m0,m1,by lia,λ_ l5 ts5 H16 s16 nl5 zS=>?_,λz=>absurd fT (by have z:(P.nc.length:Int)<sq.first+sq.many:=z;lia)⟩
    have sF:=sE.trans s16;refine⟨_,_,_,rfl,zS.rep qj (n:=2),(GP.same sF).rep qj (n:=2),λH17 s17=>⟨true,rfl,ite_no (by simp) ⟨by decide,λr3 nr3=>⟨_,aH.of aB,?_⟩⟩⟩⟩
    have sG:=sF.trans s17;have pick:∃F:Int,gZ [V.int ((P.nc.length:Int) - 1),V.int (P.nc.length:Int),V.int ((P.nc.length:Int)+mix c 31 % 100000),V.int (if 0<(P.nc.length:Int) - 9 then(P.nc.length:Int) - 9 else 0)] (mix c 32 % 4)=some (V.int F)/\0<=F/\F<=(P.nc.length:Int)+100000/\(P.nc.length:Int) - F<=9:=by
     have q0:=Int.emod_nonneg (mix c 32) (show (4:Int)≠0 by decide)
     have q1:=Int.emod_lt_of_pos (mix c 32) (show (0:Int)<4 by decide)
     have q2:=Int.emod_nonneg (mix c 31) (show (100000:Int)≠0 by decide)
     have q3:=Int.emod_lt_of_pos (mix c 31) (show (0:Int)<100000 by decide)
     generalize mix c 32 % 4=i4 at q0 q1 ⊢;generalize mix c 31 % 100000=m5 at q2 q3 ⊢;have:i4=0\/i4=1\/i4=2\/i4=3:=by lia
     rcases this with rfl | rfl | rfl | rfl
     ·exact⟨_,rfl,by lia,by lia,by lia⟩
     ·exact⟨_,rfl,by lia,by lia,by lia⟩
     ·exact⟨_,rfl,by lia,by lia,by lia⟩
     ·exact⟨_,rfl,by split <;> lia,by split <;> lia,by split <;> lia⟩
    obtain⟨F,eF,F0,F1,F9⟩:=pick;refine⟨_,eF,F,rfl,?_⟩;have q4:=Int.emod_nonneg (mix c 33) (show (6:Int)≠0 by decide)
    have q5:=Int.emod_lt_of_pos (mix c 33) (show (0:Int)<6 by decide)
    generalize mix c 33 % 6=m6 at q4 q5 ⊢;have many:∃w:Int,(1+m6+if 0<(P.nc.length:Int) - F then(P.nc.length:Int) - F else 0)=w/\1<=w/\w<=16/\(P.nc.length:Int)<F+w:=⟨_,rfl,by split <;> lia,by split <;> lia,by split <;> lia⟩
    obtain⟨w,ew,w1',Pg,w3'⟩:=many;rw[ew];have sI:=sG.trans (ah.put (o:=HO.lst [V.int ((P.nc.length:Int) - 1),V.int (P.nc.length:Int),V.int ((P.nc.length:Int)+mix c 31 % 100000),V.int (if 0<(P.nc.length:Int) - 9 then(P.nc.length:Int) - 9 else 0)]) nr3)
    refine⟨F,w,5,0,none,.aG,[],rfl,⟨F0,by lia,w1',Pg,by lia,by lia,by lia,by lia,(λ_ z=>nomatch z)⟩,.inl ⟨rfl,rfl⟩,⟨.nil,(λ_ h=>nomatch h),(λ_ h=>nomatch h)⟩,λbp mk2 bb2 ux Ph s18 OP aaa=>?_⟩
    have sJ:=sI.trans s18;refine⟨_,rfl,λt1 zP=>⟨_,rfl,λt2 uv ll Pj=>?_⟩⟩;have mx:(if F<(P.nc.length:Int) then(P.nc.length:Int) else F)=max F (P.nc.length:Int):=by split <;> lia
    rw[mx] at uv Pj ⊢;have a1:=ah.put (o:=HO.tup [V.int (max F (P.nc.length:Int)),V.aG,V.bl true]) zP;have a2:=ah.put (o:=HO.tup [V.int (max F (P.nc.length:Int)),V.int num,V.bl true]) uv;have a3:=ah.put (o:=HO.lst [V.ref t1,V.ref t2]) Pj;have Pk:=a1.trans (a2.trans a3);have e1:=a3 _ _ (a2 _ _ (aB (H:=Ph) (a:=t1) (o:=HO.tup [V.int (max F (P.nc.length:Int)),V.aG,V.bl true])));have e2:=a3 _ _ (aB (H:=upd Ph t1 (HO.tup [V.int (max F (P.nc.length:Int)),V.aG,V.bl true])) (a:=t2) (o:=HO.tup [V.int (max F (P.nc.length:Int)),V.int num,V.bl true]));have sK:=sJ.trans Pk;refine⟨C,p,bp,num,P,fp,_,mk2,bb2,ux,rfl,hC,uy.same sK,aaa.same Pk,F0,by show F<=_;lia,by show 0<w;lia,Pg,by lia,w3',λl6 H19 z7 rep=>?_⟩
    refine⟨_,_,_,rfl,rep.XC,Rep.pA (n:=3) (z7 _ _ aB) ⟨Rep.nq (n:=2) (z7 _ _ e1) ⟨.int _,.aG,.bl _,trivial⟩,Rep.nq (n:=2) (z7 _ _ e2) ⟨.int _,.int _,.bl _,trivial⟩,trivial⟩,λH20 s20=>⟨true,rfl,ite_no (by simp) ?_⟩⟩
    exact hN _ _ _ _ _ _ _ _ _ ((sK.trans z7).trans s20)
  ·rintro σ H' ⟨x8,x9,gv,gw,gz,gA,gB,gC,rfl,sm⟩;have zT:=GN.same sm;wp_walk using T,cU;refine⟨3,rfl,by decide,by decide,λrp mk bb dx H7 s7 nrp zX=>?_⟩
   refine⟨C,p,rp,P,fp,_,mk,bb,dx,rfl,hC,zT.same s7,zX,by show (0:Int)<=0;decide,by show (0:Int)<=_;decide,by show (0:Int)<=0;decide,by show (0:Int)<=16;decide,by lia,λ_ l2 Pc H8 s8 ow fY r nr=>?_,λz=>absurd z (by show ¬ ((P.nc.length:Int)<0+0);lia)⟩
   have z0:Zn H8 l2 Pc []:=fY;exact⟨_,_,.lst [],rfl,((z0.same (ah.put nr)).rep (by simp) (n:=2)),Rep.pA (n:=3) aB trivial,λH9 s9=>q H9⟩
end
theorem l9{C:List Value->Prop}(h:C []):∀us:List Value,us.length=0->C us:=λ| [],_=>h
theorem cA{n:Nat}{C:List Value->Prop}(h:∀a us,us.length=n->C (a::us)):∀us:List Value,us.length=n+1->C us:=λ| a::us,e=>h a us (Nat.succ.inj e)
theorem uA{K:W.Frag}{fd:FuncData}{ps:List Str}{ds:List Value}(n:Nat)(e:n+ds.length=ps.length)(h:∀s,K.In s.heap->∀us:List Value,us.length=n->BindsTo s fd ⟨us,[]⟩ (ps.zip (us++ds))):Binds K fd ps ds:=λs us X hl=>h s X us (by rw[List.length_append] at hl;lia)
theorem iP{C:List Value->Prop}(h:∀a0,C [a0]):∀us:List Value,us.length=1->C us:=cA λa0=>l9 (h a0)
theorem fK{C:List Value->Prop}(h:∀a0 a1,C [a0,a1]):∀us:List Value,us.length=2->C us:=cA λa0=>cA λa1=>l9 (h a0 a1)
theorem ia{C:List Value->Prop}(h:∀a0 a1 a2,C [a0,a1,a2]):∀us:List Value,us.length=3->C us:=cA λa0=>cA λa1=>cA λa2=>l9 (h a0 a1 a2)
theorem z8{C:List Value->Prop}(h:∀a0 a1 a2 a3,C [a0,a1,a2,a3]):∀us:List Value,us.length=4->C us:=cA λa0=>cA λa1=>cA λa2=>cA λa3=>l9 (h a0 a1 a2 a3)
theorem Pn{C:List Value->Prop}(h:∀a0 a1 a2 a3 a4,C [a0,a1,a2,a3,a4]):∀us:List Value,us.length=5->C us:=cA λa0=>cA λa1=>cA λa2=>cA λa3=>cA λa4=>l9 (h a0 a1 a2 a3 a4)
theorem Po{C:List Value->Prop}(h:∀a0 a1 a2 a3 a4 a5,C [a0,a1,a2,a3,a4,a5]):∀us:List Value,us.length=6->C us:=cA λa0=>cA λa1=>cA λa2=>cA λa3=>cA λa4=>cA λa5=>l9 (h a0 a1 a2 a3 a4 a5)
theorem Pp{C:List Value->Prop}(h:∀a0 a1 a2 a3 a4 a5 a6,C [a0,a1,a2,a3,a4,a5,a6]):∀us:List Value,us.length=7->C us:=cA λa0=>cA λa1=>cA λa2=>cA λa3=>cA λa4=>cA λa5=>cA λa6=>l9 (h a0 a1 a2 a3 a4 a5 a6)
theorem aab{C:List Value->Prop}(h:∀a0 a1 a2 a3 a4 a5 a6 a7 a8 a9,C [a0,a1,a2,a3,a4,a5,a6,a7,a8,a9]):∀us:List Value,us.length=10->C us:=cA λa0=>cA λa1=>cA λa2=>cA λa3=>cA λa4=>cA λa5=>cA λa6=>cA λa7=>cA λa8=>cA λa9=>l9 (h a0 a1 a2 a3 a4 a5 a6 a7 a8 a9)
theorem all_mk{l:W.OpenLaw}{w:World}{K:W.Frag}{h:Heap}{mg:Str->Option Value}{fa:Addr}{oE uB z9 GU GV GW GX z_ uC Aa Ab GY GZ G0 Ac G1 G2 G3 G4 G5 G6 G7 uD uE uF uG uH G8 G9 G_ Ad Hf Hg Ae Hi Hj Hl Ho Hq Hr Hs Ht Hu Hv Hw Hy Hz HB:Addr}{aac Af aad aae Ag aaf aag HC aah aai Pq aaj HD:Option Addr}{aak aal aam aan aao aap aaq aar:Array (Option Value)}{aas Ah Ai Aj uI Al aat aau Am An Ao uJ Aq aav aaw HE HF HG As HJ aax aay Pr Pu Pw Au Px aaz HK HL HM Av HN:Value}{aaA aaB aaC:Nat}{HP Py:Tok}{DE DF Pz PB PD PF PJ PL PM PN PR PU PV PX PY PZ P0 P1 P4 P5 P6 P7 P8 P9 P_ Qa Qc Qd Qe Qf Qg Qh Qi Qj Qk Ql Qm Qn Qo Qp:FuncData}{bN:Addr}{cV:Addr}{bu:Addr}{bf:Addr}{fq:Addr}{bg:Addr}{tw:Tok}{tD:Tok}{tE:Tok}{tF:Tok}{tG:Tok}{tH:Tok}{tK:Tok}{tL:Tok}{tM:Tok}{tN:Tok}{tO:Tok}{tQ:Tok}{tR:Tok}{bq aZ:Addr}{aaD:Option Addr}{Qq:Array Value}{aaE:Array (Option Value)}(X:K.In h)(G:h.Ns mainGlobals mg)(hfa:mg "law" = some (.ref fa))
  (aaF:W.nsIn K mainGlobals "ArmError" = some (some (.ref fq)))
  (aaG:W.nsIn K mainGlobals "NoCell" = some (some (.ref bg)))
  (aaH:W.nsIn K mainGlobals "Ask" = some (some (.ref bN)))
  (aaI:W.nsIn K mainGlobals "Due" = some (some (.ref cV)))
  (aaJ:W.nsIn K mainGlobals "Plate" = some (some (.ref bu)))
  (aaK:W.nsIn K mainGlobals "Mended" = some (some (.ref bf)))
  (ax0:W.findIn K (.ref bg) "__init__" = some (some (.ref oE)))
  (ix0:W.isFn K (.ref oE)=true)
  (lx0:K.lookup oE=some ⟨aas,aac,.func (W.fnOf "__init__" "NoCell.__init__" (dH gq) (cR gq) (aQ gq) (.ref uB) Ah Ai Aj Af uI Al),aak⟩)
  (Qs:K.lookup uB=some ⟨aat,aad,.seq #[.none] aaA,aal⟩)
  (cx0:W.codeIn K uI "NoCell.__init__" = true)
  (kx0:W.keepIn K (.ref oE)=true)
  (ax1:W.findIn K (.ref bN) "__init__" = some (some (.ref z9)))
  (ix1:W.isFn K (.ref z9)=true)
  (F1:aP K "__init__" "Ask.__init__" DJ z9 DE)
  (ax2:W.nsIn K mainGlobals "check_between" = some (some (.ref GU)))
  (F2:aP K "check_between" "check_between" DK GU DF)
  (ax3:W.nsIn K mainGlobals "check_behind" = some (some (.ref GV)))
  (F3:aP K "check_behind" "check_behind" DM GV Pz)
  (ax4:W.nsIn K mainGlobals "check_fields" = some (some (.ref GW)))
  (F4:aP K "check_fields" "check_fields" DN GW PB)
  (ax5:W.nsIn K mainGlobals "told_behind" = some (some (.ref GX)))
  (F5:aP K "told_behind" "told_behind" DO GX PD)
  (ax6:W.nsIn K mainGlobals "reading" = some (some (.ref z_)))
  (lx6:K.lookup z_=some ⟨aau,aae,.func (W.fnOf "reading" "reading" (dH gr) (cR gr) (aQ gr) (.ref uC) Am An Ao Ag uJ Aq),aam⟩)
  (Qt:K.lookup uC=some ⟨aav,aaf,.seq #[.int 0 HP,.none,.none] aaB,aan⟩)
  (cx6:W.codeIn K uJ "reading" = true)
  (kx6:W.keepIn K (.ref z_)=true)
  (ax7:W.nsIn K mainGlobals "writing" = some (some (.ref Aa)))
  (lx7:K.lookup Aa=some ⟨aaw,aag,.func (W.fnOf "writing" "writing" (dH iN) (cR iN) (aQ iN) (.ref Ab) HE HF HG HC As HJ),aao⟩)
  (dx7:K.lookup Ab=some ⟨aax,aah,.seq #[.int 0 Py,.none,.none,.bool false] aaC,aap⟩)
  (cx7:W.codeIn K As "writing" = true)
  (kx7:W.keepIn K (.ref Aa)=true)
  (ax8:W.nsIn K mainGlobals "resting" = some (some (.ref GY)))
  (F8:aP K "resting" "resting" DP GY PF)
  (ax9:W.nsIn K mainGlobals "stretch" = some (some (.ref GZ)))
  (F9:aP K "stretch" "stretch" DQ GZ PJ)
  (aaL:W.nsIn K mainGlobals "stretch_by_number" = some (some (.ref G0)))
  (Qu:aP K "stretch_by_number" "stretch_by_number" DR G0 PL)
  (aaM:W.findIn K (.ref cV) "__init__" = some (some (.ref Ac)))
  (aaN:W.isFn K (.ref Ac)=true)
  (Qv:aP K "__init__" "Due.__init__" DS Ac PM)
  (aaO:W.nsIn K mainGlobals "check_zones" = some (some (.ref G1)))
  (Qw:aP K "check_zones" "check_zones" DT G1 PN)
  (aaP:W.nsIn K mainGlobals "check_turning" = some (some (.ref G2)))
  (Qx:aP K "check_turning" "check_turning" DU G2 PR)
  (aaQ:W.nsIn K mainGlobals "check_swing" = some (some (.ref G3)))
  (Qy:aP K "check_swing" "check_swing" DV G3 PU)
  (aaR:W.nsIn K mainGlobals "check_no_detour" = some (some (.ref G4)))
  (Qz:aP K "check_no_detour" "check_no_detour" DW G4 PV)
  (aaS:W.nsIn K mainGlobals "cells_by_ring" = some (some (.ref G5)))
  (QA:aP K "cells_by_ring" "cells_by_ring" DX G5 PX)
  (aaT:W.nsIn K mainGlobals "cells_by_number" = some (some (.ref G6)))
  (QB:aP K "cells_by_number" "cells_by_number" DY G6 PY)
  (aaU:W.nsIn K mainGlobals "numbers_by_cell" = some (some (.ref G7)))
  (QC:aP K "numbers_by_cell" "numbers_by_cell" DZ G7 PZ)
  (aaV:W.findIn K (.ref bu) "__init__" = some (some (.ref uD)))
  (aaW:W.isFn K (.ref uD)=true)
  (HQ:aP K "__init__" "Plate.__init__" D0 uD P0)
  (aaX:W.findIn K (.ref bu) "rings" = some (some (.ref uE)))
  (QD:W.isFn K (.ref uE)=true)
  (aaY:W.findIn K (.ref bf) "rings" = some (some (.ref uE)))
  (Aw:aP K "rings" "Plate.rings" D3 uE P1)
  (aaZ:W.findIn K (.ref bu) "total" = some (some (.ref uF)))
  (QE:W.isFn K (.ref uF)=true)
  (aa0:W.findIn K (.ref bf) "total" = some (some (.ref uF)))
  (Ax:aP K "total" "Plate.total" D4 uF P4)
  (aa1:W.findIn K (.ref bu) "has_cell" = some (some (.ref uG)))
  (QF:W.isFn K (.ref uG)=true)
  (aa2:W.findIn K (.ref bf) "has_cell" = some (some (.ref uG)))
  (Ay:aP K "has_cell" "Plate.has_cell" D5 uG P5)
  (aa3:W.findIn K (.ref bu) "cell_at" = some (some (.ref uH)))
  (QG:W.isFn K (.ref uH)=true)
  (aa4:W.findIn K (.ref bf) "cell_at" = some (some (.ref uH)))
  (Az:aP K "cell_at" "Plate.cell_at" D6 uH P6)
  (aa5:W.nsIn K mainGlobals "check_spares" = some (some (.ref G8)))
  (QH:aP K "check_spares" "check_spares" D7 G8 P7)
  (aa6:W.nsIn K mainGlobals "bad_by_cell" = some (some (.ref G9)))
  (QI:aP K "bad_by_cell" "bad_by_cell" D8 G9 P8)
  (aa7:W.nsIn K mainGlobals "bad_numbers" = some (some (.ref G_)))
  (QJ:aP K "bad_numbers" "bad_numbers" D9 G_ P9)
  (aa8:W.nsIn K mainGlobals "nearest_rings" = some (some (.ref Ad)))
  (aa9:K.lookup Ad=some ⟨aay,aai,.func (W.fnOf "nearest_rings" "nearest_rings" (dH fH) (cR fH) (aQ fH) .none Pr Pu Pw Pq Au Px),aaq⟩)
  (aa_:W.codeIn K Au "nearest_rings" = true)
  (aba:W.keepIn K (.ref Ad)=true)
  (abb:W.nsIn K mainGlobals "free_kept_cell" = some (some (.ref Hf)))
  (QK:aP K "free_kept_cell" "free_kept_cell" D_ Hf P_)
  (abd:W.nsIn K mainGlobals "lay_elsewhere" = some (some (.ref Hg)))
  (QL:aP K "lay_elsewhere" "lay_elsewhere" Ea Hg Qa)
  (abe:W.findIn K (.ref bf) "__init__" = some (some (.ref Ae)))
  (abf:W.isFn K (.ref Ae)=true)
  (QM:aP K "__init__" "Mended.__init__" Eb Ae Qc)
  (abg:W.nsIn K mainGlobals "_law_at" = some (some (.ref Hi)))
  (QN:aP K "_law_at" "_law_at" Ec Hi Qd)
  (abh:W.nsIn K mainGlobals "_law_same" = some (some (.ref Hj)))
  (QO:aP K "_law_same" "_law_same" Ed Hj Qe)
  (abi:W.nsIn K mainGlobals "_law_mix" = some (some (.ref Hl)))
  (QS:aP K "_law_mix" "_law_mix" Ef Hl Qf)
  (abj:W.nsIn K mainGlobals "_law_zones" = some (some (.ref Ho)))
  (QT:aP K "_law_zones" "_law_zones" Eg Ho Qg)
  (abk:W.nsIn K mainGlobals "_law_counts" = some (some (.ref Hq)))
  (QU:aP K "_law_counts" "_law_counts" Eh Hq Qh)
  (abl:W.nsIn K mainGlobals "_law_lap" = some (some (.ref Hr)))
  (QV:aP K "_law_lap" "_law_lap" Ei Hr Qi)
  (abm:W.nsIn K mainGlobals "_law_swing" = some (some (.ref Hs)))
  (QW:aP K "_law_swing" "_law_swing" Ej Hs Qj)
  (abn:W.nsIn K mainGlobals "_law_bad" = some (some (.ref Ht)))
  (QX:aP K "_law_bad" "_law_bad" Ek Ht Qk)
  (abo:W.nsIn K mainGlobals "_law_marks" = some (some (.ref Hu)))
  (QY:aP K "_law_marks" "_law_marks" El Hu Ql)
  (abp:W.nsIn K mainGlobals "_law_spec" = some (some (.ref Hv)))
  (QZ:aP K "_law_spec" "_law_spec" Em Hv Qm)
  (abq:W.nsIn K mainGlobals "_law_ask" = some (some (.ref Hw)))
  (Q0:aP K "_law_ask" "_law_ask" En Hw Qn)
  (abr:W.nsIn K mainGlobals "_law_fields" = some (some (.ref Hy)))
  (Q2:aP K "_law_fields" "_law_fields" Eo Hy Qo)
  (abt:W.nsIn K mainGlobals "_law_refused" = some (some (.ref Hz)))
  (Q3:aP K "_law_refused" "_law_refused" Ep Hz Qp)
  (Q4:W.nsIn K mainGlobals "law" = some (some (.ref HB)))
  (abu:K.lookup HB=some ⟨aaz,aaj,.func (W.fnOf "law" "law" (dH iO) (cR iO) (aQ iO) .none HK HL HM HD Av HN),aar⟩)
  (abv:W.codeIn K Av "law" = true)
  (abw:W.keepIn K (.ref HB)=true)
  (abx:W.plainGet K bN Str.empty=true)
  (aby:W.hasDictIn K bN=true)
  (abz:W.plainOver K bN=true)
  (abA:W.findIn K (.ref bN) "__setattr__" = some (some (.builtin "object.__setattr__")))
  (abB:W.makesIn K bN=true)
  (abC:W.keepIn K (.ref bN)=true)
  (Fq:W.findIn K (.ref bN) "kind" = some none)
  (Ft:W.findIn K (.ref bN) "first" = some none)
  (Fv:W.findIn K (.ref bN) "many" = some none)
  (Fw:W.findIn K (.ref bN) "marks" = some none)
  (Fx:W.findIn K (.ref bN) "at" = some none)
  (Fy:W.findIn K (.ref bN) "asker" = some none)
  (Fz:W.findIn K (.ref bN) "latest" = some none)
  (FA:W.findIn K (.ref bN) "behind" = some none)
  (FD:W.findIn K (.ref bN) "early" = some none)
  (abD:W.plainGet K cV Str.empty=true)
  (abE:W.hasDictIn K cV=true)
  (abF:W.plainOver K cV=true)
  (abG:W.findIn K (.ref cV) "__setattr__" = some (some (.builtin "object.__setattr__")))
  (abH:W.makesIn K cV=true)
  (abI:W.keepIn K (.ref cV)=true)
  (y_:W.findIn K (.ref cV) "number" = some none)
  (zb:W.findIn K (.ref cV) "ask" = some none)
  (tU:W.findIn K (.ref cV) "cells" = some none)
  (abJ:W.plainGet K bu Str.empty=true)
  (abK:W.hasDictIn K bu=true)
  (abL:W.plainOver K bu=true)
  (abM:W.findIn K (.ref bu) "__setattr__" = some (some (.builtin "object.__setattr__")))
  (abN:W.makesIn K bu=true)
  (abO:W.keepIn K (.ref bu)=true)
  (zc:W.findIn K (.ref bu) "ring_cells" = some none)
  (zd:W.findIn K (.ref bu) "lap" = some none)
  (ze:W.findIn K (.ref bu) "skew" = some none)
  (zf:W.findIn K (.ref bu) "swing" = some none)
  (zg:W.findIn K (.ref bu) "number_cells" = some none)
  (zh:W.findIn K (.ref bu) "cell_numbers" = some none)
  (abP:W.plainGet K bf Str.empty=true)
  (abQ:W.hasDictIn K bf=true)
  (abR:W.plainOver K bf=true)
  (abS:W.findIn K (.ref bf) "__setattr__" = some (some (.builtin "object.__setattr__")))
  (abT:W.makesIn K bf=true)
  (abU:W.keepIn K (.ref bf)=true)
  (zj:W.findIn K (.ref bf) "ring_cells" = some none)
  (zm:W.findIn K (.ref bf) "lap" = some none)
  (zo:W.findIn K (.ref bf) "skew" = some none)
  (zp:W.findIn K (.ref bf) "swing" = some none)
  (zq:W.findIn K (.ref bf) "number_cells" = some none)
  (zu:W.findIn K (.ref bf) "cell_numbers" = some none)
  (zw:W.findIn K (.ref bf) "moves" = some none)
  (abV:W.specialIn K (.ref bu) "__getattribute__" = some (some (.builtin "type.__getattribute__")))
  (abW:W.readsIn K bu (.type "type")=true)
  (abX:W.findCls K (.ref bu) (.type "type") "__init__" = some (.val (.ref uD)))
  (Fg:W.findIn K (.ref bf) "__class__" = some (some (.builtin "object.__class__")))
  (Fi:W.specialIn K (.builtin "object.__class__") "__get__" = some (some (.builtin "getset_descriptor.__get__")))
  (Fj:W.takesIn K (.builtin "object.__class__")=some true)
  (Fo:W.mroIn K bf (.type "object")=some true)
  (Fp:W.kitOne K (.ref bf) (.ref bu)=some true)
  (abY:W.nsIn K mainGlobals "MOST_CELLS" = some (some (.int 16 tw)))
  (abZ:W.nsIn K mainGlobals "GREATEST_FIRST" = some (some (.int 1000000 tD)))
  (ab0:W.nsIn K mainGlobals "GREATEST_MARK" = some (some (.int 1000000000 tE)))
  (ab1:W.nsIn K mainGlobals "GREATEST_AT" = some (some (.int 1000000000000 tF)))
  (ab3:W.nsIn K mainGlobals "GREATEST_ASKER" = some (some (.int 20 tG)))
  (ab4:W.nsIn K mainGlobals "GREATEST_LATEST" = some (some (.int 10000000000000 tH)))
  (ab5:W.nsIn K mainGlobals "GREATEST_BEHIND" = some (some (.int 99 tK)))
  (ab6:W.nsIn K mainGlobals "MOST_ZONES" = some (some (.int 5 tL)))
  (ab7:W.nsIn K mainGlobals "MOST_RINGS_IN_ZONE" = some (some (.int 40 tM)))
  (ab8:W.nsIn K mainGlobals "MOST_CELLS_IN_RING" = some (some (.int 60 tN)))
  (ab9:W.nsIn K mainGlobals "LEAST_RINGS" = some (some (.int 2 tO)))
  (ab_:W.nsIn K mainGlobals "MOST_RINGS" = some (some (.int 120 tQ)))
  (acd:W.nsIn K mainGlobals "MOST_BEATS" = some (some (.int 1000000000 tR)))
  (zx:W.nsIn K mainGlobals "abs" = some none)
  (tV:W.nsIn K mainGlobals "bool" = some none)
  (zy:W.nsIn K mainGlobals "dict" = some none)
  (p_:W.nsIn K mainGlobals "enumerate" = some none)
  (tW:W.nsIn K mainGlobals "int" = some none)
  (fX:W.nsIn K mainGlobals "isinstance" = some none)
  (dM:W.nsIn K mainGlobals "len" = some none)
  (jM:W.nsIn K mainGlobals "list" = some none)
  (nY:W.nsIn K mainGlobals "max" = some none)
  (lV:W.nsIn K mainGlobals "min" = some none)
  (fJ:W.nsIn K mainGlobals "range" = some none)
  (tX:W.nsIn K mainGlobals "sorted" = some none)
  (tY:W.nsIn K mainGlobals "str" = some none)
  (zz:W.nsIn K mainGlobals "sum" = some none)
  (jN:W.nsIn K mainGlobals "tuple" = some none)
  (xBg:W.specialIn K (.ref fq) "__getattribute__" = some (some (.builtin "type.__getattribute__")))
  (xBr:W.readsIn K fq (.type "type")=true)
  (xBa:W.findCls K (.ref fq) (.type "type") "__init__" = some (.val (.builtin "ValueError.__init__")))
  (zA:W.excIn K fq [.type "ValueError",.type "Exception",.type "BaseException",.type "object"] "ValueError.__new__" = true)
  (Q5:ki K bg [.type "ValueError",.type "Exception",.type "BaseException",.type "object"] "ValueError.__new__" = true)
  (ace:se K bg oE=true)
  (acf:W.typeIn K (.ref oE)=some (.type "function"))
  (acg:W.findIn K (.ref bg) "__setattr__" = some (some (.builtin "object.__setattr__")))
  (ach:W.hasDictIn K bg=true)
  (aci:W.mroIn K bg (.type "object")=some true)
  (acj:(W.clsIn K bg).any (λcd=>r_ [.type "ValueError",.type "Exception",.type "BaseException",.type "object"] cd.mro)=true)
  (lW:W.findIn K (.ref bg) "cell" = some none)
  (n_:W.findIn K (.ref bg) "ask" = some none)
  (ack:W.findIn K (.ref bg) "__getattribute__" = some (some (.builtin "BaseException.__getattribute__")))
  (acm:W.findIn K (.ref bg) "__getattr__" = some none)
  (acn:W.mroIn K bg (.type "BaseException")=some true)
  (Q6:W.mroIn K bg (.type "object")=some true)
  (aco:W.findIn K (.ref bg) "__class__" = some (some (.builtin "object.__class__")))
  (FO:W.kitOne K (.ref bg) (.type "ValueError")=some true)
  (t_:W.kitOne K (.ref bg) (.ref fq)=some true)
  (acp:W.mroIn K bg (.ref fq)=some true)
  (FN:W.kitOne K (.ref bg) (.ref bg)=some true)
  (acq:W.mroIn K bg (.ref bg)=some true)
  (acr:W.specialIn K (.builtin "object.__class__") "__get__" = some (some (.builtin "getset_descriptor.__get__")))
  (acs:W.takesIn K (.builtin "object.__class__")=some true)
  (acu:Au = .ref bq)
  (acY:K.lookup bq=some ⟨.type "code",aaD,.fields Qq,aaE⟩)
  (acZ:Qq[11]? = some (.ref aZ))
  (acv:W.codeHdIn K bq aZ=true)
  (acw:h.get? aZ=some (W.tabObj #[]))
  : ∃(fd:FuncData) (tabs:List (Addr×Addr)),(∀(s:Shared) (v:Value),BindsTo s fd ⟨[v],[]⟩ [("_law_script",v)])/\W.TabsAt tabs h/\∀base:Heap,K.In base->base.Ns mainGlobals mg->(∀q∈tabs,bx mg base q.1 q.2)->aU l.prog w K mg base br 10 fa fd ["_law_script"] (wA K tabs):=by
 have e:=hfa.symm.trans (W.mg_of X G Q4);cases e;have F0:=Dd (st:=gq) lx0 cx0 kx0;have F6:=Dd (st:=gr) lx6 cx6 kx6;have F7:=Dd (st:=iN) lx7 cx7 kx7;have Q7:=fun_mk (st:=fH) aa9 aa_ aba;have Q8:=fun_mk (st:=iO) abu abv abw;have acy:Binds K (W.fnOf "__init__" "NoCell.__init__" (dH gq) (cR gq) (aQ gq) (.ref uB) Ah Ai Aj Af uI Al) ["self", "cell", "ask"] [.none]:=uA 2 rfl λs X=>fK λ_ _=>W.binds_K X rfl Qs rfl rfl rfl;have acz:Binds K (W.fnOf "__init__" "NoCell.__init__" (dH gq) (cR gq) (aQ gq) (.ref uB) Ah Ai Aj Af uI Al) ["self", "cell", "ask"] []:=uA 3 rfl λs X=>ia λ_ _ _=>W.binds_K X rfl Qs rfl rfl rfl;have b1:=F1.binds (ps:=["self", "kind", "first", "many", "marks", "at", "asker", "latest", "behind", "early"]) λ_ _ _ _ _ _=>aab (λ_ _ _ _ _ _ _ _ _ _=>rfl)
 have b2:=F2.binds (ps:=["number", "least", "greatest", "words"]) λ_ _ _ _ _ _=>z8 (λ_ _ _ _=>rfl);have b3:=F3.binds (ps:=["behind"]) λ_ _ _ _ _ _=>iP (λ_=>rfl)
 have b4:=F4.binds (ps:=["first", "many", "at", "asker", "latest", "behind"]) λ_ _ _ _ _ _=>Po (λ_ _ _ _ _ _=>rfl)
 have b5:=F5.binds (ps:=["behind"]) λ_ _ _ _ _ _=>iP (λ_=>rfl)
 have acA:Binds K (W.fnOf "reading" "reading" (dH gr) (cR gr) (aQ gr) (.ref uC) Am An Ao Ag uJ Aq) ["first", "many", "at", "asker", "latest", "behind"] [.int 0 HP,.none,.none]:=uA 3 rfl λs X=>ia λ_ _ _=>W.binds_K X rfl Qt rfl rfl rfl
 have acB:Binds K (W.fnOf "reading" "reading" (dH gr) (cR gr) (aQ gr) (.ref uC) Am An Ao Ag uJ Aq) ["first", "many", "at", "asker", "latest", "behind"] []:=uA 6 rfl λs X=>Po λ_ _ _ _ _ _=>W.binds_K X rfl Qt rfl rfl rfl
 have acC:Binds K (W.fnOf "writing" "writing" (dH iN) (cR iN) (aQ iN) (.ref Ab) HE HF HG HC As HJ) ["first", "marks", "at", "asker", "latest", "behind", "early"] []:=uA 7 rfl λs X=>Pp λ_ _ _ _ _ _ _=>W.binds_K X rfl dx7 rfl rfl rfl
 have b8:=F8.binds (ps:=["at"]) λ_ _ _ _ _ _=>iP (λ_=>rfl)
 have b9:=F9.binds (ps:=["plate", "ask"]) λ_ _ _ _ _ _=>fK (λ_ _=>rfl);have b10:=Qu.binds (ps:=["plate", "number", "ask"]) λ_ _ _ _ _ _=>ia (λ_ _ _=>rfl);have b11:=Qv.binds (ps:=["self", "plate", "number", "ask"]) λ_ _ _ _ _ _=>z8 (λ_ _ _ _=>rfl);have b12:=Qw.binds (ps:=["zones"]) λ_ _ _ _ _ _=>iP (λ_=>rfl)
 have b13:=Qx.binds (ps:=["zones", "lap", "skew"]) λ_ _ _ _ _ _=>ia (λ_ _ _=>rfl);have b14:=Qy.binds (ps:=["swing", "rings"]) λ_ _ _ _ _ _=>fK (λ_ _=>rfl);have b15:=Qz.binds (ps:=["swing"]) λ_ _ _ _ _ _=>iP (λ_=>rfl)
 have b16:=QA.binds (ps:=["zones"]) λ_ _ _ _ _ _=>iP (λ_=>rfl)
 have b17:=QB.binds (ps:=["ring_cells", "spares"]) λ_ _ _ _ _ _=>fK (λ_ _=>rfl);have b18:=QC.binds (ps:=["number_cells"]) λ_ _ _ _ _ _=>iP (λ_=>rfl)
 have b19:=HQ.binds (ps:=["self", "zones", "lap", "skew", "swing"]) λ_ _ _ _ _ _=>Pn (λ_ _ _ _ _=>rfl);have b20:=Aw.binds (ps:=["self"]) λ_ _ _ _ _ _=>iP (λ_=>rfl)
 have b21:=Ax.binds (ps:=["self"]) λ_ _ _ _ _ _=>iP (λ_=>rfl)
 have b22:=Ay.binds (ps:=["self", "ring", "place"]) λ_ _ _ _ _ _=>ia (λ_ _ _=>rfl);have b23:=Az.binds (ps:=["self", "number"]) λ_ _ _ _ _ _=>fK (λ_ _=>rfl);have b24:=QH.binds (ps:=["spares", "ring_cells"]) λ_ _ _ _ _ _=>fK (λ_ _=>rfl);have b25:=QI.binds (ps:=["plate", "bad"]) λ_ _ _ _ _ _=>fK (λ_ _=>rfl);have b26:=QJ.binds (ps:=["number_cells", "bad_cells"]) λ_ _ _ _ _ _=>fK (λ_ _=>rfl);have b27:=Q7.binds (ps:=["ring", "rings"]) λ_ _ _ _ _ _=>fK (λ_ _=>rfl);have b28:=QK.binds (ps:=["ring_cells", "spares", "ring", "used"]) λ_ _ _ _ _ _=>z8 (λ_ _ _ _=>rfl);have b29:=QL.binds (ps:=["ring_cells", "spares", "number_cells", "bad_cells"]) λ_ _ _ _ _ _=>z8 (λ_ _ _ _=>rfl);have b30:=QM.binds (ps:=["self", "zones", "lap", "skew", "swing", "spares", "bad"]) λ_ _ _ _ _ _=>Pp (λ_ _ _ _ _ _ _=>rfl);have b31:=QN.binds (ps:=["_law_script", "_law_k"]) λ_ _ _ _ _ _=>fK (λ_ _=>rfl);have b32:=QO.binds (ps:=["_law_found", "_law_due"]) λ_ _ _ _ _ _=>fK (λ_ _=>rfl);have b33:=QS.binds (ps:=["_law_cell", "_law_k"]) λ_ _ _ _ _ _=>fK (λ_ _=>rfl);have b34:=QT.binds (ps:=["_law_a", "_law_b"]) λ_ _ _ _ _ _=>fK (λ_ _=>rfl);have b35:=QU.binds (ps:=["_law_zones_here"]) λ_ _ _ _ _ _=>iP (λ_=>rfl)
 have b36:=QV.binds (ps:=["_law_zones_here", "_law_cell"]) λ_ _ _ _ _ _=>fK (λ_ _=>rfl);have b37:=QW.binds (ps:=["_law_many", "_law_cell"]) λ_ _ _ _ _ _=>fK (λ_ _=>rfl);have b38:=QX.binds (ps:=["_law_counts_here", "_law_spare", "_law_a"]) λ_ _ _ _ _ _=>ia (λ_ _ _=>rfl);have b39:=QY.binds (ps:=["_law_cell", "_law_many"]) λ_ _ _ _ _ _=>fK (λ_ _=>rfl);have b40:=QZ.binds (ps:=["_law_cell", "_law_total", "_law_lap_here", "_law_at_here", "_law_others"]) λ_ _ _ _ _ _=>Pn (λ_ _ _ _ _=>rfl);have b41:=Q0.binds (ps:=["_law_spec_here"]) λ_ _ _ _ _ _=>iP (λ_=>rfl)
 have b42:=Q2.binds (ps:=["_law_ask_here", "_law_spec_here"]) λ_ _ _ _ _ _=>fK (λ_ _=>rfl);have b43:=Q3.binds (ps:=["_law_plate", "_law_ask_here", "_law_number"]) λ_ _ _ _ _ _=>ia (λ_ _ _=>rfl);have b44:=Q8.binds (ps:=["_law_script"]) λ_ _ _ _ _ _=>iP (λ_=>rfl)
 let A:kD:={ sW:=oE,pU:=(W.fnOf "__init__" "NoCell.__init__" (dH gq) (cR gq) (aQ gq) (.ref uB) Ah Ai Aj Af uI Al),wW:=z9,wX:=DE,wY:=GU,wZ:=DF,w4:=GV,w5:=Pz,w6:=GW,w_:=PB,xg:=GX,xh:=PD,xj:=z_,sX:=(W.fnOf "reading" "reading" (dH gr) (cR gr) (aQ gr) (.ref uC) Am An Ao Ag uJ Aq),Eu:=HP,xm:=Aa,xq:=(W.fnOf "writing" "writing" (dH iN) (cR iN) (aQ iN) (.ref Ab) HE HF HG HC As HJ),XY:=Py,xr:=GY,xu:=PF,xw:=GZ,xx:=PJ,xy:=G0,xA:=PL,xB:=Ac,xC:=PM,xD:=G1,xE:=PN,xF:=G2,xG:=PR,xH:=G3,xJ:=PU,xK:=G4,xM:=PV,xN:=G5,xO:=PX,xP:=G6,xQ:=PY,xR:=G7,xS:=PZ,sY:=uD,xT:=P0,pW:=uE,xU:=P1,pX:=uF,xV:=P4,pY:=uG,xW:=P5,pZ:=uH,xX:=P6,xY:=G8,xZ:=P7,x_:=G9,ya:=P8,yc:=G_,yd:=P9,sZ:=Ad,p7:=(W.fnOf "nearest_rings" "nearest_rings" (dH fH) (cR fH) (aQ fH) .none Pr Pu Pw Pq Au Px),yf:=Hf,yg:=P_,yh:=Hg,yi:=Qa,yj:=Ae,yl:=Qc,ym:=Hi,yp:=Qd,s_:=Hj,tu:=Qe,yq:=Hl,yr:=Qf,yt:=Ho,yu:=Qg,yw:=Hq,yx:=Qh,yy:=Hr,yz:=Qi,yC:=Hs,yD:=Qj,yE:=Ht,yF:=Qk,yG:=Hu,yH:=Ql,yI:=Hv,yJ:=Qm,yK:=Hw,yL:=Qn,yM:=Hy,yN:=Qo,yO:=Hz,yP:=Qp,yQ:=fa,yR:=(W.fnOf "law" "law" (dH iO) (cR iO) (aQ iO) .none HK HL HM HD Av HN),bN:=bN,cV:=cV,bu:=bu,bf:=bf,fq:=fq,bg:=bg,tw:=tw,tD:=tD,tE:=tE,tF:=tF,tG:=tG,tH:=tH,tK:=tK,tL:=tL,tM:=tM,tN:=tN,tO:=tO,tQ:=tQ,tR:=tR,bq:=bq,aZ:=aZ }
 have T:Tx K mg A:={ Ew:=F0,MM:=acy,MN:=acz,MO:=F1,yS:=b1,jL:=F2,kE:=b2,kF:=W.mg_of X G ax2,Ex:=F3,MP:=b3,MQ:=W.mg_of X G ax3,yT:=F4,Ey:=b4,Ez:=W.mg_of X G ax4,yU:=F5,EA:=b5,EB:=W.mg_of X G ax5,yV:=F6,MR:=acA,MS:=acB,EC:=W.mg_of X G ax6,ED:=F7,MT:=acC,MU:=W.mg_of X G ax7,yW:=F8,EF:=b8,EG:=W.mg_of X G ax8,lP:=F9,nW:=b9,nX:=W.mg_of X G ax9,EH:=Qu,MV:=b10,MW:=W.mg_of X G aaL,MX:=Qv,EI:=b11,EJ:=Qw,MY:=b12,MZ:=W.mg_of X G aaO,EK:=Qx,M0:=b13,M3:=W.mg_of X G aaP,EL:=Qy,M4:=b14,M5:=W.mg_of X G aaQ,EM:=Qz,M7:=b15,M8:=W.mg_of X G aaR,EN:=QA,M9:=b16,M_:=W.mg_of X G aaS,yX:=QB,EO:=b17,ER:=W.mg_of X G aaT,yY:=QC,ES:=b18,ET:=W.mg_of X G aaU,Na:=HQ,EU:=b19,Nb:=Aw,XZ:=b20,Nc:=⟨aaX,QD,Aw.kp⟩,Nd:=⟨aaY,QD,Aw.kp⟩,Nf:=Ax,Ng:=b21,Nh:=⟨aaZ,QE,Ax.kp⟩,Ni:=⟨aa0,QE,Ax.kp⟩,Nj:=Ay,Nk:=b22,Nl:=⟨aa1,QF,Ay.kp⟩,Nm:=⟨aa2,QF,Ay.kp⟩,Nn:=Az,EV:=b23,Np:=⟨aa3,QG,Az.kp⟩,Nq:=⟨aa4,QG,Az.kp⟩,EW:=QH,Nr:=b24,Nt:=W.mg_of X G aa5,EY:=QI,Nu:=b25,Nv:=W.mg_of X G aa6,EZ:=QJ,Nx:=b26,Ny:=W.mg_of X G aa7,E3:=Q7,Nz:=b27,NB:=W.mg_of X G aa8,E4:=QK,NC:=b28,ND:=W.mg_of X G abb,E5:=QL,NF:=b29,NG:=W.mg_of X G abd,NH:=QM,NI:=b30,kG:=QN,lQ:=b31,lR:=W.mg_of X G abg,kH:=QO,lT:=b32,lU:=W.mg_of X G abh,bV:=QS,bY:=b33,bZ:=W.mg_of X G abi,E6:=QT,NJ:=b34,NK:=W.mg_of X G abj,E7:=QU,NL:=b35,NN:=W.mg_of X G abk,E8:=QV,NO:=b36,NP:=W.mg_of X G abl,E9:=QW,NQ:=b37,NR:=W.mg_of X G abm,E_:=QX,NS:=b38,NT:=W.mg_of X G abn,Fb:=QY,NU:=b39,NV:=W.mg_of X G abo,Fc:=QZ,NW:=b40,NY:=W.mg_of X G abp,Fd:=Q0,NZ:=b41,N1:=W.mg_of X G abq,Fe:=Q2,N3:=b42,N6:=W.mg_of X G abr,Ff:=Q3,N7:=b43,N8:=W.mg_of X G abt,N9:=Q8,X0:=b44,X3:=W.mg_of X G Q4,X4:=⟨abx,aby,abz,abA⟩,yZ:=⟨abB,ax1,ix1,abC⟩,y9:=W.mg_of X G aaH,Fq:=Fq,Ft:=Ft,Fv:=Fv,Fw:=Fw,Fx:=Fx,Fy:=Fy,Fz:=Fz,FA:=FA,FD:=FD,tT:=⟨abD,abE,abF,abG⟩,FE:=⟨abH,aaM,aaN,abI⟩,FF:=W.mg_of X G aaI,y_:=y_,zb:=zb,tU:=tU,p8:=⟨abJ,abK,abL,abM⟩,Oa:=⟨abN,aaV,aaW,abO⟩,FG:=W.mg_of X G aaJ,zc:=zc,zd:=zd,ze:=ze,zf:=zf,zg:=zg,zh:=zh,p9:=⟨abP,abQ,abR,abS⟩,Ob:=⟨abT,abe,abf,abU⟩,Oc:=W.mg_of X G aaK,zj:=zj,zm:=zm,zo:=zo,zp:=zp,zq:=zq,zu:=zu,zw:=zw,N_:=⟨abV,abW,abX,HQ.kp⟩,Fg:=Fg,Fi:=Fi,Fj:=Fj,Fo:=Fo,Fp:=Fp,Od:=W.mg_of X G abY,Oe:=W.mg_of X G abZ,Of:=W.mg_of X G ab0,FH:=W.mg_of X G ab1,Og:=W.mg_of X G ab3,Oh:=W.mg_of X G ab4,Oi:=W.mg_of X G ab5,Oj:=W.mg_of X G ab6,Ol:=W.mg_of X G ab7,Om:=W.mg_of X G ab8,Oo:=W.mg_of X G ab9,Oq:=W.mg_of X G ab_,FI:=W.mg_of X G acd,zx:=W.mg_none_of X G zx,tV:=W.mg_none_of X G tV,zy:=W.mg_none_of X G zy,p_:=W.mg_none_of X G p_,tW:=W.mg_none_of X G tW,fX:=W.mg_none_of X G fX,dM:=W.mg_none_of X G dM,jM:=W.mg_none_of X G jM,nY:=W.mg_none_of X G nY,lV:=W.mg_none_of X G lV,fJ:=W.mg_none_of X G fJ,tX:=W.mg_none_of X G tX,tY:=W.mg_none_of X G tY,zz:=W.mg_none_of X G zz,jN:=W.mg_none_of X G jN,tZ:=W.mg_of X G aaF,zA:=zA,X5:=g_.of zA (by decide),FJ:=⟨xBg,xBr,xBa,by decide⟩,qa:=W.mg_of X G aaG,nZ:=⟨_,_,Q5,by decide⟩,n8:=⟨Q5,ace,acf⟩,jO:=⟨acg,ach,aci,acj⟩,lW:=lW,n_:=n_,lX:=⟨ack,acm,acn,Q6,aco,acr,acs⟩,FL:=Uc Q6,FO:=FO,t_:=t_,X6:=KA acp,FN:=FN,zB:=KA acq,Ot:=acu }
 have hT:W.TabsAt [(bq,aZ)] h:=by
  intro q hq;simp only[List.mem_cons,List.not_mem_nil,or_false] at hq;rcases hq with rfl
  ·exact⟨W.codeHd_of_K X acv,acw⟩
 exact⟨(W.fnOf "law" "law" (dH iO) (cR iO) (aQ iO) .none HK HL HM HD Av HN),[(bq,aZ)],λs v=>.of_eq rfl,hT,λbase _ _ hL=>ZE T (hL (bq,aZ) (by simp))⟩
end _W
/-! ac0 names are taken,so ac1 no fast copy is laid of the largest tables: the compiled file stays small -/
structure PySem.W.Fast:Prop where(tw4249879815831548997 tw10189058785030244116 tw14700729634031140120 tw13535057979550195097 tw18427239318793052778 tw9338519998223023653 tw1272008839873532216 tw18137072488764351741 tw13554620908855303947 tw7149938476713030548 tw2862125812678653654 tw13682430640740377614 tw2151351541344947173 tw5699569612468959953 tw3029398088895586400 tw8809910829290164708 tw7972197688164740649 tw1803251613021242831 tw16751471859694442453 tw3498095148902229425 tw13778381918374571966 tw3317056202542656841 tw9019952127736907275 tw2709659599144651954 tw162397504177085795 tw333635456800792280 tw8189084846299320014 tw13621271850159209833 tw4187751033896685769 tw14226811820787392533 tw9399495344724458892 tw12173107106369362943 tw11196555630774382790 tw999057732746410399 tw15492642029572451758 tw15202516897773538720 tw16678787762103292437 tw5898179428624936996 tw1156891316018695304 tw14286998733698657607 tw17113621183487430728 tw4420800784260917852 tw1784501502980034783 tw3012715763625293912 tw10750485805457063002 tw13934470622508290088 tw10008663434503308401 tw14521512841625491284 tw16195128974694869453 tw3719319336887920726 tw15973341749807343525 tw17117788579430876861 tw3643979579259871838 tw6664369549179717289 tw8742206228619164379 tw4617637733486532118 tw15414076191027816212 tw4933430529043321614 tw3434477123979142394 tw1827367968242271731 tw16983422006260849804 tw11618884910988615250 tw11869694848160092671 tw13750525483759897768 tw6502526594553085574 tw16284413853680988626 tw12496938770065074938 tw6175451634478065996 tw4272120630568218535 tw9347102149333792897 tw5072135224841630613 tw135415348981069868 tw6251676028014385275 tw7627065206753768721 tw7199279499275799867 tw12639453944103584672 tw17449787722477942423 tw7384246298606478312 tw18194523872031916483 tw2862470787482513654 tw14608132771376933897 tw12417272173182912526 tw14405479264678382283 tw4641186621284319510 tw3045971397151415829 tw15205549105636251455 tw10811904772845477632 tw18264894421164039342 tw5847668083231770510 tw14300945503473396502 tw14112754343343353434 tw16275199554780350753 tw17724085974759720873 tw8101392615387081827 tw6543120077406030391 tw4356994431195199033 tw17685904295661295248 tw16204409436658917375 tw696283300647237024 tw9850001393071427691 tw12399416500536544789 tw2298593030939900337 tw823301948935564536 tw3926818318936137336 tw11458861310157669653 tw803976526558056151 tw453337440810159178 tw379594194053610871 tw136683670278718317 tw1612931314357886452 tw10436539336103410120 tw14377911649666680495 tw4749641806906095777 tw6160589651909675364 tw3064655246648069763 tw12554444662193066759 tw12037413282556346709 tw8924783489930823543 tw9558638902416457772 tw1415410577046000978 tw9310529508819954329 tw4043106746552907882 tw15599290964439226826 tw9920319975211402862 tw14754777315103148666 tw1881132447066324904 tw6754410496082971941 tw4515134493985020618 tw10123504297422345706 tw454390575524824073 tw255469881707972678 tw9788083127797287170 tw16427860691937942009 tw8142540557579876113 tw8697619072336190201 tw3559598703281892016 tw7088713912227482534 tw13914757746653373600 tw6435101973225493669 tw2904966719477149808 tw8916459739023659999 tw438117226630848405 tw11745953151644756477 tw17858018436395684448 tw2639697423013976447 tw8625636836279099259 tw3830496164669855055 tw7861237072964902253 tw11091414256291539132 tw16709644988475187184 tw9322552738590587199 tw447989280095059788 tw12629593377747218097 tw8550222569879567393 tw16146572184650870303 tw11914601850181736866 tw16935128300020394271 tw5197495052409619036 tw16950248352822601868 tw11705124969836772105 tw7596669997515956840 tw5039965051585744596 tw8269349737044948559 tw5568944666991701279 tw15560558787076683285 tw1857703205499939662 tw9475096273730360079 tw5336776926519483369 tw1886334327921297761 tw10678550491885727822 tw14999774840247155029 tw8848831524483552053 tw4190642591835961522 tw7755044737054242844 tw14059085114482534068 tw1102202183521733681 tw399308871958964852 tw4884024463769921783 tw10953232638068961407 tw8579933697750029704 tw11311289041717963658 tw5318731580556851408 tw11225514784710734400 tw650698986305855964 tw16611480897286958920 tw11576597612703390552 tw17667577119573556547 tw8253278294381350685 tw5832067714376712097 tw13800540611250660042 tw6773287246458374928 tw16157282441914394772 tw9217808846467748921 tw4107565640825738107 tw2352825817085944467 tw13711915593462223031 tw10870096259689872528 tw8207380176126846195 tw1419872309193813075 tw12483805586084684260 tw9963478658919451204 tw8060746894230094228 tw8193397447366022955 tw17860158729269687205 tw14877617981510851683 tw583475106161869809 tw8204326373917760704 tw927430096106531888 tw16096776267618434081 tw13018721831819841634 tw3185383570318863954 tw11994340284792122888 tw6287403666296915022 tw2089011235673629537 tw8549077850012618819 tw1158461321767374186 tw11259663799759571889 tw272035354599949067 tw10586764024273142067 tw621523492405859405 tw10967326529311287466 tw5863456292865702889 tw6196615481684961682 tw8068936435597504982 tw4875595099288811138 tw12695356479901453834 tw9656810541535219431 tw14636852604172732125 tw7412835002146205801 tw7160135155780030177 tw4796170761010357414 tw12416464159588220588 tw8286824050369959679 tw12908306255148952670 tw15818135092574873082 tw17443009046742688674 tw16114969032625471136 tw14167813821809858303 tw6288500311967167770 tw9743957830767553350 tw3041395533673743929 tw2511089606754053147 tw8265547531690537546 tw15761754383838927755 tw1890779381217565036 tw554961649369164238 tw13703281550884064484 tw4210859847629686366 tw10221604050750706575 tw2080255259580532338 tw8579352183870560259 tw6975284572494320107 tw14618305451591498768 tw7229530206558020049 tw8561396085605170735 tw4329759456304886854 tw1688629233011515619 tw4890565605335266089 tw15036643598980346896 tw18079551511191303825 tw1885742091446257161 tw4476659143305072891 tw15717630618105413102 tw16488829696090232299 tw9097811756642175268 tw16882507369245161879 tw2724116612569173929 tw12984768991598678396 tw6553038050782337436 tw1603772199817979544 tw16595016555818395444 tw2864920208369326745 tw16652659580281022248 tw12081822777542912095 tw4943816910264556595 tw10793513540105743972 tw6688491743126863211 tw13346612476540702916 tw1701822792999115638 tw18218567302141644061:True)
open PySem PySem.W PyProof.Rows
set_option maxHeartbeats 0 in
theorem PySem.Challenge.cw_armswing_k22_stretches_holds : PySem.Challenge.rw_armswing_k22_stretches.Holds := by
 w_on; o_law; k_head; (case hw => w_witness2)
 k_fill
 refine _L.walk_lawT (l := PySem.Challenge.rw_armswing_k22_stretches) (k := 10) (x := "_law_script") rfl rfl ⟨rfl, by decide, by decide⟩ (λw h Y => PySem.W.km_in_of Y) ?nt ?F
 case nt => intro w; first | k_is | rfl
 case F =>
  intro w mg fa h Y KX G hmg
  refine' _W.all_mk KX G hmg ?_ ?_ ?_ ?_ ?_ ?_ ?_ ?_ ?_ ?_ ?_ ?_ ?_ ?_ ?_ ?_ ?_ ?_ ?_ ?_ ?_ ?_ ?_ ?_ ?_ ?_ ?_ ?_ ?_ ?_ ?_ ?_ ?_ ?_ ?_ ?_ ?_ ?_ ?_ ?_ ?_ ?_ ?_ ?_ ?_ ?_ ?_ ?_ ?_ ?_ ?_ ?_ ?_ ?_ ?_ ?_ ?_ ?_ ?_ ?_ ?_ ?_ ?_ ?_ ?_ ?_ ?_ ?_ ?_ ?_ ?_ ?_ ?_ ?_ ?_ ?_ ?_ ?_ ?_ ?_ ?_ ?_ ?_ ?_ ?_ ?_ ?_ ?_ ?_ ?_ ?_ ?_ ?_ ?_ ?_ ?_ ?_ ?_ ?_ ?_ ?_ ?_ ?_ ?_ ?_ ?_ ?_ ?_ ?_ ?_ ?_ ?_ ?_ ?_ ?_ ?_ ?_ ?_ ?_ ?_ ?_ ?_ ?_ ?_ ?_ ?_ ?_ ?_ ?_ ?_ ?_ ?_ ?_ ?_ ?_ ?_ ?_ ?_ ?_ ?_ ?_ ?_ ?_ ?_ ?_ ?_ ?_ ?_ ?_ ?_ ?_ ?_ ?_ ?_ ?_ ?_ ?_ ?_ ?_ ?_ ?_ ?_ ?_ ?_ ?_ ?_ ?_ ?_ ?_ ?_ ?_ ?_ ?_ ?_ ?_ ?_ ?_ ?_ ?_ ?_ ?_ ?_ ?_ ?_ ?_ ?_ ?_ ?_ ?_ ?_ ?_ ?_ ?_ ?_ ?_ ?_ ?_ ?_ ?_ ?_ ?_ ?_ ?_ ?_ ?_ ?_ ?_ ?_ ?_ ?_ ?_ ?_ ?_ ?_ ?_ ?_ ?_ ?_ ?_ ?_ ?_ ?_ ?_ ?_ ?_ ?_ ?_ ?_ ?_ ?_ ?_ ?_ ?_ ?_ ?_ ?_ ?_
  all_goals (first | k_is | kit_is | k_exc | exact _L.fun_mk (by k_is) (by k_is) (by k_is) | rfl | exact PySem.W.km_tabs_of Y _ (by decide) | decide +kernel | kernel_rfl | skip)

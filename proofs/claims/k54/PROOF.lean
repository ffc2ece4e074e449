import PyProof.Rows.All
import Wide.All
import OpenK.AllK
import Wide.FinOn
import Lean
import PyProof.EqAt
import PyProof.EqKinds
import PyProof.TupleCall
import PySem.Challenge.RW_armswing_k54_whole_kept_waiting
set_option compiler.extract_closed false
set_option Elab.async false
set_option linter.all false
set_option maxRecDepth 100000
namespace _L
open PySem PySem.Spec PyProof.Rows
noncomputable abbrev Key:=Sum Int Str
noncomputable def qe:Key->Value->Bool
 | .inl k,v=>Value.isInt k v
 | .inr x,v=>Value.isStrOf x v
noncomputable def XD(w:World):Key->Int
 | .inl k=>hashInt k
 | .inr x=>hashStr w x
theorem lO:∀ {k:Key} {v:Value},qe k v=true->(∃i t,k=Sum.inl i/\v=Value.int i t)\/(∃x t,k=Sum.inr x/\v=Value.str x t)
 | .inl i,v,h=>by
  obtain⟨t,e⟩:=Value.isInt_shape (k:=i) (v:=v) h;exact .inl ⟨i,t,rfl,e⟩
 | .inr x,v,h=>by
  obtain⟨t,e⟩:=Value.isStrOf_shape (x:=x) (v:=v) h;exact .inr ⟨x,t,rfl,e⟩
theorem XE(i:Int)(t:Tok):qe (.inl i) (.int i t)=true:=by simp[qe,Value.isInt]
theorem XF(x:Str)(t:Tok):qe (.inr x) (.str x t)=true:=by simp[qe,Value.isStrOf]
theorem XG(a b:Int):decide ((Sum.inl a:Key)=Sum.inl b)=(a == b):=by
 by_cases e:a=b
 ·subst e;simp
 ·have h:¬ (Sum.inl a:Key)=Sum.inl b:=λq=>e (Sum.inl.inj q);rw[decide_eq_false h];exact(beq_eq_false_iff_ne.mpr e).symm
theorem XH(a b:Str):decide ((Sum.inr a:Key)=Sum.inr b)=decide (a=b):=by
 by_cases e:a=b
 ·subst e;simp
 ·have h:¬ (Sum.inr a:Key)=Sum.inr b:=λq=>e (Sum.inr.inj q);rw[decide_eq_false h,decide_eq_false e]
theorem XI(a:Int)(b:Str):decide ((Sum.inl a:Key)=Sum.inr b)=false:=decide_eq_false (λq=>nomatch q)
theorem XJ(a:Str)(b:Int):decide ((Sum.inr a:Key)=Sum.inl b)=false:=decide_eq_false (λq=>nomatch q)
noncomputable def eZ(prog:Program)(w:World):PySem.KeyKind prog w Key where
 is:=qe
 hash:=XD w
 inj:=λv a b ha hb=>by
  rcases lO ha with⟨i,t,rfl,rfl⟩ | ⟨x,t,rfl,rfl⟩
  ·rcases lO hb with⟨j,u,rfl,e⟩ | ⟨y,u,rfl,e⟩
   ·injection e with e1 _;rw[e1]
   ·exact nomatch e
  ·rcases lO hb with⟨j,u,rfl,e⟩ | ⟨y,u,rfl,e⟩
   ·exact nomatch e
   ·injection e with e1 _;rw[e1]
 byValue:=λk v h=>by
  rcases lO h with⟨i,t,rfl,rfl⟩ | ⟨x,t,rfl,rfl⟩ <;> rfl
 pyHash:=λhv h=>by
  rcases lO hv with⟨i,t,rfl,rfl⟩ | ⟨x,t,rfl,rfl⟩
  ·exact wpAny_pyHash_int h
  ·exact wpAny_pyHash_str h
 eqBool:=λhu hv h=>by
  rcases lO hu with⟨i,t,rfl,rfl⟩ | ⟨x,t,rfl,rfl⟩
  ·rcases lO hv with⟨j,u,rfl,rfl⟩ | ⟨y,u,rfl,rfl⟩
   ·rw[XG] at h;exact wpAny_eqBool_int h
   ·rw[XI] at h;exact SeqAt.EqAt.int_str i t y u _ _ _ _ h
  ·rcases lO hv with⟨j,u,rfl,rfl⟩ | ⟨y,u,rfl,rfl⟩
   ·rw[XJ] at h;exact SeqAt.EqAt.str_int x t j u _ _ _ _ h
   ·rw[XH] at h;exact wpAny_eqBool_str h
 «strs» := λk x t v h=>by
  rcases lO h with⟨i,u,rfl,e⟩ | ⟨y,u,rfl,e⟩
  ·exact nomatch e
  ·injection e with e1 _;subst e1;cases v <;> rfl
theorem XM(prog:Program)(w:World)(i:Int)(t:Tok):(eZ prog w).is (.inl i) (.int i t)=true:=XE i t
theorem XN(prog:Program)(w:World)(x:Str)(t:Tok):(eZ prog w).is (.inr x) (.str x t)=true:=XF x t
inductive V where
 | aN | bl (b:Bool) | int (i:Int) | str (x:Str) | iL (b:Array UInt8) | oF (b:UInt64) | ref (a:Addr) | ty (n:String)
 deriving DecidableEq
noncomputable def RelV:V->Value->Prop
 | .aN,u=>u=Value.none
 | .bl b,u=>u=Value.bool b
 | .int i,u=>∃t,u=Value.int i t
 | .str x,u=>∃t,u=Value.str x t
 | .iL b,u=>∃t,u=Value.bytes b t
 | .oF b,u=>∃t,u=Value.float b t
 | .ref a,u=>u=Value.ref a
 | .ty n,u=>u=Value.type n
noncomputable abbrev Vals:List V->List Value->Prop:=Paired RelV
theorem Vals.length{xs:List V}{us:List Value}(r:Vals xs us):xs.length=us.length:=Paired.length r
theorem Vals.get:∀ {xs:List V} {us:List Value} {i:Nat} {x:V},Vals xs us->xs[i]? = some x->∃u,us[i]? = some u/\RelV x u
 | _,_,_,_,.nil,e=>by simp at e
 | _,_,0,_,.cons r _,e=>by simp at e;subst e;exact⟨_,rfl,r⟩
 | _,_,i+1,x,.cons _ t,e=>by
  obtain⟨u,h1,h2⟩:=Vals.get (i:=i) (x:=x) t (by simpa using e)
  exact⟨u,by simpa using h1,h2⟩
theorem Vals.set{x:V}{u:Value}(r:RelV x u):∀ {xs:List V} {us:List Value} (i:Nat),Vals xs us->Vals (xs.set i x) (us.set i u)
 | _,_,_,.nil=>.nil
 | _,_,0,.cons _ t=>.cons r t
 | _,_,i+1,.cons q t=>.cons q (Vals.set r i t)
theorem Vals.append:∀ {xs ys:List V} {us ws:List Value},Vals xs us->Vals ys ws->Vals (xs++ys) (us++ws)
 | _,_,_,_,.nil,s=>s
 | _,_,_,_,.cons r t,s=>.cons r (Vals.append t s)
theorem Vals.take:∀ {xs:List V} {us:List Value} (n:Nat),Vals xs us->Vals (xs.take n) (us.take n)
 | _,_,0,_=>.nil
 | _,_,_+1,.nil=>.nil
 | _,_,n+1,.cons r t=>.cons r (Vals.take n t)
theorem Vals.drop:∀ {xs:List V} {us:List Value} (n:Nat),Vals xs us->Vals (xs.drop n) (us.drop n)
 | _,_,0,r=>r
 | _,_,_+1,.nil=>.nil
 | _,_,n+1,.cons _ t=>Vals.drop n t
noncomputable def fZ:Option V->Option Value->Prop
 | some v,some u=>RelV v u
 | none,none=>True
 | _,_=>False
noncomputable def KV{κ:Type}:List (κ×V)->List (κ×Value)->Prop:=Paired λ(p:κ×V) (q:κ×Value)=>p.1=q.1/\RelV p.2 q.2
noncomputable def kV:Key->V
 | .inl i=>.int i
 | .inr x=>.str x
inductive HO where
 /-- a list -/
 | lst (xs:List V)
 /-- a tuple (never changes) -/
 | tup (xs:List V)
 /-- a dict whose keys are ints and texts;one whose keys are tuples of ints and texts (the empty one is both) -/
 | dK (kvs:List (Key×V)) | dT (kvs:List (List Key×V))
 /-- a set of ints: its members,its size -/
 | set (S:Int->Bool) (n:Nat)
 /-- an instance of the class at C,its dict at dx,its attributes -/
 | ins (C dx:Addr) (fs:List (Str×V))
 /-- the dict of the instance at x -/
 | own (x:Addr)
 /-- the dict of an exception -/
 | xd (fs:List (Str×V))
 /-- a bound method,f of x -/
 | met (f x:Addr)
 /-- a range object lo,lo+1,.. below hi -/
 | Ds (lo hi:Int)
 /-- a thing that is known to the object (the script;a dict while a loop walks it): read,never written while it is so -/
 | cI (o:Obj) (u:HO)
 /-- a code object's table -/
 | e7 (ps:Array Value)
 /-- any other thing,by what is true of its one object (a def of one's own: SetO a S n:=HO.ext λh=>..) -/
 | ext (φ:Heap->Prop)
noncomputable abbrev Hp:=Addr->Option HO
noncomputable def upd(H:Hp)(a:Addr)(o:HO):Hp:=λb=>if b=a then some o else H b
theorem aI{H:Hp}{a:Addr}{o:HO}:upd H a o a=some o:=by unfold upd;rw[if_pos rfl]
theorem aD{H:Hp}{a b:Addr}{o:HO}(h:b≠a):upd H a o b=H b:=by unfold upd;rw[if_neg h]
theorem XO{H:Hp}{a:Addr}{o u:HO}:upd (upd H a o) a u=upd H a u:=by
 funext b;unfold upd;split <;> rfl
theorem qg{H:Hp}{a b:Addr}{o u:HO}(h:H a=some o)(h':H b=some u)(d:o≠u):a≠b:=by
 intro e;subst e;rw[h] at h';exact d (Option.some.inj h')
theorem bX{H:Hp}{a b:Addr}{o:HO}(h:H a=some o)(h':H b=none):a≠b:=by
 intro e;subst e;rw[h] at h';cases h'
section
variable(P:Program)(w:World)
noncomputable def dB(H:Hp)(h:Heap)(a:Addr):HO->Prop
 | .lst xs=>xs.length<=sizeLine/\∃(aC:List Value) (n:Nat),Vals xs aC/\h.get? a=some { cls:=.type "list",data:=.seq aC.toArray n }
 | .tup xs=>xs.length<=sizeLine/\∃aC:List Value,Vals xs aC/\IsTup h a aC.toArray
 | .dK kvs=>kvs.length<=sizeLine/\(a == sysModules)=false/\∃vs,KV kvs vs/\h.DictOf (eZ P w) a vs
 | .dT kvs=>kvs.length<=sizeLine/\(a == sysModules)=false/\∃xs:List (List Key×Addr×Value),
   Paired (λ(p:List Key×V) (q:List Key×Addr×Value)=>p.1=q.1/\H q.2.1=some (.tup (p.1.map kV))/\RelV p.2 q.2.2) kvs xs/\
   ∃o es ep,h.get? a=some o/\o.ExactDict/\o.data = .dict es ep/\es.toList=xs.map (entryOfKey (tupleKind (eZ P w)))/\(xs.map (·.1)).Nodup
 | .set S n=>h.SetOf (intKind P w) a S n
 | .ins C dx fs=>H dx=some (.own a)/\fs.length<=1000/\dx≠a/\h.get? a=some (PySem.W.instObj C dx)/\
   ∃mA,h.Ns1 dx mA/\(∀f,fZ (fs.lookup f) (mA f))/\PySem.Within mA (fs.map (·.1))
 | .own _=>∃o,h.get? a=some o
 | .xd fs=>∃mA,h.Ns1 a mA/\∀f,fZ (fs.lookup f) (mA f)
 | .Ds lo hi=>∃t u v,h.get? a=some { cls:=.type "range",data:=.fields #[.int lo t,.int hi u,.int 1 v] }
 | .cI o u=>h.get? a=some o/\dB H h a u
 | .e7 ps=>h.get? a=some { cls:=.none,data:=.fields ps }
 | .met f x=>h.get? a=some (PySem.W.methodObj (.ref f) (.ref x))
 | .ext φ=>φ h/\(∃o,h.get? a=some o)/\∀h1 h2:Heap,φ h1->(∀o,h1.get? a=some o->h2.get? a=some o)->φ h2
noncomputable def cX(H:Hp)(h:Heap):Prop:=∀a o,H a=some o->dB P w H h a o
end
section
variable{P:Program}{w:World}{H H':Hp}{h h':Heap}{a:Addr}{o:HO}
theorem dB.lt(x:dB P w H h a o):a<h.objs.size:=by
 cases o with
 | lst xs=>obtain⟨_,_,_,_,e⟩:=x;exact Heap.lt_size e
 | tup xs=>obtain⟨_,_,_,p⟩:=x;exact p.lt
 | dK kvs=>obtain⟨_,_,_,_,o,_,_,e,_⟩:=x;exact Heap.lt_size e
 | dT kvs=>obtain⟨_,_,_,_,o,_,_,e,_⟩:=x;exact Heap.lt_size e
 | set S n=>obtain⟨o,_,_,_,e,_⟩:=x;exact Heap.lt_size e
 | ins C dx fs=>obtain⟨_,_,_,e,_⟩:=x;exact Heap.lt_size e
 | own y=>obtain⟨_,e⟩:=x;exact Heap.lt_size e
 | xd fs=>obtain⟨_,⟨_,_,_,e,_⟩,_⟩:=x;exact Heap.lt_size e
 | Ds lo hi=>obtain⟨_,_,_,e⟩:=x;exact Heap.lt_size e
 | cI ob u=>obtain⟨e,_⟩:=x;exact Heap.lt_size e
 | e7 ps=>exact Heap.lt_size (show h.get? a=some _ from x)
 | met f y=>exact Heap.lt_size (show h.get? a=some _ from x)
 | ext φ=>obtain⟨_,⟨_,e⟩,_⟩:=x;exact Heap.lt_size e
theorem Paired.Dt{α β:Type}{F G:α->β->Prop}:∀ {LG:List α} {LH:List β},Paired F LG LH->(∀a b,F a b->G a b)->Paired G LG LH
 | _,_,.nil,_=>.nil
 | _,_,.cons r t,f=>.cons (f _ _ r) (Paired.Dt t f)
theorem dB.iy(x:dB P w H h a o)(k:∀b u,(b=a\/H b=some (.own a))->h.get? b=some u->h'.get? b=some u)
  (ho:∀b,H b=some (.own a)->H' b=some (.own a)) (ht:∀b xs,H b=some (.tup xs)->H' b=some (.tup xs)):dB P w H' h' a o:=by
 induction o with
 | lst xs=>obtain⟨z,aC,n,r,e⟩:=x;exact⟨z,aC,n,r,k _ _ (.inl rfl) e⟩
 | tup xs=>obtain⟨z,aC,r,ob,e,c⟩:=x;exact⟨z,aC,r,ob,k _ _ (.inl rfl) e,c⟩
 | dK kvs=>obtain⟨z,y,vs,r,ob,es,ep,e,c⟩:=x;exact⟨z,y,vs,r,ob,es,ep,k _ _ (.inl rfl) e,c⟩
 | dT kvs =>
  obtain⟨z,y,xs,r,ob,es,ep,e,c⟩:=x;exact⟨z,y,xs,Paired.Dt r λp q z=>⟨z.1,ht _ _ z.2.1,z.2.2⟩,ob,es,ep,k _ _ (.inl rfl) e,c⟩
 | set S n=>obtain⟨ob,es,ep,t,e,c⟩:=x;exact⟨ob,es,ep,t,k _ _ (.inl rfl) e,c⟩
 | ins C dx fs =>
  obtain⟨d,z,ne,e,mA,⟨od,es,ep,e2,c⟩,r⟩:=x;exact⟨ho _ d,z,ne,k _ _ (.inl rfl) e,mA,⟨od,es,ep,k _ _ (.inr d) e2,c⟩,r⟩
 | own y=>obtain⟨ob,e⟩:=x;exact⟨ob,k _ _ (.inl rfl) e⟩
 | xd fs=>obtain⟨mA,⟨od,es,ep,e,c⟩,r⟩:=x;exact⟨mA,⟨od,es,ep,k _ _ (.inl rfl) e,c⟩,r⟩
 | Ds lo hi=>obtain⟨t,u,v,e⟩:=x;exact⟨t,u,v,k _ _ (.inl rfl) e⟩
 | cI ob u ih=>obtain⟨e,q⟩:=x;exact⟨k _ _ (.inl rfl) e,ih q⟩
 | e7 ps =>
  have e:h.get? a=some { cls:=.none,data:=.fields ps }:=x
  show h'.get? a=some { cls:=.none,data:=.fields ps };exact k a _ (.inl rfl) e
 | met f y =>
  have e:h.get? a=some (PySem.W.methodObj (.ref f) (.ref y)):=x
  show h'.get? a=some (PySem.W.methodObj (.ref f) (.ref y));exact k a _ (.inl rfl) e
 | ext φ=>obtain⟨p,⟨o,e⟩,st⟩:=x;exact⟨st _ _ p λo q=>k _ _ (.inl rfl) q,⟨o,k _ _ (.inl rfl) e⟩,st⟩
theorem cX.lt(x:cX P w H h)(e:H a=some o):a<h.objs.size:=(x a o e).lt
theorem cX.fresh(x:cX P w H h)(e:h.objs.size<=a):H a=none:=by
 cases q:H a with
 | none=>rfl
 | some u=>exact absurd (Nat.lt_of_lt_of_le (x.lt q) e) (Nat.lt_irrefl _)
theorem cX.kept(x:cX P w H h)(k:∀b u,h.get? b=some u->h'.get? b=some u):cX P w H h':=λa o e =>
 (x a o e).iy (λb u _ q=>k b u q) (λ_ q=>q) λ_ _ q=>q
theorem cX.laid(x:cX P w H h)(k:∀b u,h.get? b=some u->h'.get? b=some u)(hp:h.objs.size<=a)(new:dB P w (upd H a o) h' a o):cX P w (upd H a o) h':=λb u e=>by
 have hn:=x.fresh hp;by_cases hb:b=a
 ·subst hb;rw[aI] at e;cases e;exact new
 ·rw[aD hb] at e;exact(x b u e).iy (λc v _ q=>k c v q) (λc q=>by rw[aD (bX q hn)];exact q) λc xs q=>by rw[aD (bX q hn)];exact q
end
noncomputable def Rd(H:Hp)(a:Addr)(u:HO):Prop:=H a=some u\/∃o,H a=some (.cI o u)
theorem Rd.ok{P:Program}{w:World}{H:Hp}{h:Heap}{a:Addr}{u:HO}(r:Rd H a u)(x:cX P w H h):dB P w H h a u:=by
 rcases r with r | ⟨o,r⟩
 ·exact x a u r
 ·obtain⟨_,q⟩:=x a _ r;exact q
noncomputable def sy:Option HO->Prop
 | some (.lst _)=>True
 | some (.dK _)=>True
 | some (.dT _)=>True
 | some (.set _ _)=>True
 | some (.ins _ _ _)=>True
 | some (.ext _)=>True
 | _=>False
section
variable{P:Program}{w:World}{H:Hp}{h h':Heap}{x e:Addr}{o':HO}
theorem cX.write(ok:cX P w H h)(mu:sy (H x))(he:e=x\/H e=some (.own x))(k:∀b u,b≠e->h.get? b=some u->h'.get? b=some u)(qh:∃u,h'.get? e=some u)
  (new:dB P w (upd H x o') h' x o'):cX P w (upd H x o') h':=λb u q=>by
 have LI:∀c y,H c=some (.own y)->c≠x:=λc y r z=>by subst z;rw[r] at mu;exact mu
 have XQ:∀c xs,H c=some (.tup xs)->c≠x:=λc xs r z=>by subst z;rw[r] at mu;exact mu
 by_cases hb:b=x
 ·subst hb;rw[aI] at q;cases q;exact new
 ·rw[aD hb] at q;by_cases oG:b=e
  ·have q':H b=some (.own x):=by
    rcases he with z | z
    ·exact absurd (oG.trans z) hb
    ·rw[oG];exact z
   rw[q] at q';cases q';obtain⟨v,hv⟩:=qh;exact⟨v,by rw[oG];exact hv⟩
  ·refine(ok b u q).iy (λc v hc r=>k c v ?_ r) (λc r=>by rw[aD (LI c b r)];exact r) λc xs r=>by rw[aD (XQ c xs r)];exact r
   rcases hc with rfl | hc
   ·exact oG
   ·rintro rfl;rcases he with z | z
    ·exact LI c b hc z
    ·rw[hc] at z;cases z;exact hb rfl
end
structure Un(fs ex:List Addr)(H H':Hp)(h h':Heap):Prop where
 keep:∀b o,h.get? b=some o->H b=none->b∉fs->b∉ex->h'.get? b=some o
 slot:∀b o,h.get? b=some o->H b=none->b∈fs->b∉ex->∃sl,h'.get? b=some { o with slots:=sl }
 free:∀b o,h.get? b=some o->H b=none->b∉ex->H' b=none
 there:∀b o,h.get? b=some o->b∉ex->∃o',h'.get? b=some o'
 kG:∀b xs,H b=some (.tup xs)->H' b=some (.tup xs)
 jP:∀b o u,H b=some (.cI o u)->H' b=some (.cI o u)
 kH:∀b ps,H b=some (.e7 ps)->∃more,H' b=some (.e7 (ps++more))
section
variable{fs XR ex ex':List Addr}{H H1 H2:Hp}{h h1 h2 h':Heap}{a x e:Addr}{o:HO}
theorem Un.any(u:Un fs ex H H1 h h1){b:Addr}{ob:Obj}(q:h.get? b=some ob)(n:H b=none)(hx:b∉ex):∃sl,h1.get? b=some { ob with slots:=sl }:=by
 by_cases hb:b∈fs
 ·exact u.slot b ob q n hb hx
 ·exact⟨ob.slots,u.keep b ob q n hb hx⟩
theorem Un.kept(k:∀b u,h.get? b=some u->h'.get? b=some u):Un fs ex H H h h' :=
 ⟨λb ob q _ _ _=>k b ob q,λb ob q _ _ _=>⟨ob.slots,k b ob q⟩,λ_ _ _ n _=>n,λb ob q _=>⟨ob,k b ob q⟩,λ_ _ q=>q,λ_ _ _ q=>q,λ_ ps q=>⟨#[],by rw[q];simp⟩⟩
theorem Un.refl:Un fs ex H H h h:=Un.kept λ_ _ q=>q
theorem Un.laid(k:∀b u,h.get? b=some u->h'.get? b=some u)(hp:h.objs.size<=a)(hn:H a=none):Un fs ex H (upd H a o) h h' where
 keep:=λb u q _ _ _=>k b u q
 slot:=λb u q _ _ _=>⟨u.slots,k b u q⟩
 free:=λb u q n _=>by rw[aD (Nat.ne_of_lt (Nat.lt_of_lt_of_le (Heap.lt_size q) hp))];exact n
 there:=λb u q _=>⟨u,k b u q⟩
 kG:=λb xs q=>by rw[aD (bX q hn)];exact q
 jP:=λb u xs q=>by rw[aD (bX q hn)];exact q
 kH:=λb ps q=>⟨#[],by rw[aD (bX q hn),q];simp⟩
theorem Un.write(mu:sy (H x))(he:e=x\/H e=some (.own x))(k:∀b u,b≠e->h.get? b=some u->h'.get? b=some u)(qh:∃u,h'.get? e=some u):Un fs ex H (upd H x o) h h':=by
 have hx:∀b,H b=none->b≠x:=λb n z=>by subst z;rw[n] at mu;exact mu
 have hb:∀b,H b=none->b≠e:=λb n z=>by
  subst z;rcases he with r | r
  ·exact hx b n r
  ·rw[n] at r;cases r
 have hm:∀b u,H b=some u->¬ sy (some u)->b≠x:=λb u q nm z=>by subst z;rw[q] at mu;exact nm mu
 refine⟨λb u q n _ _=>k b u (hb b n) q,λb u q n _ _=>⟨u.slots,k b u (hb b n) q⟩,λb u q n _=>by rw[aD (hx b n)];exact n,λb u q _=>?_,
  λb xs q=>by rw[aD (hm b _ q λz=>z)];exact q,λb u xs q=>by rw[aD (hm b _ q λz=>z)];exact q,λb ps q=>⟨#[],by rw[aD (hm b _ q λz=>z),q];simp⟩⟩
 by_cases oG:b=e
 ·subst oG;exact qh
 ·exact⟨u,k b u oG q⟩
end
noncomputable def wJ(h:Heap)(H:Hp):List Addr:=(List.range h.objs.size).filter λa=>(H a).isSome
noncomputable def iz(h:Heap)(H:Hp):Heap:=PySem.W.hideAll h (wJ h H)
theorem LJ(h:Heap)(H:Hp):(iz h H).objs.size=h.objs.size:=PySem.W.hideAll_size _ _
theorem LK{h:Heap}{H:Hp}{b:Addr}{o:Obj}(e:h.get? b=some o)(n:H b=none):(iz h H).get? b=some o :=
 PySem.W.hideAll_get _ e λhm=>by
  have q:(H b).isSome=true:=(List.mem_filter.mp hm).2;rw[n] at q;simp at q
theorem LL{h:Heap}{H:Hp}{b:Addr}{o:Obj}(e:(iz h H).get? b=some o):h.get? b=some o/\H b=none:=by
 have e':h.get? b=some o:=PySem.W.of_hideAll (wJ h H) e;refine⟨e',?_⟩;cases q:H b with
 | none=>rfl
 | some x =>
  have hm:b∈wJ h H:=List.mem_filter.mpr ⟨List.mem_range.mpr (Heap.lt_size e'),by simp[q]⟩
  have z:(iz h H).get? b=none:=PySem.W.hideAll_none (wJ h H) hm;rw[z] at e;cases e
noncomputable def sG(g h:Heap)(L:Addr):List (Addr×Obj):=(List.range h.objs.size).filterMap λa=>if a=L\/(g.get? a).isSome=true then none else(h.get? a).map λo=>(a,o)
theorem LM{g h:Heap}{L a:Addr}{o:Obj}(h1:a≠L)(h2:g.get? a=none)(h3:h.get? a=some o):(a,o)∈sG g h L :=
 List.mem_filterMap.mpr ⟨a,List.mem_range.mpr (Heap.lt_size h3),by simp[h1,h2,h3]⟩
theorem XS{g h:Heap}{L:Addr}{p:Addr×Obj}(hp:p∈sG g h L):p.1≠L/\g.get? p.1=none/\h.get? p.1=some p.2:=by
 obtain⟨b,_,e⟩:=List.mem_filterMap.mp hp;split at e
 ·cases e
 ·rename_i hn;cases q:h.get? b with
  | none=>rw[q] at e;simp at e
  | some u =>
   rw[q] at e;simp only[Option.map_some,Option.some.injEq] at e;subst e;refine⟨λz=>hn (.inl z),?_,q⟩
   show g.get? b=none;cases r:g.get? b with
   | none=>rfl
   | some v=>exact(hn (.inr (by simp[r]))).elim
noncomputable def rest(g h:Heap)(L d:Addr):List (Addr×Obj):=(sG g h L).filter λp=>decide (p.1≠d)
theorem LN{g h:Heap}{L:Addr}:News g L h (sG g h L):=λp hp=>let ⟨a,b,c⟩:=XS hp;⟨c,a,b⟩
structure Mod(K:PySem.W.Frag)(mg:Str->Option Value)(base:Heap):Prop where
 kI:K.In base
 glob:base.Ns mainGlobals mg
 blt:∃mb,base.Ns builtinsNs mb/\∀x:Str,x≠"__name__"->mb x=bootBuiltins x
 nolimit:base.NoLimit
structure Cx where
 prog:Program
 w:World
 K:PySem.W.Frag
 mg:Str->Option Value
 base:Heap
 A:Around
 N:List Str
 dh:Shared
 f9:Hp
 env:Env
 outer:List Env
 stack:List Env
 ex:List Addr
 fn:Str->Bool
 calm:Bool
 pn:List (Addr×Obj)
 xe:Value->Shared->Prop
noncomputable def gT(l:List Env):List Addr:=l.filterMap (·.frame)
noncomputable abbrev Cx.fs(X:Cx):List Addr:=gT X.outer
noncomputable def Du(sc:Scope)(x:Str):Prop:=sc.names.lookup x=some .local\/sc.names.lookup x=some .cell\/sc.names.lookup x=some .free
noncomputable def Loc(sc:Scope)(x:Str):Prop:=sc.names.lookup x=some .local\/sc.names.lookup x=some .cell
noncomputable def Look(env:Env)(h:Heap)(m:Str->Option Value)(x:Str)(u:Value):Prop :=
 (env.kindOf x=some .local/\m x=some u)\/((env.kindOf x=some .cell\/env.kindOf x=some .free)/\∃c,env.cells.lookup x=some c/\h.IsCell c (some u))
structure Cx.Ok(X:Cx):Prop where
 mod:Mod X.K X.mg X.base
 kind:X.env.scope.kind = .function
 glob:X.env.globals=mainGlobals
 blt:X.env.builtins=builtinsNs
 above:X.dh.heap.objs.size<=X.env.locals
 inj:∀x y c,X.env.cells.lookup x=some c->X.env.cells.lookup y=some c->x=y
 has:∀x,(X.env.kindOf x=some .cell\/X.env.kindOf x=some .free)->∃c,X.env.cells.lookup x=some c
 qi:∀x c,X.fn x=true->X.env.cells.lookup x=some c->X.dh.heap.objs.size<=c
 hd:X.calm=true->X.A.handled=none
 frames:X.A.frames=some X.stack
 sH:X.stack=X.outer\/(X.stack=X.env::X.outer/\X.env.frame=some X.env.locals)
 sI:∀b∈X.ex,b≠X.env.locals/\∀x c,X.env.cells.lookup x=some c->c≠b
 bs:∀b o,X.base.get? b=some o->X.dh.heap.get? b=some o/\X.f9 b=none
 jt:X.base.objs.size<=X.dh.heap.objs.size
 qj:∀b o,X.base.get? b=some o->b∉X.ex
 qk:∀b∈X.ex,b∉X.fs
 iZ:X.dh.heap.FunFrames X.base X.outer
 mR:∀b∈X.fs,X.f9 b=none
structure Inv(X:Cx)(pins:List (Addr×Obj))(σ:List (Option V))(H:Hp)(s:Shared):Prop where
 ok:X.Ok
 os:s.os=X.dh.os
 bare:AllBare s.gens
 base:Un X.fs X.ex X.f9 H X.dh.heap s.heap
 loc:∃m,s.heap.Ns X.env.locals m/\∀(i:Nat) (x:Str) (v:V),X.N[i]? = some x->σ[i]? = some (some v)->Du X.env.scope x->∃u,RelV v u/\Look X.env s.heap m x u
 cell:∀x c,X.env.cells.lookup x=some c->∃v,s.heap.IsCell c v
 free:H X.env.locals=none
 ju:∀x c,X.env.cells.lookup x=some c->H c=none
 pin:∀p∈X.pn++pins,s.heap.get? p.1=some p.2/\H p.1=none/\p.1≠X.env.locals/\p.1∉X.fs/\∀v,p.2.data≠.cell v
 aL:cX X.prog X.w H s.heap
 len:σ.length=X.N.length
section
variable{X:Cx}{pins:List (Addr×Obj)}{σ:List (Option V)}{H H':Hp}{s:Shared}{h':Heap}
theorem Cx.Ok.XT(ok:X.Ok){b:Addr}{o:Obj}(e:X.base.get? b=some o):b∉X.fs:=λhb=>by
 have:=(ok.iZ.mem hb).1;rw[e] at this;cases this
theorem Inv.bs(I:Inv X pins σ H s):∀b o,X.base.get? b=some o->s.heap.get? b=some o/\H b=none:=λb o e =>
 ⟨I.base.keep b o (I.ok.bs b o e).1 (I.ok.bs b o e).2 (I.ok.XT e) (I.ok.qj b o e),I.base.free b o (I.ok.bs b o e).1 (I.ok.bs b o e).2 (I.ok.qj b o e)⟩
theorem Inv.bk(I:Inv X pins σ H s):∀b o,X.base.get? b=some o->s.heap.get? b=some o:=λb o e=>(I.bs b o e).1
theorem Inv.mod(I:Inv X pins σ H s):Mod X.K X.mg X.base:=I.ok.mod
theorem Inv.cK(I:Inv X pins σ H s):X.K.In s.heap:=I.ok.mod.kI.keeps I.bk
theorem Inv.nolimit(I:Inv X pins σ H s):s.heap.NoLimit:=I.ok.mod.nolimit.keeps I.bk
theorem Inv.fr(I:Inv X pins σ H s):∃m,Fr X.base X.env.locals s.heap m :=
 let ⟨m,hn,_⟩:=I.loc
 ⟨m,hn,I.bk,Nat.le_trans I.ok.jt I.ok.above⟩
theorem Inv.lt(I:Inv X pins σ H s):X.env.locals<s.heap.objs.size:=let ⟨_,hn,_⟩:=I.loc;hn.lt
theorem Inv.sz(I:Inv X pins σ H s):X.dh.heap.objs.size<=s.heap.objs.size:=Nat.le_trans I.ok.above (Nat.le_of_lt I.lt)
theorem Inv.sJ(I:Inv X pins σ H s){a:Addr}(h:s.heap.objs.size<=a):a∉X.fs:=λhb=>by
 obtain⟨_,o,ho,_⟩:=I.ok.iZ.mem hb;exact absurd (Nat.lt_of_lt_of_le (Heap.lt_size ho) (Nat.le_trans I.sz h)) (Nat.lt_irrefl _)
theorem Inv.oH(I:Inv X pins σ H s):∀x c,X.env.cells.lookup x=some c->c≠X.env.locals:=λx c e z=>by
 obtain⟨v,o,ho,hd⟩:=I.cell x c e;obtain⟨m,⟨o',es,ep,lP,Dv,_⟩,_⟩:=I.loc;rw[z,lP] at ho;cases ho;rw[Dv] at hd;cases hd
theorem Inv.iZ(I:Inv X pins σ H s):s.heap.FunFrames X.base X.outer:=by
 have all:∀(l:List Env),(∀b∈gT l,b∈X.fs)->X.dh.heap.FunFrames X.base l->s.heap.FunFrames X.base l:=by
  intro l
  induction l with
  | nil=>intro _ _;trivial
  | cons env r ih =>
   intro hs hl;obtain⟨hk,⟨L,o,hf,hn,ho,hd⟩,hr⟩:=hl;have hL:L∈X.fs:=hs L (by unfold gT;rw[List.filterMap_cons,hf];exact List.mem_cons_self)
   obtain⟨sl,e⟩:=I.base.slot L o ho (I.ok.mR L hL) hL λz=>I.ok.qk L z hL;exact⟨hk,⟨L,_,hf,hn,e,hd⟩,ih (λb hb=>hs b (by unfold gT;rw[List.filterMap_cons,hf];exact List.mem_cons_of_mem _ hb)) hr⟩
 exact all X.outer (λ_ hb=>hb) I.ok.iZ
theorem Inv.stack(I:Inv X pins σ H s):s.heap.FunFrames X.base X.stack:=by
 rcases I.ok.sH with e | ⟨e,hf⟩
 ·rw[e];exact I.iZ
 ·rw[e];obtain⟨m,hn,_⟩:=I.loc;refine .cons (by rw[I.ok.kind];decide) hf hn ?_ I.iZ
  exact Heap.get?_none_of_le (Nat.le_trans I.ok.jt I.ok.above)
theorem Inv.Dw(I:Inv X pins σ H s):∀b∈gT X.stack,b∈X.env.locals::X.fs:=λb hb=>by
 rcases I.ok.sH with e | ⟨e,hf⟩
 ·rw[e] at hb;exact List.mem_cons_of_mem _ hb
 ·rw[e] at hb;unfold gT at hb;rw[List.filterMap_cons,hf] at hb;exact hb
theorem Inv.Dy(I:Inv X pins σ H s):∀b∈gT X.stack,H b=none:=λb hb=>by
 rcases List.mem_cons.mp (I.Dw b hb) with e | hb
 ·rw[e];exact I.free
 ·obtain⟨_,o,ho,_⟩:=I.ok.iZ.mem hb;exact I.base.free b o ho (I.ok.mR b hb) λz=>I.ok.qk b z hb
theorem Inv.step{g':Array GenState}{t':Nat}{d':Drawn}{ch:List Addr}(I:Inv X pins σ H s)
  (kJ:∀b∈ch,(b∈X.ex\/X.dh.heap.objs.size<=b)/\b≠X.env.locals/\(∀x c,X.env.cells.lookup x=some c->c≠b)/\∀p∈X.pn++pins,p.1≠b)
  (keep:∀b o,b≠X.env.locals->b∉X.fs->b∉ch->s.heap.get? b=some o->H b=none->h'.get? b=some o)
  (slot:∀b o,b≠X.env.locals->b∈X.fs->b∉ch->s.heap.get? b=some o->H b=none->∃sl,h'.get? b=some { o with slots:=sl }) (free:∀b o,b∉ch->s.heap.get? b=some o->H b=none->H' b=none)
  (there:∀b o,b∉ch->s.heap.get? b=some o->∃o',h'.get? b=some o')
  (kG:∀b xs,H b=some (.tup xs)->H' b=some (.tup xs)) (jP:∀b o u,H b=some (.cI o u)->H' b=some (.cI o u)) (kH:∀b ps,H b=some (.e7 ps)->∃more,H' b=some (.e7 (ps++more)))
  (ns:∀m,s.heap.Ns X.env.locals m->h'.Ns X.env.locals m) (aL:cX X.prog X.w H' h') (hg:AllBare g') :
  Inv X pins σ H' { s with heap:=h',gens:=g',drawn:=d',toks:=t' }:=by
 have LO:∀b o,X.dh.heap.get? b=some o->b≠X.env.locals:=λb o e=>Nat.ne_of_lt (Nat.lt_of_lt_of_le (Heap.lt_size e) I.ok.above);have wK:∀b o,X.dh.heap.get? b=some o->b∉X.ex->b∉ch:=λb o e hx hb=>by
  rcases(kJ b hb).1 with z | z
  ·exact hx z
  ·exact absurd (Nat.lt_of_lt_of_le (Heap.lt_size e) z) (Nat.lt_irrefl _)
 have cellK:∀x c,X.env.cells.lookup x=some c->∀v,s.heap.IsCell c v->h'.IsCell c v:=λx c e v ⟨o,ho,hd⟩=>by
  have sM:c∉ch:=λz=>(kJ c z).2.2.1 x c e rfl;by_cases hc:c∈X.fs
  ·obtain⟨sl,q⟩:=slot c o (I.oH x c e) hc sM ho (I.ju x c e);exact⟨_,q,hd⟩
  ·exact⟨o,keep c o (I.oH x c e) hc sM ho (I.ju x c e),hd⟩
 refine⟨I.ok,I.os,hg,⟨λb o e n hb hx=>?_,λb o e n hb hx=>?_,λb o e n hx=>?_,λb o e hx=>?_,λb xs e=>kG b xs (I.base.kG b xs e),λb o xs e=>jP b o xs (I.base.jP b o xs e),λb ps e=>?_⟩,?_,λx c e=>?_,?_,λx c e=>?_,λp hp=>?_,aL,I.len⟩
 ·exact keep b o (LO b o e) hb (wK b o e hx) (I.base.keep b o e n hb hx) (I.base.free b o e n hx)
 ·obtain⟨sl,e1⟩:=I.base.slot b o e n hb hx;obtain⟨XU,e2⟩:=slot b _ (LO b o e) hb (wK b o e hx) e1 (I.base.free b o e n hx);exact⟨XU,e2⟩
 ·obtain⟨o',e1⟩:=I.base.there b o e hx;exact free b o' (wK b o e hx) e1 (I.base.free b o e n hx)
 ·obtain⟨o',e1⟩:=I.base.there b o e hx;exact there b o' (wK b o e hx) e1
 ·obtain⟨m1,e1⟩:=I.base.kH b ps e;obtain⟨m2,e2⟩:=kH b _ e1;exact⟨m1++m2,by rw[e2,Array.append_assoc]⟩
 ·obtain⟨m,hn,hl⟩:=I.loc;refine⟨m,ns m hn,λi x v e1 e2 e3=>?_⟩;obtain⟨u,r,l⟩:=hl i x v e1 e2 e3;refine⟨u,r,?_⟩;rcases l with l | ⟨k,c,e,z⟩
  ·exact .inl l
  ·exact .inr ⟨k,c,e,cellK x c e _ z⟩
 ·obtain⟨v,z⟩:=I.cell x c e;exact⟨v,cellK x c e v z⟩
 ·obtain⟨m,⟨o,_,_,ho,_⟩,_⟩:=I.loc;exact free _ o (λz=>(kJ _ z).2.1 rfl) ho I.free
 ·obtain⟨v,o,ho,hd⟩:=I.cell x c e;exact free c o (λz=>(kJ c z).2.2.1 x c e rfl) ho (I.ju x c e)
 ·obtain⟨e,n,ne,nf,d⟩:=I.pin p hp;have sM:p.1∉ch:=λz=>(kJ p.1 z).2.2.2 p hp rfl;exact⟨keep p.1 p.2 ne nf sM e n,free p.1 p.2 sM e n,ne,nf,d⟩
theorem Inv.un{t':Nat}(I:Inv X pins σ H s)(u:Un X.fs [] H H' s.heap h')(aL:cX X.prog X.w H' h'):Inv X pins σ H' { s with heap:=h',toks:=t' }:=by
 obtain⟨m,⟨o,es,ep,ho,r⟩,_⟩:=id I.loc;obtain⟨sl,hL⟩:=u.any ho I.free (by simp)
 exact I.step (g':=s.gens) (d':=s.drawn) (ch:=[]) (λ_ z=>nomatch z) (λb o _ hb _ e n=>u.keep b o e n hb (by simp)) (λb o _ hb _ e n=>u.slot b o e n hb (by simp)) (λb o _ e n=>u.free b o e n (by simp)) (λb o _ e=>u.there b o e (by simp)) u.kG u.jP u.kH (λm' hm=>by
  obtain⟨o',Dz,DA,lP,r'⟩:=hm;rw[ho] at lP;cases lP;exact⟨_,Dz,DA,hL,r'⟩) aL I.bare
theorem Inv.call{g':Array GenState}{t':Nat}{d':Drawn}{ch:List Addr}(I:Inv X pins σ H s)(u:Un (gT X.stack) ch H H' s.heap h')(aL:cX X.prog X.w H' h')(hg:AllBare g')
  (kJ:∀b∈ch,(b∈X.ex\/X.dh.heap.objs.size<=b)/\b≠X.env.locals/\(∀x c,X.env.cells.lookup x=some c->c≠b)/\∀p∈X.pn++pins,p.1≠b) :
  Inv X pins σ H' { s with heap:=h',gens:=g',drawn:=d',toks:=t' }:=by
 obtain⟨m,⟨o,es,ep,ho,r⟩,_⟩:=id I.loc;obtain⟨sl,hL⟩:=u.any ho I.free λz=>(kJ _ z).2.1 rfl;exact I.step (ch:=ch) kJ (λb o hL hb hc e n=>u.keep b o e n (λz=>(List.mem_cons.mp (I.Dw b z)).elim hL hb) hc) (λb o _ _ hc e n=>u.any e n hc) (λb o hc e n=>u.free b o e n hc) (λb o hc e=>u.there b o e hc) u.kG u.jP u.kH (λm' hm=>by
  obtain⟨o',Dz,DA,lP,r'⟩:=hm;rw[ho] at lP;cases lP;exact⟨_,Dz,DA,hL,r'⟩) aL hg
theorem Inv.turned{t':Nat}{it:Addr}(I:Inv X pins σ H s)(k:∀b o,b≠it->s.heap.get? b=some o->h'.get? b=some o)(hn:H it=none)(hL:it≠X.env.locals)
  (h1:it∈X.ex\/X.dh.heap.objs.size<=it) (h2:∀x c,X.env.cells.lookup x=some c->c≠it) (h3:∀p∈X.pn++pins,p.1≠it):Inv X pins σ H { s with heap:=h',toks:=t' }:=by
 have sN:∀b u,H b=some u->b≠it:=λb u e z=>by rw[z,hn] at e;cases e
 refine I.step (g':=s.gens) (d':=s.drawn) (ch:=[it]) (λb hb=>?_) (λb o _ _ hc e _=>k b o (λz=>hc (by simp[z])) e) (λb o _ _ hc e _=>⟨o.slots,k b o (λz=>hc (by simp[z])) e⟩) (λ_ _ _ _ n=>n)
  (λb o hc e=>⟨o,k b o (λz=>hc (by simp[z])) e⟩) (λ_ _ e=>e) (λ_ _ _ e=>e) (λb ps e=>⟨#[],by rw[e];simp⟩) (λm hm=>?_) (λb u e=>?_) I.bare
 ·have e:b=it:=by simpa using hb
  subst e;exact⟨h1,hL,h2,h3⟩
 ·obtain⟨o,es,ep,ho,r⟩:=hm;exact⟨o,es,ep,k _ o (Ne.symm hL) ho,r⟩
 ·refine(I.aL b u e).iy (λc v hc q=>k c v ?_ q) (λ_ q=>q) λ_ _ q=>q;rcases hc with z | z
  ·rw[z];exact sN b u e
  ·exact sN c _ z
theorem Inv.tok(I:Inv X pins σ H s)(t:Nat):Inv X pins σ H { s with toks:=t }:=I.un (h':=s.heap) (t':=t) Un.refl I.aL
theorem Inv.kept{t':Nat}(I:Inv X pins σ H s)(k:∀b u,s.heap.get? b=some u->h'.get? b=some u):Inv X pins σ H { s with heap:=h',toks:=t' }:=I.un (Un.kept k) (I.aL.kept k)
theorem Inv.laid{a:Addr}{o:HO}{t':Nat}(I:Inv X pins σ H s)(k:∀b u,s.heap.get? b=some u->h'.get? b=some u)(hp:s.heap.objs.size<=a)(new:dB X.prog X.w (upd H a o) h' a o) :
  Inv X pins σ (upd H a o) { s with heap:=h',toks:=t' }:=I.un (Un.laid k hp (I.aL.fresh hp)) (I.aL.laid k hp new)
theorem Inv.write{x e:Addr}{o:HO}{t':Nat}(I:Inv X pins σ H s)(mu:sy (H x))(he:e=x\/H e=some (.own x))(k:∀b u,b≠e->s.heap.get? b=some u->h'.get? b=some u)(qh:∃u,h'.get? e=some u)
  (new:dB X.prog X.w (upd H x o) h' x o):Inv X pins σ (upd H x o) { s with heap:=h',toks:=t' }:=I.un (Un.write mu he k qh) (I.aL.write mu he k qh new)
theorem Inv.kK{fB:List (Addr×Obj)}(I:Inv X pins σ H s)(h:∀p∈fB,s.heap.get? p.1=some p.2/\H p.1=none/\p.1≠X.env.locals/\p.1∉X.fs/\∀v,p.2.data≠.cell v):Inv X fB σ H s :=
 ⟨I.ok,I.os,I.bare,I.base,I.loc,I.cell,I.free,I.ju,λp hp=>(List.mem_append.mp hp).elim (λz=>I.pin p (List.mem_append_left _ z)) (h p),I.aL,I.len⟩
theorem LQ{N:List Str}(hN:N.Nodup){i j:Nat}{x:Str}(a:N[i]? = some x)(b:N[j]? = some x):i=j:=by
 obtain⟨h1,e1⟩:=List.getElem?_eq_some_iff.mp a;obtain⟨h2,e2⟩:=List.getElem?_eq_some_iff.mp b;exact(List.getElem_inj hN).mp (e1.trans e2.symm)
theorem LR{M:Model}{A:Around}{E:Value->Shared->Prop}{i:Nat}{x:Str}{v:V}{u:Value}{Q:Unit->Shared->Prop}(I:Inv X pins σ H s)(hN:X.N.Nodup)(hi:X.N[i]? = some x)(hx:Loc X.env.scope x)(r:RelV v u)
  (h:∀s',Inv X pins (σ.set i (some v)) H s'->(∃a,Heap.SameBut a s.heap s'.heap/\(a=X.env.locals\/X.env.cells.lookup x=some a))->Q () s') (hf:X.fn x=true\/X.env.scope.names.lookup x=some .local:=by first | exact .inl rfl | exact .inr rfl | assumption):wpAny M A (storeName X.env x u) Q E s:=by
 obtain⟨m,hn,hl⟩:=id I.loc;have XW:(X.env.scope.kind == .class || (X.env.scope.kind == .module && X.env.locals != X.env.globals))=false:=by rw[I.ok.kind];rfl
 have LS:i<σ.length:=by rw[I.len];exact(List.getElem?_eq_some_iff.mp hi).1
 have oH:=I.oH;have tracked:∀ {a:Addr} {h':Heap},(∃o,s.heap.get? a=some o/\H a=none)->Heap.SameBut a s.heap h'->cX X.prog X.w H h':=λ{a h'} ha hs b ob e=>by
  obtain⟨_,_,LU⟩:=ha;refine(I.aL b ob e).iy (λc w' hc q=>(hs.2 c ?_).trans q) (λ_ q=>q) λ_ _ q=>q;rintro rfl;rcases hc with rfl | hc
  ·rw[LU] at e;cases e
  ·rw[LU] at hc;cases hc
 rcases hx with hk | hk
 ·refine wpAny_storeName_local hk hn (λh' XX hs=>?_) XW;obtain⟨oL,_,_,XY,_⟩:=id hn;refine h _ ⟨I.ok,I.os,I.bare,⟨λb o e n hb hx=>?_,λb o e n hb hx=>?_,I.base.free,λb o e hx=>?_,I.base.kG,I.base.jP,I.base.kH⟩,⟨_,XX,λj y v' e1 e2 e3=>?_⟩,λy c e=>?_,I.free,I.ju,λp hp=>?_,tracked ⟨oL,XY,I.free⟩ hs,by simpa using I.len⟩ ⟨_,hs,.inl rfl⟩
  ·exact(hs.2 b (Nat.ne_of_lt (Nat.lt_of_lt_of_le (Heap.lt_size e) I.ok.above))).trans (I.base.keep b o e n hb hx)
  ·obtain⟨sl,e1⟩:=I.base.slot b o e n hb hx;exact⟨sl,(hs.2 b (Nat.ne_of_lt (Nat.lt_of_lt_of_le (Heap.lt_size e) I.ok.above))).trans e1⟩
  ·obtain⟨o',e1⟩:=I.base.there b o e hx;exact⟨o',(hs.2 b (Nat.ne_of_lt (Nat.lt_of_lt_of_le (Heap.lt_size e) I.ok.above))).trans e1⟩
  ·by_cases hj:j=i
   ·subst hj;rw[hi] at e1;cases e1;rw[List.getElem?_set_self LS] at e2;cases e2;exact⟨u,r,.inl ⟨hk,by simp⟩⟩
   ·rw[List.getElem?_set_ne (Ne.symm hj)] at e2;obtain⟨u',r',q⟩:=hl j y v' e1 e2 e3;refine⟨u',r',?_⟩;rcases q with⟨k,e⟩ | ⟨k,c,e,z⟩
    ·refine .inl ⟨k,?_⟩;have:y≠x:=λe=>hj (LQ hN e1 (e▸hi));simp[this,e]
    ·exact .inr ⟨k,c,e,z.sameBut hs (oH y c e)⟩
  ·obtain⟨w',z⟩:=I.cell y c e;exact⟨w',z.sameBut hs (oH y c e)⟩
  ·obtain⟨e,n,ne,nf,d⟩:=I.pin p hp;exact⟨(hs.2 p.1 ne).trans e,n,ne,nf,d⟩
 ·have DB:X.fn x=true:=by
   rcases hf with z | z
   ·exact z
   ·rw[z] at hk;cases hk
  obtain⟨c,hc⟩:=I.ok.has x (.inl hk);obtain⟨w',z⟩:=I.cell x c hc;refine wpAny_storeName_cell I.ok.kind hk hc z (λh' wL hs=>?_);obtain⟨oc,oJ,XZ⟩:=id z;refine h { s with heap:=h' } ⟨I.ok,I.os,I.bare,⟨λb o e n hb hx=>?_,λb o e n hb hx=>?_,I.base.free,λb o e hx=>?_,I.base.kG,I.base.jP,I.base.kH⟩,⟨m,hn.sameBut hs (Ne.symm (oH x c hc)),λj y v' e1 e2 e3=>?_⟩,λy c' e=>?_,I.free,I.ju,λp hp=>?_,tracked ⟨oc,oJ,I.ju x c hc⟩ hs,by simpa using I.len⟩ ⟨c,hs,.inr hc⟩
  ·exact(hs.2 b (Nat.ne_of_lt (Nat.lt_of_lt_of_le (Heap.lt_size e) (I.ok.qi x c DB hc)))).trans (I.base.keep b o e n hb hx)
  ·obtain⟨sl,e1⟩:=I.base.slot b o e n hb hx;exact⟨sl,(hs.2 b (Nat.ne_of_lt (Nat.lt_of_lt_of_le (Heap.lt_size e) (I.ok.qi x c DB hc)))).trans e1⟩
  ·obtain⟨o',e1⟩:=I.base.there b o e hx;exact⟨o',(hs.2 b (Nat.ne_of_lt (Nat.lt_of_lt_of_le (Heap.lt_size e) (I.ok.qi x c DB hc)))).trans e1⟩
  ·by_cases hj:j=i
   ·subst hj;rw[hi] at e1;cases e1;rw[List.getElem?_set_self LS] at e2;cases e2;exact⟨u,r,.inr ⟨.inl hk,c,hc,wL⟩⟩
   ·rw[List.getElem?_set_ne (Ne.symm hj)] at e2;obtain⟨u',r',q⟩:=hl j y v' e1 e2 e3;refine⟨u',r',?_⟩;rcases q with q | ⟨k,c',e,z'⟩
    ·exact .inl q
    ·refine .inr ⟨k,c',e,z'.sameBut hs ?_⟩;rintro rfl;exact hj (LQ hN e1 (I.ok.inj _ _ _ e hc▸hi))
  ·by_cases wM:c' = c
   ·subst wM;exact⟨_,wL⟩
   ·obtain⟨w2,z2⟩:=I.cell y c' e;exact⟨w2,z2.sameBut hs wM⟩
  ·obtain⟨e,n,ne,nf,d⟩:=I.pin p hp;refine⟨(hs.2 p.1 ?_).trans e,n,ne,nf,d⟩;intro q;rw[q,oJ] at e;have q':oc=p.2:=Option.some.inj e;exact d w' (by rw[← q'];exact XZ)
theorem LV{M:Model}{A:Around}{E:Value->Shared->Prop}{i:Nat}{x:Str}{v:V}{u:Value}{Q:Unit->Shared->Prop}(I:Inv X pins σ H s)(hN:X.N.Nodup)(hi:X.N[i]? = some x)(hx:Loc X.env.scope x)(r:RelV v u)
  (h:∀s',Inv X pins (σ.set i (some v)) H s'->Q () s') (hf:X.fn x=true\/X.env.scope.names.lookup x=some .local:=by first | exact .inl rfl | exact .inr rfl | assumption):wpAny M A (storeName X.env x u) Q E s :=
 LR I hN hi hx r (λs' I' _=>h s' I') hf
theorem Inv.LW{s':Shared}{ch:List Addr}(I:Inv X pins σ H s)(ho:s'.os=s.os)(u:Un (gT X.stack) ch H H' s.heap s'.heap)(aL:cX X.prog X.w H' s'.heap)(hg:AllBare s'.gens)
  (kJ:∀b∈ch,(b∈X.ex\/X.dh.heap.objs.size<=b)/\b≠X.env.locals/\(∀x c,X.env.cells.lookup x=some c->c≠b)/\∀p∈X.pn++pins,p.1≠b):Inv X pins σ H' s':=by
 obtain⟨h',g',d',t',o'⟩:=s';have e:o' = s.os:=ho;subst e;exact I.call (g':=g') (t':=t') (d':=d') u aL hg kJ
end
noncomputable abbrev XK:=Value->Option Addr->Hp->Prop
noncomputable abbrev St:=List (Option V)
noncomputable abbrev VK:=V->Hp->Prop
noncomputable abbrev TE:=St->Hp->VK->Prop
noncomputable abbrev TT:=St->Hp->(Bool->Hp->Prop)->Prop
noncomputable abbrev TA:=St->Hp->(List V->Hp->Prop)->Prop
structure Ends where
 nx:St->Hp->Prop
 rt:VK
 bk:St->Hp->Prop:=λ_ _=>False
 ct:St->Hp->Prop:=λ_ _=>False
noncomputable abbrev TS:=Ends->St->Hp->Prop
noncomputable def EP(X:Cx)(pins:List (Addr×Obj))(σ:St)(Q:VK)(u:Value)(s':Shared):Prop:=∃v H',Inv X pins σ H' s'/\RelV v u/\Q v H'
noncomputable def TP(X:Cx)(pins:List (Addr×Obj))(σ:St)(Q:Bool->Hp->Prop)(b:Bool)(s':Shared):Prop:=∃H',Inv X pins σ H' s'/\Q b H'
noncomputable def AP(X:Cx)(pins:List (Addr×Obj))(σ:St)(Q:List V->Hp->Prop)(us:List Value)(s':Shared):Prop:=∃vs H',Inv X pins σ H' s'/\Vals vs us/\Q vs H'
noncomputable def SP(X:Cx)(pins:List (Addr×Obj))(D:Ends)(f:Flow)(s':Shared):Prop :=
 match f with
 | .next=>∃bz H',Inv X pins bz H' s'/\D.nx bz H'
 | .brk=>∃bz H',Inv X pins bz H' s'/\D.bk bz H'
 | .cont=>∃bz H',Inv X pins bz H' s'/\D.ct bz H'
 | .ret u=>∃v bz H',Inv X pins bz H' s'/\RelV v u/\D.rt v H'
noncomputable def PE(X:Cx)(e:Expr)(t:TE):Prop :=
 ∀(pins:List (Addr×Obj)) (s:Shared) (σ:St) (H:Hp) (Q:VK),Inv X pins σ H s->t σ H Q->wpAny (model X.prog X.w) X.A (eval e X.env) (EP X pins σ Q) X.xe s
noncomputable def PT(X:Cx)(e:Expr)(t:TT):Prop :=
 ∀(pins:List (Addr×Obj)) (s:Shared) (σ:St) (H:Hp) (Q:Bool->Hp->Prop),Inv X pins σ H s->t σ H Q->wpAny (model X.prog X.w) X.A (isTrue e X.env (eval e X.env)) (TP X pins σ Q) X.xe s
noncomputable def PW(X:Cx)(e:Expr)(t:TT):Prop :=
 ∀(whole:Sem Value) (pins:List (Addr×Obj)) (s:Shared) (σ:St) (H:Hp) (Q:Bool->Hp->Prop),Inv X pins σ H s->t σ H Q->wpAny (model X.prog X.w) X.A (isTrue e X.env whole) (TP X pins σ Q) X.xe s
theorem PW.pt{X:Cx}{e:Expr}{t:TT}(h:PW X e t):PT X e t:=h _
noncomputable def PA(X:Cx)(es:List Expr)(t:TA):Prop :=
 ∀(pos:Pos) (pins:List (Addr×Obj)) (s:Shared) (σ:St) (H:Hp) (Q:List V->Hp->Prop),Inv X pins σ H s->t σ H Q->wpAny (model X.prog X.w) X.A (spliced (backTo pos (starEach es X.env))) (AP X pins σ Q) X.xe s
noncomputable def PS(X:Cx)(st:Stmt)(t:TS):Prop :=
 ∀(pins:List (Addr×Obj)) (s:Shared) (σ:St) (H:Hp) (D:Ends),Inv X pins σ H s->t D σ H->wpAny (model X.prog X.w) X.A (exec st X.env) (SP X pins D) X.xe s
noncomputable def gz(X:Cx)(st:List Stmt)(t:TS):Prop :=
 ∀(pins:List (Addr×Obj)) (s:Shared) (σ:St) (H:Hp) (D:Ends),Inv X pins σ H s->t D σ H->wpAny (model X.prog X.w) X.A (execs st X.env) (SP X pins D) X.xe s
theorem aM{α:Type}{t:Sem α}{Q Q':α->Shared->Prop}{M:Model}{A:Around}{E:Value->Shared->Prop}{s:Shared}(h:wpAny M A t Q E s)(hQ:∀a s,Q a s->Q' a s):wpAny M A t Q' E s:=wpAny_mono h hQ λ_ _ x=>x
section
variable{X:Cx}
noncomputable def LX(i:Nat):TE:=λσ H Q=>∃v,σ[i]? = some (some v)/\Q v H
noncomputable def tC(v:V):TE:=λ_ H Q=>Q v H
theorem X0{i:Nat}{x:Str}{pos:Pos}(hN:X.N[i]? = some x)(hv:Du X.env.scope x)(hd:(x == ("__debug__" : Str))=false:=by decide)(gm:(x == ("__classdict__" : Str))=false:=by decide):PE X (.Name x pos) (LX i):=by
 intro pins s σ H Q I h;obtain⟨v,e,h⟩:=h;obtain⟨m,hn,hl⟩:=I.loc;obtain⟨u,r,l⟩:=hl i x v hN e hv;have fin:EP X pins σ Q u s:=⟨v,H,I,r,h⟩;rcases l with⟨hk,hm⟩ | ⟨hk,c,hc,LY⟩
 ·exact wpAny_Name (wpAny_loadName_local I.ok.kind hk hn hm fin) hd
 ·rcases hk with hk | hk
  ·exact wpAny_Name (wpAny_loadName_cell I.ok.kind hk hc LY fin) hd
  ·exact wpAny_Name (wpAny_loadName_free I.ok.kind hk hc LY fin gm) hd
theorem aF{i j pos}:PE X (.Constant (.int i) j pos) (tC (.int i)):=λ_ _ _ H _ I h=>wpAny_Constant_int ⟨.int i,H,I.tok _,⟨_,rfl⟩,h⟩
theorem iA{b j pos}:PE X (.Constant (.bool b) j pos) (tC (.bl b)):=λ_ _ _ H _ I h=>Constant_bool ⟨.bl b,H,I,rfl,h⟩
theorem oK{j pos}:PE X (.Constant .none j pos) (tC .aN):=λ_ _ _ H _ I h=>Constant_none ⟨.aN,H,I,rfl,h⟩
theorem fD{x j pos}:PE X (.Constant (.str x) j pos) (tC (.str x)):=λ_ _ _ H _ I h=>Calls.Constant_str ⟨.str x,H,I.tok _,⟨_,rfl⟩,h⟩
noncomputable def Gl(X:Cx)(x:Str):Prop:=X.env.kindOf x=some .globalImplicit
theorem qm{E:Value->Shared->Prop}{pins:List (Addr×Obj)}{s:Shared}{σ:St}{H:Hp}{x:Str}{u:Value}{pos:Pos}{Q:Value->Shared->Prop}(I:Inv X pins σ H s)(hg:Gl X x)(hm:X.mg x=some u)(h:Q u s)
  (hd:(x == ("__debug__" : Str))=false:=by decide):wpAny (model X.prog X.w) X.A (eval (.Name x pos) X.env) Q E s :=
 Calls.Name_function_global I.ok.kind hg (Calls.loadGlobal_global (by rw[I.ok.glob];exact I.mod.glob.keeps I.bk) hm h) hd
theorem jQ{E:Value->Shared->Prop}{pins:List (Addr×Obj)}{s:Shared}{σ:St}{H:Hp}{x:Str}{u:Value}{pos:Pos}{Q:Value->Shared->Prop}(I:Inv X pins σ H s)(hg:Gl X x)(hm:X.mg x=none)(hv:bootBuiltins x=some u)(h:Q u s)
  (hn:x≠"__name__" := by decide) (hd:(x == ("__debug__" : Str))=false:=by decide):wpAny (model X.prog X.w) X.A (eval (.Name x pos) X.env) Q E s:=by
 obtain⟨mb,h1,h2⟩:=I.mod.blt;exact Calls.Name_function_global I.ok.kind hg (Calls.loadGlobal_builtin (by rw[I.ok.glob];exact I.mod.glob.keeps I.bk) hm (by rw[I.ok.blt];exact h1.keeps I.bk) ((h2 x hn).trans hv) h) hd
theorem gA{x:Str}{v:V}{u:Value}{pos:Pos}(hg:Gl X x)(hm:X.mg x=some u)(r:RelV v u)(hd:(x == ("__debug__" : Str))=false:=by decide):PE X (.Name x pos) (tC v) :=
 λ_ _ _ H _ I h=>qm I hg hm ⟨v,H,I,r,h⟩ hd
theorem wN{x:Str}{v:V}{u:Value}{pos:Pos}(hg:Gl X x)(hm:X.mg x=none)(hv:bootBuiltins x=some u)(r:RelV v u)(hn:x≠"__name__" := by decide)(hd:(x == ("__debug__" : Str))=false:=by decide):PE X (.Name x pos) (tC v) :=
 λ_ _ _ H _ I h=>jQ I hg hm hv ⟨v,H,I,r,h⟩ hn hd
variable{a b:Expr}{ta tb:TE}{pos:Pos}
noncomputable def PC(X:Cx)(op:CmpOp)(a b:Expr)(t:TE):Prop :=
 ∀(pins:List (Addr×Obj)) (s:Shared) (σ:St) (H:Hp) (Q:VK),Inv X pins σ H s->t σ H Q->
  wpAny (model X.prog X.w) X.A (eval a X.env) (λv bg=>wpAny (model X.prog X.w) X.A (eval b X.env) (λu jR=>wpAny (model X.prog X.w) X.A (compareOp op v u) (EP X pins σ Q) X.xe jR) X.xe bg) X.xe s
theorem LZ(b:Expr){op:CmpOp}(h:op≠.In)(h2:op≠.NotIn):behindInMarks op b=false:=by
 have e1:(op == CmpOp.In)=false:=by cases op <;> first | rfl | exact absurd rfl h
 have e2:(op == CmpOp.NotIn)=false:=by cases op <;> first | rfl | exact absurd rfl h2
 cases b <;> simp[behindInMarks,e1,e2]
noncomputable def tB(t:TE):TT:=λσ H Q=>t σ H λx H1=>∃c,x = .bl c/\Q c H1
theorem L0{op:CmpOp}{t:TE}(h:PC X op a b t)(h1:behindInMarks op b=false:=by first | exact LZ _ (by decide) (by decide) | rfl):PE X (.Compare a [op] [b] pos) t:=λpins s σ H Q I hw=>wpAny_Compare1 (h pins s σ H Q I hw) h1
theorem X3{op:CmpOp}{t:TE}(h:PC X op a b t)(h1:behindInMarks op b=false:=by first | exact LZ _ (by decide) (by decide) | rfl):PT X (.Compare a [op] [b] pos) (tB t):=by
 intro pins s σ H Q I hw;refine wpAny_isTrue_Compare1 (aM (h pins s σ H _ I hw) λv s1 h1=>aM h1 λu s2 h2=>aM h2 λc s3 ⟨x,H1,I1,r1,q1⟩=>?_) h1;obtain⟨d,rfl,q⟩:=q1;cases r1;exact wpAny_truthy_bool ⟨H1,I1,q⟩
theorem jv{e:Expr}{t:TE}(h:PE X e t)(he:∀whole,isTrue e X.env whole=(do let v ← whole;standAt e.pos;holding [v] (truthy v)):=by intro _;rfl):PT X e (tB t):=by
 intro pins s σ H Q I hw;refine isTrue_plain (aM (h pins s σ H _ I hw) λv s1 ⟨x,H1,I1,r1,q1⟩=>?_) (he _);obtain⟨d,rfl,q⟩:=q1;cases r1;exact wpAny_truthy_bool ⟨H1,I1,q⟩
variable{tA wO:TT}{rest:List Expr}
noncomputable def X4(t u:TT):TT:=λσ H Q=>t σ H λc H1=>if c=true then u σ H1 Q else Q false H1
noncomputable def X5(t u:TT):TT:=λσ H Q=>t σ H λc H1=>if c=true then Q true H1 else u σ H1 Q
noncomputable def X6(t:TT):TT:=λσ H Q=>t σ H λc H1=>Q (!c) H1
theorem L3(ha:PT X a tA):PW X (.BoolOp .And [a] pos) tA:=by
 intro wh pins s σ H Q I h;refine isTrue_and (aM (ha pins s σ H Q I h) λc s1 e=>?_);cases c with
 | true=>exact isTrue_and_nil e
 | false=>exact e
theorem gU(ha:PT X a tA):PW X (.BoolOp .Or [a] pos) tA:=by
 intro wh pins s σ H Q I h;refine isTrue_or (aM (ha pins s σ H Q I h) λc s1 e=>?_);cases c with
 | false=>exact isTrue_or_nil e
 | true=>exact e
theorem L4(ha:PT X a tA)(hb:PW X (.BoolOp .And (b::rest) pos) wO):PW X (.BoolOp .And (a::b::rest) pos) (X4 tA wO):=by
 intro wh pins s σ H Q I h;refine isTrue_and (aM (ha pins s σ H _ I h) λc s1 ⟨H1,I1,q1⟩=>?_);cases c with
 | true=>exact hb wh pins s1 σ H1 Q I1 q1
 | false=>exact⟨H1,I1,q1⟩
theorem gn(ha:PT X a tA)(hb:PW X (.BoolOp .Or (b::rest) pos) wO):PW X (.BoolOp .Or (a::b::rest) pos) (X5 tA wO):=by
 intro wh pins s σ H Q I h;refine isTrue_or (aM (ha pins s σ H _ I h) λc s1 ⟨H1,I1,q1⟩=>?_);cases c with
 | true=>exact⟨H1,I1,q1⟩
 | false=>exact hb wh pins s1 σ H1 Q I1 q1
theorem jw(ha:PT X a tA):PT X (.UnaryOp .Not a pos) (X6 tA):=by
 intro pins s σ H Q I h;exact isTrue_not (ha pins s σ H (λc H1=>Q (!c) H1) I h)
noncomputable def X7(ta tb:TE):TE:=λσ H Q=>ta σ H λx H1=>∃c,x = .bl c/\if c=true then tb σ H1 Q else Q (.bl false) H1
noncomputable def aj8(ta tb:TE):TE:=λσ H Q=>ta σ H λx H1=>∃c,x = .bl c/\if c=true then Q (.bl true) H1 else tb σ H1 Q
noncomputable def X8(ta:TE):TE:=λσ H Q=>ta σ H λx H1=>∃c,x = .bl c/\Q (.bl (!c)) H1
theorem wQ{op}{t:TE}(h:PE X a t):PE X (.BoolOp op [a] pos) t:=λpins s σ H Q I hw=>BoolOp_one (h pins s σ H Q I hw)
theorem wR(ha:PE X a ta)(hb:PE X (.BoolOp .And (b::rest) pos) tb):PE X (.BoolOp .And (a::b::rest) pos) (X7 ta tb):=by
 intro pins s σ H Q I h;refine BoolOp_and (aM (ha pins s σ H _ I h) λv s1 ⟨x,H1,I1,r1,q1⟩=>?_);obtain⟨c,rfl,q1⟩:=q1;cases r1;refine wpAny_truthy_bool ?_;cases c with
 | true=>exact hb pins s1 σ H1 Q I1 q1
 | false=>exact⟨.bl false,H1,I1,rfl,q1⟩
theorem X_(ha:PE X a ta):PE X (.UnaryOp .Not a pos) (X8 ta):=by
 intro pins s σ H Q I h;refine UnaryOp_ (aM (ha pins s σ H _ I h) λv s1 ⟨x,H1,I1,r1,q1⟩=>?_);obtain⟨c,rfl,q1⟩:=q1;cases r1;exact not_of (wpAny_truthy_bool ⟨.bl (!c),H1,I1,rfl,q1⟩)
noncomputable def Yb(t:TT)(ta tb:TE):TE:=λσ H Q=>t σ H λc H1=>if c=true then ta σ H1 Q else tb σ H1 Q
theorem L5{c:Expr}(hc:PT X c tA)(ha:PE X a ta)(hb:PE X b tb):PE X (.IfExp c a b pos) (Yb tA ta tb):=by
 intro pins s σ H Q I h;refine wpAny_IfExp (aM (hc pins s σ H _ I h) λd s1 ⟨H1,I1,q1⟩=>?_);cases d with
 | true=>exact ha pins s1 σ H1 Q I1 q1
 | false=>exact hb pins s1 σ H1 Q I1 q1
end
noncomputable def aE(K:PySem.W.Frag)(H:Hp)(a:Addr)(xs:List V):Prop :=
 Rd H a (.lst xs)\/
  ∃(o:Obj) (aC:Array Value) (n:Nat),K.lookup a=some o/\o.cls = .type "list"/\o.dict=none/\o.data = .seq aC n/\aC.size<=sizeLine/\Vals xs aC.toList
noncomputable def bE(K:PySem.W.Frag)(H:Hp)(a:Addr)(xs:List V):Prop :=
 Rd H a (.tup xs)\/
  ∃(o:Obj) (aC:Array Value) (n:Nat),K.lookup a=some o/\o.cls = .type "tuple"/\o.data = .seq aC n/\aC.size<=sizeLine/\Vals xs aC.toList
noncomputable def Yc:Value->Option V
 | .none=>some .aN
 | .bool b=>some (.bl b)
 | .int i _=>some (.int i)
 | .str x _=>some (.str x)
 | .bytes b _=>some (.iL b)
 | .float b _=>some (.oF b)
 | .ref a=>some (.ref a)
 | .type n=>some (.ty n)
 | _=>none
theorem RelV.abs{x:V}{u:Value}(r:RelV x u):Yc u=some x:=by
 cases x with
 | aN=>cases r;rfl
 | bl _=>cases r;rfl
 | int _=>obtain⟨t,rfl⟩:=r;rfl
 | str _=>obtain⟨t,rfl⟩:=r;rfl
 | iL _=>obtain⟨t,rfl⟩:=r;rfl
 | oF _=>obtain⟨t,rfl⟩:=r;rfl
 | ref _=>cases r;rfl
 | ty _=>cases r;rfl
theorem RelV.inj{x y:V}{u:Value}(r:RelV x u)(q:RelV y u):x=y:=Option.some.inj (r.abs.symm.trans q.abs)
theorem Vals.inj:∀ {xs ys:List V} {us:List Value},Vals xs us->Vals ys us->xs=ys
 | _,_,_,.nil,.nil=>rfl
 | _,_,_,.cons r t,.cons r' t'=>by rw[r.inj r',Vals.inj t t']
section
variable{X:Cx}{pins:List (Addr×Obj)}{σ:St}{H:Hp}{s:Shared}{a:Addr}{xs ys:List V}
theorem aE.of{K:PySem.W.Frag}(h:H a=some (.lst xs)):aE K H a xs:=.inl (.inl h)
theorem bE.of{K:PySem.W.Frag}(h:H a=some (.tup xs)):bE K H a xs:=.inl (.inl h)
theorem Inv.list(I:Inv X pins σ H s)(h:aE X.K H a xs):∃aC:List Value,Vals xs aC/\PlainL s.heap a aC.toArray/\xs.length<=sizeLine:=by
 rcases h with h | ⟨o,aC,n,hk,hc,hd,hs,hz,r⟩
 ·obtain⟨z,aC,n,r,e⟩:=h.ok I.aL;exact⟨aC,r,⟨_,n,e,rfl,rfl,rfl⟩,z⟩
 ·refine⟨aC.toList,r,⟨o,n,I.cK a o hk,hc,hd,by simpa using hs⟩,?_⟩
  have e:=r.length;simp only[Array.length_toList] at e;lia
theorem Inv.tuple(I:Inv X pins σ H s)(h:bE X.K H a xs):∃aC:List Value,Vals xs aC/\IsTup s.heap a aC.toArray/\xs.length<=sizeLine:=by
 rcases h with h | ⟨o,aC,n,hk,hc,hs,hz,r⟩
 ·obtain⟨z,aC,r,p⟩:=h.ok I.aL;exact⟨aC,r,p,z⟩
 ·refine⟨aC.toList,r,⟨o,I.cK a o hk,hc,n,by simpa using hs⟩,?_⟩
  have e:=r.length;simp only[Array.length_toList] at e;lia
theorem Inv.L6(I:Inv X pins σ H s)(h:aE X.K H a xs)(h':aE X.K H a ys):xs=ys:=by
 obtain⟨aC,r,⟨o,n,e,_,_,d⟩,_⟩:=I.list h;obtain⟨its',r',⟨o',n',e',_,_,d'⟩,_⟩:=I.list h';rw[e] at e';cases e';rw[d] at d';injection d' with d1 _;have:aC=its':=by simpa using congrArg Array.toList d1
 subst this;exact r.inj r'
theorem Inv.Yd(I:Inv X pins σ H s)(h:bE X.K H a xs)(h':bE X.K H a ys):xs=ys:=by
 obtain⟨aC,r,⟨o,e,_,n,d⟩,_⟩:=I.tuple h;obtain⟨its',r',⟨o',e',_,n',d'⟩,_⟩:=I.tuple h';rw[e] at e';cases e';rw[d] at d';injection d' with d1 _;have:aC=its':=by simpa using congrArg Array.toList d1
 subst this;exact r.inj r'
end
noncomputable abbrev Cx.jS(X:Cx)(E:Value->Shared->Prop):Cx:={ X with xe:=E }
noncomputable abbrev Cx.mS(X:Cx):Cx:=X.jS λ_ _=>False
theorem Cx.Ok.jS{X:Cx}(ok:X.Ok)(E:Value->Shared->Prop):(X.jS E).Ok :=
 ⟨ok.mod,ok.kind,ok.glob,ok.blt,ok.above,ok.inj,ok.has,ok.qi,ok.hd,ok.frames,ok.sH,ok.sI,ok.bs,ok.jt,ok.qj,ok.qk,ok.iZ,ok.mR⟩
theorem Cx.Ok.mT{X:Cx}{E:Value->Shared->Prop}(ok:(X.jS E).Ok):X.Ok :=
 ⟨ok.mod,ok.kind,ok.glob,ok.blt,ok.above,ok.inj,ok.has,ok.qi,ok.hd,ok.frames,ok.sH,ok.sI,ok.bs,ok.jt,ok.qj,ok.qk,ok.iZ,ok.mR⟩
section
variable{X:Cx}{pins:List (Addr×Obj)}{σ:St}{H:Hp}{s:Shared}{E:Value->Shared->Prop}
theorem Inv.jS(I:Inv X pins σ H s)(E:Value->Shared->Prop):Inv (X.jS E) pins σ H s:=⟨I.ok.jS E,I.os,I.bare,I.base,I.loc,I.cell,I.free,I.ju,I.pin,I.aL,I.len⟩
theorem Inv.mT(I:Inv (X.jS E) pins σ H s):Inv X pins σ H s:=⟨I.ok.mT,I.os,I.bare,I.base,I.loc,I.cell,I.free,I.ju,I.pin,I.aL,I.len⟩
theorem SP.mT{D:Ends}{f:Flow}{s':Shared}(h:SP (X.jS E) pins D f s'):SP X pins D f s':=by
 cases f with
 | next=>obtain⟨bz,H',I,q⟩:=h;exact⟨bz,H',I.mT,q⟩
 | brk=>obtain⟨bz,H',I,q⟩:=h;exact⟨bz,H',I.mT,q⟩
 | cont=>obtain⟨bz,H',I,q⟩:=h;exact⟨bz,H',I.mT,q⟩
 | ret u=>obtain⟨v,bz,H',I,r,q⟩:=h;exact⟨v,bz,H',I.mT,r,q⟩
theorem gz.mS{st:List Stmt}{t:TS}(h:gz X.mS st t):gz X st t:=λpins s σ H D I hw =>
 wpAny_mono (h pins s σ H D (I.jS _) hw) (λ_ _ q=>q.mT) λ_ _ z=>False.elim z
end
section
variable{X:Cx}{st:Stmt}{rest:List Stmt}{t u:TS}{e:Expr}{te:TE}{pos:Pos}
noncomputable def Ye:TS:=λD σ H=>D.nx σ H
noncomputable def L8(t u:TS):TS:=λD σ H=>t { D with nx:=u D } σ H
theorem cE:gz X [] Ye:=λ_ _ σ H _ I h=>wpAny_execs_nil ⟨σ,H,I,h⟩
theorem aH(h1:PS X st t)(h2:gz X rest u):gz X (st::rest) (L8 t u):=by
 intro pins s σ H D I h;refine wpAny_execs_cons (aM (h1 pins s σ H { D with nx:=u D } I h) λf s1 q=>?_);cases f with
 | next =>
  obtain⟨bz,H',I',q⟩:=q;exact h2 pins s1 bz H' D I' q
 | ret v=>exact q
 | brk=>exact q
 | cont=>exact q
theorem aK(h1:PS X st t):gz X [st] t:=by
 intro pins s σ H D I h;refine wpAny_execs_cons (aM (h1 pins s σ H D I h) λf s1 q=>?_);cases f with
 | next=>exact wpAny_execs_nil q
 | ret v=>exact q
 | brk=>exact q
 | cont=>exact q
theorem Inv.quiet{pins:List (Addr×Obj)}{σ:St}{H:Hp}{s:Shared}(I:Inv X pins σ H s):interactive X.env=false:=by simp[interactive,I.ok.kind]
noncomputable def Yg(te:TE):TS:=λD σ H=>te σ H λ_ H1=>D.nx σ H1
theorem dI(he:PE X e te)(hs:swapsWith e none pos.line X.env=pure false:=by rfl):PS X (.Expr e pos) (Yg te):=by
 intro pins s σ H D I h;exact wpAny_Expr_any (aM (he pins s σ H _ I h) λv s1 ⟨x,H1,I1,r1,q1⟩=>⟨σ,H1,I1,q1⟩) I.quiet hs
noncomputable def Yh(te:TE):TS:=λD σ H=>te σ H D.rt
theorem bD(he:PE X e te):PS X (.Return (some e) pos) (Yh te):=by
 intro pins s σ H D I h;exact wpAny_Return_some (aM (he pins s σ H _ I h) λv s1 ⟨x,H1,I1,r1,q1⟩=>⟨x,σ,H1,I1,r1,q1⟩)
noncomputable def aj9:TS:=λD _ H=>D.rt .aN H
noncomputable def Yi(c:TT)(t u:TS):TS:=λD σ H=>c σ H λb H1=>if b=true then t D σ H1 else u D σ H1
theorem cy{c:Expr}{a b:List Stmt}{tc:TT}(hc:PT X c tc)(ha:gz X a t)(hb:gz X b u):PS X (.If c a b pos) (Yi tc t u):=by
 intro pins s σ H D I h;refine wpAny_If (aM (hc pins s σ H _ I h) λd s1 ⟨H1,I1,q1⟩=>?_);cases d with
 | true=>exact ha pins s1 σ H1 D I1 q1
 | false=>exact hb pins s1 σ H1 D I1 q1
noncomputable def Yj:TS:=λ_ _ _=>False
theorem e8{oM:List Stmt}:gz X oM Yj:=λ_ _ _ _ _ _ h=>h.elim
end
noncomputable abbrev TG:=V->St->Hp->(St->Hp->Prop)->Prop
noncomputable abbrev mU:=List V->St->Hp->(St->Hp->Prop)->Prop
noncomputable def PG(X:Cx)(target:Expr)(t:TG):Prop :=
 ∀(pins:List (Addr×Obj)) (s:Shared) (σ:St) (H:Hp) (v:V) (u:Value) (Q:St->Hp->Prop),Inv X pins σ H s->RelV v u->t v σ H Q->
  wpAny (model X.prog X.w) X.A (assign target X.env u) (λ_ s'=>∃bz H',Inv X pins bz H' s'/\Q bz H') X.xe s
noncomputable def qo(X:Cx)(ts:List Expr)(t:mU):Prop :=
 ∀(pins:List (Addr×Obj)) (s:Shared) (σ:St) (H:Hp) (vs:List V) (us:List Value) (Q:St->Hp->Prop),Inv X pins σ H s->Vals vs us->t vs σ H Q->
  wpAny (model X.prog X.w) X.A (assignInOrder ((assignEach ts X.env).map (·.2)) us) (λ_ s'=>∃bz H',Inv X pins bz H' s'/\Q bz H') X.xe s
noncomputable abbrev DC:=V->V->V->Hp->(Hp->Prop)->Prop
noncomputable def L_(X:Cx)(t:DC):Prop :=
 ∀(pins:List (Addr×Obj)) (s:Shared) (σ:St) (H:Hp) (o i v:V) (ov iv u:Value) (Q:Hp->Prop),Inv X pins σ H s->RelV o ov->RelV i iv->RelV v u->t o i v H Q->
  wpAny (model X.prog X.w) X.A (setItem ov iv u) (λ_ s'=>∃H',Inv X pins σ H' s'/\Q H') X.xe s
section
variable{X:Cx}{pos:Pos}
noncomputable def mV(i:Nat):TG:=λv σ H Q=>Q (σ.set i (some v)) H
theorem bH{i:Nat}{x:Str}(hN:X.N.Nodup)(hi:X.N[i]? = some x)(hx:Loc X.env.scope x)(hf:X.fn x=true\/X.env.scope.names.lookup x=some .local:=by first | exact .inl rfl | exact .inr rfl | assumption):PG X (.Name x pos) (mV i):=by
 intro pins s σ H v u Q I r h;exact wpAny_assign_Name (LV I hN hi hx r (λs' I'=>⟨_,H,I',h⟩) hf)
noncomputable def Ma:mU:=λvs σ H Q=>vs = []/\Q σ H
noncomputable def DE(t:TG)(u:mU):mU:=λvs σ H Q=>∃v r,vs=v::r/\t v σ H λbz H'=>u r bz H' Q
theorem jx:qo X [] Ma:=by
 intro pins s σ H vs us Q I r h;obtain⟨e,h⟩:=h;subst e;cases r;exact assignInOrder_nil ⟨σ,H,I,h⟩
theorem dJ{e:Expr}{es:List Expr}{t:TG}{u:mU}(h1:PG X e t)(h2:qo X es u)
  (hs:(assignEach (e::es) X.env).map (·.2)=assign e X.env::(assignEach es X.env).map (·.2):=by rfl):qo X (e::es) (DE t u):=by
 intro pins s σ H vs us Q I r h;obtain⟨v,vr,e1,h⟩:=h;subst e1;cases r with
 | cons r rr =>
  rw[hs];refine assignInOrder_cons (aM (h1 pins s σ H _ _ _ I r h) λ_ s1 ⟨eN,H1,I1,q1⟩=>?_);exact h2 pins s1 eN H1 _ _ Q I1 rr q1
noncomputable def DF(K:PySem.W.Frag)(n:Nat)(t:mU):TG:=λv σ H Q=>∃a xs,v = .ref a/\bE K H a xs/\xs.length=n/\t xs σ H Q
theorem jy{es:List Expr}{k:Nat}{t:mU}{n:Nat}(hc:X.calm=true)(h:qo X es t)
  (hn:(assignEach es X.env).length=n:=by rfl) (gW:(assignEach es X.env).findIdx? (·.1)=none:=by rfl):PG X (.Tuple es k pos) (DF X.K n t):=by
 intro pins s σ H v u Q I r hw;obtain⟨a,xs,e1,hq,hl,hw⟩:=hw;subst e1;cases r;obtain⟨aC,rv,ht,hz⟩:=I.tuple hq;refine assign_Tuple_tuple (I.ok.hd hc) ht (by simp[hn,← hl,rv.length]) gW λh' hx=>?_
 have I1:Inv X pins σ H { s with heap:=h' }:=I.kept (t':=s.toks) λb o e=>hx b o (Nat.ne_of_lt (Heap.lt_size e)) e;exact h pins _ σ H xs _ Q I1 (by simpa using rv) hw
noncomputable def Yk(to ti:TE)(t:DC):TG:=λv σ H Q=>to σ H λo H1=>ti σ H1 λi H2=>t o i v H2 λH3=>Q σ H3
theorem Mb{o i:Expr}{to ti:TE}{t:DC}(ho:PE X o to)(hi:PE X i ti)(hs:L_ X t)
  (ha:∀v,assign (.Subscript o i pos) X.env v=(do
   let ov ← holding [v] (eval o X.env)
   let iv ← holding [v,ov] (eval i X.env)
   standAt pos
   holding [v,ov,iv] (setItem ov iv v)
   release [v,ov,iv] []):=by intro _;rfl):PG X (.Subscript o i pos) (Yk to ti t):=by
 intro pins s σ H v u Q I r h;rw[ha];refine wpAny_bind (wpAny_holding (aM (ho pins s σ H _ I h) λov s1 ⟨x,H1,I1,r1,q1⟩=>?_));refine wpAny_bind (wpAny_holding (aM (hi pins s1 σ H1 _ I1 q1) λiv s2 ⟨y,H2,I2,r2,q2⟩=>?_));refine wpAny_bind (wpAny_standAt (wpAny_bind (wpAny_holding (aM (hs pins s2 σ H2 x y v ov iv u _ I2 r1 r2 r q2) λ_ s3 ⟨H3,I3,q3⟩=>?_))));exact wpAny_release ⟨σ,H3,I3,q3⟩
noncomputable def wU(te:TE)(g:TG):TS:=λD σ H=>te σ H λx H1=>g x σ H1 D.nx
theorem Mc{tg e:Expr}{te:TE}{g:TG}(he:PE X e te)(hg:PG X tg g)(hs:swapsWithSole [tg] e pos.line X.env=pure false:=by rfl)(hw:swappedStores [tg] e X.env=pure none:=by rfl)
  (h1:(assignEach [tg] X.env).map (·.2) = [assign tg X.env]:=by rfl):PS X (.Assign [tg] e pos) (wU te g):=by
 intro pins s σ H D I h;refine wpAny_Assign_stores (aM (he pins s σ H _ I h) λv s1 ⟨x,H1,I1,r1,q1⟩=>?_) hs hw;rw[h1];exact aM (hg pins s1 σ H1 x v _ I1 r1 q1) λ_ s2 q=>q
theorem bI{i:Nat}{x:Str}{e:Expr}{te:TE}{pos':Pos}(hN:X.N.Nodup)(hi:X.N[i]? = some x)(hx:Loc X.env.scope x)(he:PE X e te)(hs:swapsWith e (some (.Name x pos')) pos.line X.env=pure false:=by rfl)(hf:X.fn x=true\/X.env.scope.names.lookup x=some .local:=by first | exact .inl rfl | exact .inr rfl | assumption) :
  PS X (.Assign [.Name x pos'] e pos) (wU te (mV i)):=by
 intro pins s σ H D I h;refine wpAny_Assign_Name (aM (he pins s σ H _ I h) λv s1 ⟨y,H1,I1,r1,q1⟩=>?_) hs;exact LV I1 hN hi hx r1 (λs2 I2=>⟨_,H1,I2,q1⟩) hf
end
section
variable{X:Cx}{pos:Pos}
noncomputable def DG(c:TT)(tb:TS):TS:=λD σ H=>∃W:Nat->St->Hp->Prop,(∃m,W m σ H)/\∀m σ H,W m σ H->
 c σ H λb H1=>if b=true then ∃N:St->Hp->Prop,(∀bz H',N bz H'->∃m',m' < m/\W m' bz H')/\tb { D with nx:=N,ct:=N,bk:=D.nx } σ H1 else D.nx σ H1
theorem Yl{c:Expr}{body:List Stmt}{tc:TT}{tb:TS}(hp:PassesOwn (model X.prog X.w) X.A X.env X.xe)(hc:PT X c tc)(hb:gz X body tb):PS X (.While c body [] pos) (DG tc tb):=by
 intro pins s σ H D I h;obtain⟨W,⟨m0,w0⟩,turn⟩:=h;refine wpAny_While (codeAny_whileLoop (λn s'=>∃bz H',Inv X pins bz H' s'/\W n bz H') ?_ m0 ⟨σ,H,I,w0⟩);rintro n s1 ⟨eN,H1,I1,w1⟩;refine wpAny_passesOwn hp (aM (hc pins s1 eN H1 _ I1 (turn n eN H1 w1)) λb s2 ⟨H2,I2,q2⟩=>?_);cases b with
 | true =>
  obtain⟨N,hN,q2⟩:=q2;rw[if_pos rfl];refine wpAny_passesOwn hp (aM (hb pins s2 eN H2 _ I2 q2) λf s3 q3=>?_);cases f with
  | next =>
   obtain⟨gX,H3,I3,n3⟩:=q3;obtain⟨m',hm,w3⟩:=hN gX H3 n3;exact⟨m',hm,gX,H3,I3,w3⟩
  | cont =>
   obtain⟨gX,H3,I3,n3⟩:=q3;obtain⟨m',hm,w3⟩:=hN gX H3 n3;exact⟨m',hm,gX,H3,I3,w3⟩
  | brk=>exact q3
  | ret v=>exact q3
 | false =>
  rw[if_neg Bool.false_ne_true];exact wpAny_execs_nil ⟨eN,H2,I2,q2⟩
end
structure It where
 go:Nat->Hp->Prop
 kL:Nat->Hp->V->Hp->Prop
 stop:Nat->Hp->Prop
noncomputable def kM(X:Cx)(pins:List (Addr×Obj))(H:Hp)(b:Addr):Prop :=
 H b=none/\b≠X.env.locals/\b∉X.fs/\(b∈X.ex\/X.dh.heap.objs.size<=b)/\(∀x c,X.env.cells.lookup x=some c->c≠b)/\∀p∈X.pn++pins,p.1≠b
theorem Inv.lQ{X:Cx}{pins:List (Addr×Obj)}{σ:St}{H H':Hp}{s:Shared}{b:Addr}(I:Inv X pins σ H s)(hb:s.heap.objs.size<=b)(hn:H' b=none):kM X pins H' b:=by
 refine⟨hn,Nat.ne_of_gt (Nat.lt_of_lt_of_le I.lt hb),I.sJ hb,.inr (Nat.le_trans I.sz hb),λx c e z=>?_,λp hp z=>?_⟩
 ·obtain⟨v,q⟩:=I.cell x c e;exact absurd (Nat.lt_of_lt_of_le q.lt (by rw[z];exact hb)) (Nat.lt_irrefl _)
 ·exact absurd (Nat.lt_of_lt_of_le (Heap.lt_size (I.pin p hp).1) (by rw[z];exact hb)) (Nat.lt_irrefl _)
structure Turn(P:Program)(w:World)(K:PySem.W.Frag)(tg:Expr)(J:It)(fp:List Addr)(it:Addr)(tn:Nat->Heap->Prop):Prop where
 mem:it∈fp
 obj:∀i h,tn i h->∀b∈fp,∃o,h.get? b=some o/\∀v,o.data≠.cell v
 keep:∀i h h',tn i h->(∀b∈fp,∀o,h.get? b=some o->h'.get? b=some o)->tn i h'
 item:∀(X:Cx),X.prog=P->X.w=w->X.K=K->X.calm=true->∀(i:Nat) (pins:List (Addr×Obj)) (s:Shared) (σ:St) (H:Hp) (E:Value->Shared->Prop),Inv X pins σ H s->(∀b∈fp,kM X pins H b)->tn i s.heap->J.go i H->
  wpAny (model P w) X.A (pyNext (.ref it)) (λr s1=>∃u,r=some u/\
   wpAny (model P w) X.A (letOwnedTupleGo tg (.ref it) u) (λ_ s2=>∃x H',Inv X pins σ H' s2/\RelV x u/\J.kL i H x H'/\tn (i+1) s2.heap/\∀b∈fp,H' b=none) E s1) E s
 done:∀(X:Cx),X.prog=P->X.w=w->X.K=K->X.calm=true->∀(i:Nat) (pins:List (Addr×Obj)) (s:Shared) (σ:St) (H:Hp) (E:Value->Shared->Prop),Inv X pins σ H s->(∀b∈fp,kM X pins H b)->tn i s.heap->J.stop i H->
  wpAny (model P w) X.A (pyNext (.ref it)) (λr s1=>r=none/\Inv X pins σ H s1) E s
 self:∀(A:Around) (i:Nat) (s:Shared) (Q:Value->Shared->Prop) (E:Value->Shared->Prop),tn i s.heap->Q (.ref it) s->wpAny (model P w) A (pyIter (.ref it)) Q E s
noncomputable abbrev TI:=St->Hp->(It->Hp->Prop)->Prop
noncomputable def Me(X:Cx)(pins:List (Addr×Obj))(σ:St)(tg:Expr)(R:It->Hp->Prop)(wV:Value)(s2:Shared):Prop :=
 ∃(it:Addr) (fp:List Addr) (tn:Nat->Heap->Prop) (J:It) (H':Hp),wV = .ref it/\Inv X pins σ H' s2/\Turn X.prog X.w X.K tg J fp it tn/\tn 0 s2.heap/\(∀b∈fp,kM X pins H' b)/\R J H'
noncomputable def PI(X:Cx)(tg iter:Expr)(wi:TI):Prop :=
 ∀(pins:List (Addr×Obj)) (s:Shared) (σ:St) (H:Hp) (R:It->Hp->Prop),Inv X pins σ H s->wi σ H R->
  wpAny (model X.prog X.w) X.A (eval iter X.env) (λv s1=>wpAny (model X.prog X.w) X.A (pyIter v) (Me X pins σ tg R) X.xe s1) X.xe s
theorem sO{M:Model}{A:Around}{E:Value->Shared->Prop}{s:Shared}{tg:Expr}{it:Addr}{u:Value}{o:Obj}{n:String}{vs:Array Value}{Q:Unit->Shared->Prop}(ho:s.heap.get? it=some o)(hc:o.cls = .type n)(hd:o.data = .fields vs)
  (hn:["enumerate", "zip", "dict_itemiterator", "dict_reverseitemiterator", "odict_iterator", "itertools.zip_longest", "itertools.pairwise"].contains n=false) (hQ:Q () s):wpAny M A (letOwnedTupleGo tg (.ref it) u) Q E s:=by
 unfold letOwnedTupleGo;cases tg <;> first
  | exact wpAny_pure hQ
  | (cases u <;> first
    | exact wpAny_pure hQ
    | (refine wpAny_bind (wpAny_load ho ?_)
       rw[hc,hd]
       show wpAny M A (if (["enumerate", "zip", "dict_itemiterator", "dict_reverseitemiterator", "odict_iterator", "itertools.zip_longest", "itertools.pairwise"].contains n && vs[0]? == some (rawInt _))=true then _ else _) Q E s
       rw[if_neg (by intro h;rw[hn,Bool.false_and] at h;cases h)]
       exact wpAny_pure hQ))
noncomputable def sQ(K:PySem.W.Frag)(a:Addr):It :=
 ⟨λi H=>∃xs x,aE K H a xs/\xs[i]? = some x,λi H x H'=>H' = H/\∀xs,aE K H a xs->xs[i]? = some x,λi H=>∃xs,aE K H a xs/\xs.length<=i⟩
noncomputable def sS(K:PySem.W.Frag)(a:Addr):It :=
 ⟨λi H=>∃xs x,bE K H a xs/\xs[i]? = some x,λi H x H'=>H' = H/\∀xs,bE K H a xs->xs[i]? = some x,λi H=>∃xs,bE K H a xs/\xs.length<=i⟩
noncomputable def kN(lo:Int)(n:Nat):It:=⟨λi _=>i<n,λi H x H'=>H' = H/\x = .int (lo+i),λi _=>n<=i⟩
theorem Ym{P:Program}{w:World}{K:PySem.W.Frag}{tg:Expr}(a it:Addr):Turn P w K tg (sQ K a) [it] it (λi h=>h.IsListIter it a i) where
 mem:=by simp
 obj:=λi h st b hb=>by
  have e:b=it:=by simpa using hb
  subst e;obtain⟨o,e,c,d⟩:=st;exact⟨o,e,λv z=>by rw[d] at z;cases z⟩
 keep:=λi h h' st k=>st.at λo e=>k it (by simp) o e
 item:=by
  intro X hP hw hK hc i pins s σ H E I hf st hg;subst hP hw hK;obtain⟨xs,x,hq,hx⟩:=hg;obtain⟨aC,rv,p,hz⟩:=I.list hq;obtain⟨u,hu,ru⟩:=rv.get hx;obtain⟨f0,f1,f2,f3,f4,f5⟩:=hf it (by simp)
  refine wpAny_pyNext_list_item st p.isList (x:=u) (by simpa using hu) λh' cA sb=>?_
  have I1:Inv X pins σ H { s with heap:=h' }:=I.turned (t':=s.toks) (λb o hb e=>(sb.2 b hb).trans e) f0 f1 f3 f4 f5;obtain⟨o,e,c,d⟩:=id cA;exact⟨u,rfl,sO (s:={ s with heap:=h' }) e c d (by decide) ⟨x,H,I1,ru,⟨rfl,λys hy=>by rw[I.L6 hy hq];exact hx⟩,cA,λb hb=>(hf b hb).1⟩⟩
 done:=by
  intro X hP hw hK hc i pins s σ H E I hf st hg;subst hP hw hK;obtain⟨xs,hq,hx⟩:=hg;obtain⟨aC,rv,p,hz⟩:=I.list hq;obtain⟨f0,f1,f2,f3,f4,f5⟩:=hf it (by simp)
  have hl:=rv.length;exact wpAny_pyNext_list_end (I.ok.hd hc) st p.isList (by simp;lia) λh' eb=>⟨rfl,I.turned (t':=s.toks) (λb o hb e=>eb b o hb e) f0 f1 f3 f4 f5⟩
 self:=λ_ _ _ _ _ st h=>wpAny_pyIter_listiter st h
theorem Yn{P:Program}{w:World}{K:PySem.W.Frag}{tg:Expr}(a it:Addr):Turn P w K tg (sS K a) [it] it (λi h=>h.IsTupleIter it a i) where
 mem:=by simp
 obj:=λi h st b hb=>by
  have e:b=it:=by simpa using hb
  subst e;obtain⟨o,e,c,d⟩:=st;exact⟨o,e,λv z=>by rw[d] at z;cases z⟩
 keep:=λi h h' st k=>st.at λo e=>k it (by simp) o e
 item:=by
  intro X hP hw hK hc i pins s σ H E I hf st hg;subst hP hw hK;obtain⟨xs,x,hq,hx⟩:=hg;obtain⟨aC,rv,p,hz⟩:=I.tuple hq;obtain⟨u,hu,ru⟩:=rv.get hx;obtain⟨f0,f1,f2,f3,f4,f5⟩:=hf it (by simp)
  refine wpAny_pyNext_tuple_item st (show s.heap.IsTuple a aC.toArray from p) (x:=u) (by simpa using hu) λh' cA sb=>?_
  have I1:Inv X pins σ H { s with heap:=h' }:=I.turned (t':=s.toks) (λb o hb e=>(sb.2 b hb).trans e) f0 f1 f3 f4 f5;obtain⟨o,e,c,d⟩:=id cA;exact⟨u,rfl,sO (s:={ s with heap:=h' }) e c d (by decide) ⟨x,H,I1,ru,⟨rfl,λys hy=>by rw[I.Yd hy hq];exact hx⟩,cA,λb hb=>(hf b hb).1⟩⟩
 done:=by
  intro X hP hw hK hc i pins s σ H E I hf st hg;subst hP hw hK;obtain⟨xs,hq,hx⟩:=hg;obtain⟨aC,rv,p,hz⟩:=I.tuple hq;obtain⟨f0,f1,f2,f3,f4,f5⟩:=hf it (by simp)
  have hl:=rv.length;exact wpAny_pyNext_tuple_end (I.ok.hd hc) st (show s.heap.IsTuple a aC.toArray from p) (by simp;lia) λh' eb=>⟨rfl,I.turned (t':=s.toks) (λb o hb e=>eb b o hb e) f0 f1 f3 f4 f5⟩
 self:=λ_ _ _ _ _ st h=>wpAny_pyIter_tupleiter st h
theorem Yo{P:Program}{w:World}{K:PySem.W.Frag}{tg:Expr}(it:Addr)(lo:Int)(n:Nat):Turn P w K tg (kN lo n) [it] it (λi h=>IsRangeIter h it (lo+(i:Nat)*1) ((n:Int) - (i:Nat)) 1) where
 mem:=by simp
 obj:=λi h st b hb=>by
  have e:b=it:=by simpa using hb
  subst e;exact⟨_,st,λv z=>by
   have z':Data.fields _=Data.cell v:=z;cases z'⟩
 keep:=λi h h' st k=>k it (by simp) _ st
 item:=by
  intro X hP hw hK hc i pins s σ H E I hf st hg;subst hP hw hK;obtain⟨f0,f1,f2,f3,f4,f5⟩:=hf it (by simp)
  have W:=Walks.range (prog:=X.prog) (w:=X.w) (I.ok.hd hc) it lo 1 n;refine W.item i s _ _ hg st λv h' tk hv cA kk=>?_;obtain⟨t,rfl⟩:=hv;have I1:Inv X pins σ H { s with heap:=h',toks:=tk }:=I.turned (λb o hb e=>kk b o (by simpa using hb) e) f0 f1 f3 f4 f5
  refine⟨_,rfl,sO (s:={ s with heap:=h',toks:=tk }) (n := "range_iterator") cA rfl rfl (by decide) ⟨.int (lo+i),H,I1,⟨t,?_⟩,⟨rfl,rfl⟩,cA,λb hb=>(hf b hb).1⟩⟩
  rw[Int.mul_one]
 done:=by
  intro X hP hw hK hc i pins s σ H E I hf st hg;subst hP hw hK;obtain⟨f0,f1,f2,f3,f4,f5⟩:=hf it (by simp)
  exact wpAny_pyNext_range_end (I.ok.hd hc) st (by have:n<=i:=hg;lia) λh' eb=>⟨rfl,I.turned (t':=s.toks) (λb o hb e=>eb b o hb e) f0 f1 f3 f4 f5⟩
 self:=λ_ _ _ _ _ st h=>wpAny_pyIter_rangeiter st h
section
variable{X:Cx}{tg:Expr}
noncomputable def oN(K:PySem.W.Frag)(tl:TE):TI:=λσ H R=>tl σ H λx H1=>∃a,x = .ref a/\(∃xs,aE K H1 a xs)/\R (sQ K a) H1
noncomputable def DH(K:PySem.W.Frag)(tl:TE):TI:=λσ H R=>tl σ H λx H1=>∃a,x = .ref a/\(∃xs,bE K H1 a xs)/\R (sS K a) H1
theorem fE{l:Expr}{tl:TE}(hl:PE X l tl):PI X tg l (oN X.K tl):=by
 intro pins s σ H R I h;refine aM (hl pins s σ H _ I h) λv s1 ⟨x,H1,I1,r1,q1⟩=>?_;obtain⟨a,e,⟨xs,hq⟩,q⟩:=q1;subst e;cases r1;obtain⟨aC,rv,p,hz⟩:=I1.list hq;refine wpAny_pyIter_list p.isList ?_;refine⟨s1.heap.objs.size,[s1.heap.objs.size],_,_,H1,rfl,I1.kept (t':=s1.toks) λb o e=>Heap.get?_push_of_some _ e,Ym a _,⟨_,Heap.get?_push_size _ rfl,rfl,rfl⟩,λb hb=>?_,q⟩;have e:b=s1.heap.objs.size:=by simpa using hb
 subst e;exact I1.lQ (Nat.le_refl _) (I1.aL.fresh (Nat.le_refl _))
theorem DI{l:Expr}{tl:TE}(hl:PE X l tl):PI X tg l (DH X.K tl):=by
 intro pins s σ H R I h;refine aM (hl pins s σ H _ I h) λv s1 ⟨x,H1,I1,r1,q1⟩=>?_;obtain⟨a,e,⟨xs,hq⟩,q⟩:=q1;subst e;cases r1;obtain⟨aC,rv,p,hz⟩:=I1.tuple hq;refine wpAny_pyIter_tuple (show s1.heap.IsTuple a aC.toArray from p) ?_;refine⟨s1.heap.objs.size,[s1.heap.objs.size],_,_,H1,rfl,I1.kept (t':=s1.toks) λb o e=>Heap.get?_push_of_some _ e,Yn a _,⟨_,Heap.get?_push_size _ rfl,rfl,rfl⟩,λb hb=>?_,q⟩;have e:b=s1.heap.objs.size:=by simpa using hb
 subst e;exact I1.lQ (Nat.le_refl _) (I1.aL.fresh (Nat.le_refl _))
theorem Mf{pins:List (Addr×Obj)}{σ:St}{H:Hp}{s:Shared}{R:It->Hp->Prop}{E:Value->Shared->Prop}{lo hi:Int}{t u v:Tok}{tk:Nat}(I:Inv X pins σ H s)(h1 : -(2 ^ 62)<=lo)(h2:lo<2 ^ 62)(h3 : -(2 ^ 62)<=hi)(h4:hi<2 ^ 62)
  (q:R (kN lo (hi - lo).toNat) H):wpAny (model X.prog X.w) X.A (pyIter (.ref s.heap.objs.size)) (Me X pins σ tg R) E { s with heap:=s.heap.push { cls:=.type "range",data:=.fields #[.int lo t,.int hi u,.int 1 v] },toks:=tk }:=by
 refine wpAny_pyIter_range (IsRange.new ..) (small_one h1 h2 h3 h4) ?_;have I1:Inv X pins σ H { s with heap:=s.heap.push { cls:=.type "range",data:=.fields #[.int lo t,.int hi u,.int 1 v] },toks:=tk }:=I.kept λb o e=>Heap.get?_push_of_some _ e;refine⟨(s.heap.push { cls:=.type "range",data:=.fields #[.int lo t,.int hi u,.int 1 v] }).objs.size,[(s.heap.push { cls:=.type "range",data:=.fields #[.int lo t,.int hi u,.int 1 v] }).objs.size],_,_,H,rfl,
  I1.kept (t':=tk) λb o e=>Heap.get?_push_of_some _ e,Yo _ lo (hi - lo).toNat,?_,λb hb=>?_,q⟩
 ·have e1:lo+((0:Nat):Int)*1=lo:=by simp
  have e2:(((hi - lo).toNat:Nat):Int) - ((0:Nat):Int)=Builtin.Range.rangeSize lo hi 1:=by rw[rangeSize_one];split <;> lia
  show IsRangeIter _ _ (lo+((0:Nat):Int)*1) ((((hi - lo).toNat:Nat):Int) - ((0:Nat):Int)) 1;rw[e1,e2];exact Heap.get?_push_size _ rfl
 ·have e:b=(s.heap.push { cls:=.type "range",data:=.fields #[.int lo t,.int hi u,.int 1 v] }).objs.size:=by simpa using hb
  subst e;exact I1.lQ (Nat.le_refl _) (I1.aL.fresh (Nat.le_refl _))
noncomputable def qp(ta:TA):TI:=λσ H R=>ta σ H λvs H1=>∃j:Int,vs = [.int j]/\-(2 ^ 62)<=j/\j<2 ^ 62/\R (kN 0 j.toNat) H1
noncomputable def sU(ta:TA):TI:=λσ H R=>ta σ H λvs H1=>∃i j:Int,vs = [.int i,.int j]/\(-(2 ^ 62)<=i/\i<2 ^ 62/\-(2 ^ 62)<=j/\j<2 ^ 62)/\R (kN i (j - i).toNat) H1
theorem mW{a:Expr}{ta:TA}{p pos:Pos}(hg:Gl X "range")(hm:X.mg "range" = none)(ha:PA X [a] ta)(hs:starEach [a] X.env = [(false,eval a X.env)]:=by rfl):PI X tg (.Call (.Name "range" p) [a] [] pos) (qp ta):=by
 intro pins s σ H R I h;refine Call_ (jQ I hg hm boot_range (PyProof.Rows.callWith_type1 (aM (ha pos pins s σ H _ I h) λus s1 ⟨vs,H1,I1,r1,q1⟩=>?_) hs rfl));obtain⟨j,e,q1,q2,q⟩:=q1;subst e;cases r1 with
 | cons r rr =>
  cases rr;obtain⟨t,rfl⟩:=r;exact call_range_1 (Mf I1 (by lia) (by lia) q1 q2 (by simpa using q))
theorem sV{a b:Expr}{ta:TA}{p pos:Pos}(hg:Gl X "range")(hm:X.mg "range" = none)(ha:PA X [a,b] ta)(hs:starEach [a,b] X.env = [(false,eval a X.env),(false,eval b X.env)]:=by rfl)(gY:starEach [b] X.env = [(false,eval b X.env)]:=by rfl) :
  PI X tg (.Call (.Name "range" p) [a,b] [] pos) (sU ta):=by
 intro pins s σ H R I h;refine Call_ (jQ I hg hm boot_range (PyProof.Rows.callWith_type1 (aM (ha pos pins s σ H _ I h) λus s1 ⟨vs,H1,I1,r1,q1⟩=>?_) (by rw[hs,gY]) (by rw[gY];rfl)))
 obtain⟨i,j,e,⟨q1,q2,q3,q4⟩,q⟩:=q1;subst e;cases r1 with
 | cons r rr =>
  cases rr with
  | cons r' rr =>
   cases rr;obtain⟨t,rfl⟩:=r;obtain⟨t',rfl⟩:=r';exact call_range_2 (Mf I1 q1 q2 q3 q4 q)
noncomputable def iM(wi:TI)(g:TG)(tb:TS):TS:=λD σ H=>wi σ H λJ H1=>∃W:Nat->Nat->St->Hp->Prop,(∃m,W 0 m σ H1)/\∀i m σ H,W i m σ H->
 (J.stop i H/\D.nx σ H)\/(J.go i H/\∃N:St->Hp->Prop,(∀bz H',N bz H'->∃m',m' < m/\W (i+1) m' bz H')/\∀x H',J.kL i H x H'->g x σ H' λaq H2=>tb { D with nx:=N,ct:=N,bk:=D.nx } aq H2)
noncomputable def sX(fp:List Addr)(h:Heap):List (Addr×Obj):=fp.filterMap λb=>(h.get? b).map λo=>(b,o)
theorem wW{fp:List Addr}{h:Heap}{b:Addr}{o:Obj}(hb:b∈fp)(e:h.get? b=some o):(b,o)∈sX fp h:=List.mem_filterMap.mpr ⟨b,hb,by rw[e];rfl⟩
theorem Yp{fp:List Addr}{h:Heap}{p:Addr×Obj}(hp:p∈sX fp h):p.1∈fp/\h.get? p.1=some p.2:=by
 obtain⟨b,hb,e⟩:=List.mem_filterMap.mp hp;cases q:h.get? b with
 | none=>rw[q] at e;cases e
 | some o =>
  rw[q] at e;have e':(b,o)=p:=Option.some.inj e;subst e';exact⟨hb,q⟩
theorem Inv.pinned{pins:List (Addr×Obj)}{σ:St}{H:Hp}{s:Shared}{fp:List Addr}(I:Inv X pins σ H s)(hf:∀b∈fp,kM X pins H b)(ho:∀b∈fp,∃o,s.heap.get? b=some o/\∀v,o.data≠.cell v):Inv X (pins++sX fp s.heap) σ H s :=
 I.kK λp hp=>(List.mem_append.mp hp).elim (λz=>I.pin p (List.mem_append_right _ z)) λz=>by
  obtain⟨hb,e⟩:=Yp z;obtain⟨f0,f1,f2,_⟩:=hf p.1 hb;obtain⟨o,e',d⟩:=ho p.1 hb;rw[e] at e';cases e';exact⟨e,f0,f1,f2,d⟩
theorem Inv.sY{pins pl:List (Addr×Obj)}{σ:St}{H:Hp}{s:Shared}(I:Inv X (pins++pl) σ H s):Inv X pins σ H s:=I.kK λp hp=>I.pin p (List.mem_append_right _ (List.mem_append_left _ hp))
theorem dY{iter:Expr}{body:List Stmt}{wi:TI}{g:TG}{tb:TS}{pos:Pos}(hp:PassesOwn (model X.prog X.w) X.A X.env X.xe)(hc:X.calm=true)(hi:PI X tg iter wi)(hg:PG X tg g)(hb:gz X body tb)
  (hs:∀x,foldedSetIterable iter X.env x=pure x:=by intro _;rfl):PS X (.For tg iter body [] pos) (iM wi g tb):=by
 intro pins s σ H D I h;refine wpAny_For (aM (hi pins s σ H _ I h) λv s1 h1=>aM h1 λwV s2 h2=>?_) hs;obtain⟨it,fp,tn,J,H2,e,I2,T,eE,f2,W,⟨m0,w0⟩,turn⟩:=h2;subst e
 -- what stays true of the iterator's objects through the loop
 have oO:∀ {H':Hp},(∀b∈fp,H' b=none)->∀b∈fp,kM X pins H' b:=λhn b hb=>⟨hn b hb,(f2 b hb).2⟩;refine codeAny_forLoop_any (λn s'=>∃i bz H',Inv X pins bz H' s'/\tn i s'.heap/\(∀b∈fp,H' b=none)/\W i n bz H') ?_ m0 ⟨0,σ,H2,I2,eE,λb hb=>(f2 b hb).1,w0⟩;rintro n s3 ⟨i,gX,H3,I3,sZ,oR,w3⟩;rcases turn i n gX H3 w3 with⟨stop,qn⟩ | ⟨go,N,hN,step⟩
 ·refine wpAny_passesOwn hp (aM (T.done X rfl rfl rfl hc i pins s3 gX H3 X.xe I3 (oO oR) sZ stop) λr s4 ⟨hr,I4⟩=>?_);subst hr;exact wpAny_execs_nil ⟨gX,H3,I4,qn⟩
 ·refine wpAny_passesOwn hp (aM (T.item X rfl rfl rfl hc i pins s3 gX H3 X.xe I3 (oO oR) sZ go) λr s4 ⟨u,hr,h4⟩=>?_);subst hr;refine wpAny_passesOwn hp (aM h4 λ_ s5 ⟨x,H5,I5,r5,y5,jT,DJ⟩=>?_);have DK:=I5.pinned (oO DJ) (T.obj _ _ jT);refine wpAny_passesOwn hp (aM (hg _ s5 gX H5 x u _ DK r5 (step x H5 y5)) λ_ s6 ⟨mX,H6,I6,q6⟩=>?_);refine wpAny_passesOwn hp (aM (hb _ s6 mX H6 _ I6 q6) λf s7 q7=>?_);have again:∀ {iN:St} {H7:Hp},Inv X (pins++sX fp s5.heap) iN H7 s7->N iN H7->∃m,m<n/\∃i bz H',Inv X pins bz H' s7/\tn i s7.heap/\(∀b∈fp,H' b=none)/\W i m bz H':=λ{iN H7} I7 n7=>by
   obtain⟨m',hm,w7⟩:=hN iN H7 n7;refine⟨m',hm,i+1,iN,H7,I7.sY,T.keep _ _ _ jT λb hb o e=>(I7.pin (b,o) (List.mem_append_right _ (List.mem_append_right _ (wW hb e)))).1,λb hb=>?_,w7⟩;obtain⟨o,e,d⟩:=T.obj _ _ jT b hb;exact(I7.pin (b,o) (List.mem_append_right _ (List.mem_append_right _ (wW hb e)))).2.1
  cases f with
  | next=>obtain⟨iN,H7,I7,n7⟩:=q7;exact again I7 n7
  | cont=>obtain⟨iN,H7,I7,n7⟩:=q7;exact again I7 n7
  | brk=>obtain⟨iN,H7,I7,q7⟩:=q7;exact⟨iN,H7,I7.sY,q7⟩
  | ret v=>obtain⟨x7,iN,H7,I7,r7,q7⟩:=q7;exact⟨x7,iN,H7,I7.sY,r7,q7⟩
end
theorem Yq{K:PySem.W.Frag}{a:Addr}{xs:List V}{g:TG}{tb:TS}{D:Ends}{σ:St}{H:Hp}(Pv:Nat->St->Hp->Prop)(h0:Pv 0 σ H)(hl:∀i σ H,i<=xs.length->Pv i σ H->aE K H a xs)
  (hs:∀i x σ H,xs[i]? = some x->Pv i σ H->g x σ H λaq H2=>tb { D with nx:=Pv (i+1),ct:=Pv (i+1),bk:=D.nx } aq H2) (hd:∀σ H,Pv xs.length σ H->D.nx σ H) :
  ∃W:Nat->Nat->St->Hp->Prop,(∃m,W 0 m σ H)/\∀i m σ H,W i m σ H->
   ((sQ K a).stop i H/\D.nx σ H)\/((sQ K a).go i H/\∃N:St->Hp->Prop,(∀bz H',N bz H'->∃m',m' < m/\W (i+1) m' bz H')/\∀x H',(sQ K a).kL i H x H'->g x σ H' λaq H2=>tb { D with nx:=N,ct:=N,bk:=D.nx } aq H2):=by
 refine⟨λi m σ H=>m=xs.length - i/\i<=xs.length/\Pv i σ H,⟨xs.length,by simp,Nat.zero_le _,h0⟩,?_⟩
 rintro i m σ H ⟨rfl,hi,p⟩;have q:=hl i σ H hi p;by_cases bT:i<xs.length
 ·refine .inr ⟨⟨xs,xs[i],q,by simp[bT]⟩,Pv (i+1),λbz H' p'=>⟨xs.length - (i+1),by lia,rfl,bT,p'⟩,λx H' y=>?_⟩
  obtain⟨e,y⟩:=y;subst e;exact hs i x σ _ (y xs q) p
 ·have e:i=xs.length:=by lia
  subst e;exact .inl ⟨⟨xs,q,Nat.le_refl _⟩,hd σ H p⟩
theorem Yr{K:PySem.W.Frag}{a:Addr}{xs:List V}{g:TG}{tb:TS}{D:Ends}{σ:St}{H:Hp}(Pv:Nat->St->Hp->Prop)(h0:Pv 0 σ H)(hl:∀i σ H,i<=xs.length->Pv i σ H->bE K H a xs)
  (hs:∀i x σ H,xs[i]? = some x->Pv i σ H->g x σ H λaq H2=>tb { D with nx:=Pv (i+1),ct:=Pv (i+1),bk:=D.nx } aq H2) (hd:∀σ H,Pv xs.length σ H->D.nx σ H) :
  ∃W:Nat->Nat->St->Hp->Prop,(∃m,W 0 m σ H)/\∀i m σ H,W i m σ H->
   ((sS K a).stop i H/\D.nx σ H)\/((sS K a).go i H/\∃N:St->Hp->Prop,(∀bz H',N bz H'->∃m',m' < m/\W (i+1) m' bz H')/\∀x H',(sS K a).kL i H x H'->g x σ H' λaq H2=>tb { D with nx:=N,ct:=N,bk:=D.nx } aq H2):=by
 refine⟨λi m σ H=>m=xs.length - i/\i<=xs.length/\Pv i σ H,⟨xs.length,by simp,Nat.zero_le _,h0⟩,?_⟩
 rintro i m σ H ⟨rfl,hi,p⟩;have q:=hl i σ H hi p;by_cases bT:i<xs.length
 ·refine .inr ⟨⟨xs,xs[i],q,by simp[bT]⟩,Pv (i+1),λbz H' p'=>⟨xs.length - (i+1),by lia,rfl,bT,p'⟩,λx H' y=>?_⟩
  obtain⟨e,y⟩:=y;subst e;exact hs i x σ _ (y xs q) p
 ·have e:i=xs.length:=by lia
  subst e;exact .inl ⟨⟨xs,q,Nat.le_refl _⟩,hd σ H p⟩
theorem DL{lo:Int}{n:Nat}{g:TG}{tb:TS}{D:Ends}{σ:St}{H:Hp}(Pv:Nat->St->Hp->Prop)(h0:Pv 0 σ H)
  (hs:∀i σ H,i<n->Pv i σ H->g (.int (lo+i)) σ H λaq H2=>tb { D with nx:=Pv (i+1),ct:=Pv (i+1),bk:=D.nx } aq H2) (hd:∀σ H,Pv n σ H->D.nx σ H) :
  ∃W:Nat->Nat->St->Hp->Prop,(∃m,W 0 m σ H)/\∀i m σ H,W i m σ H->
   ((kN lo n).stop i H/\D.nx σ H)\/((kN lo n).go i H/\∃N:St->Hp->Prop,(∀bz H',N bz H'->∃m',m' < m/\W (i+1) m' bz H')/\∀x H',(kN lo n).kL i H x H'->g x σ H' λaq H2=>tb { D with nx:=N,ct:=N,bk:=D.nx } aq H2):=by
 refine⟨λi m σ H=>m=n - i/\i<=n/\Pv i σ H,⟨n,by simp,Nat.zero_le _,h0⟩,?_⟩
 rintro i m σ H ⟨rfl,hi,p⟩;by_cases bT:i<n
 ·refine .inr ⟨bT,Pv (i+1),λbz H' p'=>⟨n - (i+1),by lia,rfl,bT,p'⟩,λx H' y=>?_⟩
  obtain⟨e,y⟩:=y;subst e y;exact hs i σ _ bT p
 ·have e:i=n:=by lia
  subst e;exact .inl ⟨Nat.le_refl _,hd σ H p⟩
noncomputable abbrev R2:=V->V->Hp->VK->Prop
noncomputable def dZ(X:Cx)(f:Value->Value->Sem Value)(r:R2):Prop :=
 ∀(pins:List (Addr×Obj)) (s:Shared) (σ:St) (H:Hp) (x y:V) (v u:Value) (Q:VK),Inv X pins σ H s->RelV x v->RelV y u->r x y H Q->
  wpAny (model X.prog X.w) X.A (f v u) (EP X pins σ Q) X.xe s
noncomputable def DM(X:Cx)(f:Value->Sem Value)(r:V->Hp->VK->Prop):Prop :=
 ∀(pins:List (Addr×Obj)) (s:Shared) (σ:St) (H:Hp) (x:V) (v:Value) (Q:VK),Inv X pins σ H s->RelV x v->r x H Q->
  wpAny (model X.prog X.w) X.A (f v) (EP X pins σ Q) X.xe s
noncomputable def iB(X:Cx)(f:Value)(r:List V->Hp->VK->Prop):Prop :=
 ∀(pins:List (Addr×Obj)) (s:Shared) (σ:St) (H:Hp) (xs:List V) (us:List Value) (Q:VK),Inv X pins σ H s->Vals xs us->r xs H Q->
  wpAny (model X.prog X.w) X.A (call f us) (EP X pins σ Q) X.xe s
noncomputable def Ys(X:Cx)(r:V->Hp->(Bool->Hp->Prop)->Prop):Prop :=
 ∀(pins:List (Addr×Obj)) (s:Shared) (σ:St) (H:Hp) (x:V) (v:Value) (Q:Bool->Hp->Prop),Inv X pins σ H s->RelV x v->r x H Q->
  wpAny (model X.prog X.w) X.A (truthy v) (TP X pins σ Q) X.xe s
noncomputable def wX(r:R2)(ta tb:TE):TE:=λσ H Q=>ta σ H λx H1=>tb σ H1 λy H2=>r x y H2 Q
noncomputable def Yt(r:V->Hp->VK->Prop)(ta:TE):TE:=λσ H Q=>ta σ H λx H1=>r x H1 Q
noncomputable def rI(C:Int->Int->Prop)(g:Int->Int->V):R2:=λx y H Q=>∃i j,x = .int i/\y = .int j/\C i j/\Q (g i j) H
noncomputable def mY(g:Int->Int->V):R2:=λx y H Q=>∃i j,x = .int i/\y = .int j/\Q (g i j) H
noncomputable def rU(g:Int->V):V->Hp->VK->Prop:=λx H Q=>∃i,x = .int i/\Q (g i) H
section
variable{X:Cx}{a b c:Expr}{ta tb tc:TE}{pos:Pos}
theorem DN(ha:PE X a ta)(hb:PE X b tb){pins:List (Addr×Obj)}{s:Shared}{σ:St}{H:Hp}{R:V->V->Hp->Prop}(I:Inv X pins σ H s)
  (h:ta σ H λx H1=>tb σ H1 λy H2=>R x y H2) {Q:Value->Shared->Prop} {f:Value->Value->Sem Value}
  (hf:∀v u s2 x y H2,Inv X pins σ H2 s2->RelV x v->RelV y u->R x y H2->wpAny (model X.prog X.w) X.A (f v u) Q X.xe s2) :
  wpAny (model X.prog X.w) X.A (eval a X.env) (λv bg=>wpAny (model X.prog X.w) X.A (eval b X.env) (λu jR=>wpAny (model X.prog X.w) X.A (f v u) Q X.xe jR) X.xe bg) X.xe s:=by
 refine aM (ha pins s σ H _ I h) λv s1 ⟨x,H1,I1,r1,q1⟩=>?_;refine aM (hb pins s1 σ H1 _ I1 q1) λu s2 ⟨y,H2,I2,r2,q2⟩=>?_;exact hf v u s2 x y H2 I2 r1 r2 q2
theorem bq{op:Operator}{r:R2}(ho:dZ X (binaryOp op) r)(ha:PE X a ta)(hb:PE X b tb):PE X (.BinOp a op b pos) (wX r ta tb):=by
 intro pins s σ H Q I h;exact wpAny_BinOp (DN ha hb I h λv u s2 x y H2 I2 rx ry q=>ho pins s2 σ H2 x y v u Q I2 rx ry q)
theorem s_{op:UnaryOp}{r:V->Hp->VK->Prop}(ho:DM X (unaryOp op) r)(ha:PE X a ta):PE X (.UnaryOp op a pos) (Yt r ta):=by
 intro pins s σ H Q I h;exact UnaryOp_ (aM (ha pins s σ H _ I h) λv s1 ⟨x,H1,I1,r1,q1⟩=>ho pins s1 σ H1 x v Q I1 r1 q1)
theorem wY{f:Value->Value->Sem Value}{C:Int->Int->Prop}{g:Int->Int->Int}
  (rule:∀(i j:Int) (t u:Tok) (s:Shared) (Q:Value->Shared->Prop) (E:Value->Shared->Prop),C i j->Q (.int (g i j) s.toks) { s with toks:=s.toks+1 }->wpAny (model X.prog X.w) X.A (f (.int i t) (.int j u)) Q E s) :
  dZ X f (rI C λi j=>.int (g i j)):=by
 intro pins s σ H x y v u Q I rx ry h;obtain⟨i,j,rfl,rfl,hc,q⟩:=h;obtain⟨t,rfl⟩:=rx;obtain⟨t',rfl⟩:=ry;exact rule i j t t' s _ _ hc ⟨.int (g i j),H,I.tok _,⟨_,rfl⟩,q⟩
theorem Mg{f:Value->Value->Sem Value}{g:Int->Int->Int}
  (rule:∀(i j:Int) (t u:Tok) (s:Shared) (Q:Value->Shared->Prop) (E:Value->Shared->Prop),Q (.int (g i j) s.toks) { s with toks:=s.toks+1 }->wpAny (model X.prog X.w) X.A (f (.int i t) (.int j u)) Q E s) :
  dZ X f (mY λi j=>.int (g i j)):=by
 intro pins s σ H x y v u Q I rx ry h;obtain⟨i,j,rfl,rfl,q⟩:=h;obtain⟨t,rfl⟩:=rx;obtain⟨t',rfl⟩:=ry;exact rule i j t t' s _ _ ⟨.int (g i j),H,I.tok _,⟨_,rfl⟩,q⟩
theorem wZ{f:Value->Value->Sem Value}{g:Int->Int->Bool}
  (rule:∀(i j:Int) (t u:Tok) (s:Shared) (Q:Value->Shared->Prop) (E:Value->Shared->Prop),Q (.bool (g i j)) s->wpAny (model X.prog X.w) X.A (f (.int i t) (.int j u)) Q E s) :
  dZ X f (mY λi j=>.bl (g i j)):=by
 intro pins s σ H x y v u Q I rx ry h;obtain⟨i,j,rfl,rfl,q⟩:=h;obtain⟨t,rfl⟩:=rx;obtain⟨t',rfl⟩:=ry;exact rule i j t t' s _ _ ⟨.bl (g i j),H,I,rfl,q⟩
noncomputable def Yu(i j:Int):Prop:=0<j/\j<1073741824
noncomputable def Yv(i j:Int):Prop:=0<=j/\j<=1000000/\i.natAbs<2 ^ 64
noncomputable def DO(i j:Int):Prop:=(-(2 ^ 64)<i/\i<2 ^ 64)\/(-(2 ^ 64)<j/\j<2 ^ 64)
theorem DO.ok{i j:Int}(h:DO i j):IntMulOk i j:=by
 rcases h with⟨h1,h2⟩ | ⟨h1,h2⟩
 ·exact .of_left (intBits_le_64 h1 h2)
 ·exact .of_right (intBits_le_64 h1 h2)
theorem cG:dZ X (binaryOp .Add) (mY λi j=>.int (i+j)):=Mg λ_ _ _ _ _ _ _ q=>add_int q
theorem jz:dZ X (binaryOp .Sub) (mY λi j=>.int (i - j)):=Mg λ_ _ _ _ _ _ _ q=>sub_int q
theorem i6:dZ X (binaryOp .Mult) (rI DO λi j=>.int (i*j)):=wY λ_ _ _ _ _ _ _ hc q=>mul_int q hc.ok
theorem tu:dZ X (binaryOp .FloorDiv) (rI Yu λi j=>.int (i / j)):=wY λi j _ _ _ _ _ hc q=>by
 have h1:(0:Int)<j:=hc.1;have h2:j<1073741824:=hc.2;exact floordiv_int (by lia) (by rw[Int.fdiv_eq_ediv_of_nonneg i (by lia)];exact q) (.inl (PyProof.noPylong_small (by lia)))
theorem lR:dZ X (binaryOp .Mod) (rI (λ_ j=>0<j) λi j=>.int (i % j)):=wY λi j _ _ _ _ _ hc q=>by
 have h1:(0:Int)<j:=hc;exact mod_int' (by lia) (by rw[Int.fmod_eq_emod_of_nonneg i (by lia)];exact q)
theorem Mh:dZ X (binaryOp .Pow) (rI Yv λi j=>.int (i ^ j.toNat)):=wY λ_ _ _ _ _ _ _ hc q=>pow_int_small hc.1 hc.2.1 hc.2.2 q
theorem Yw{f:Value->Sem Value}{g:Int->Int}
  (rule:∀(i:Int) (t:Tok) (s:Shared) (Q:Value->Shared->Prop) (E:Value->Shared->Prop),Q (.int (g i) s.toks) { s with toks:=s.toks+1 }->wpAny (model X.prog X.w) X.A (f (.int i t)) Q E s) :
  DM X f (rU λi=>.int (g i)):=by
 intro pins s σ H x v Q I rx h;obtain⟨i,rfl,q⟩:=h;obtain⟨t,rfl⟩:=rx;exact rule i t s _ _ ⟨.int (g i),H,I.tok _,⟨_,rfl⟩,q⟩
theorem tD:DM X (unaryOp .USub) (rU λi=>.int (-i)):=Yw λ_ _ _ _ _ q=>neg_int q
end
noncomputable def kO:V->V->Bool
 | .aN,.aN=>true | .aN,.int _=>true | .int _,.aN=>true | .aN,.bl _=>true | .bl _,.aN=>true | .aN,.str _=>true | .str _,.aN=>true
 | .int _,.int _=>true | .bl _,.bl _=>true | .str _,.str _=>true | .iL _,.iL _=>true
 | .int _,.str _=>true | .str _,.int _=>true | .bl _,.str _=>true | .str _,.bl _=>true
 | _,_=>false
noncomputable def Yx:R2:=λx y H Q=>kO x y=true/\Q (.bl (decide (x=y))) H
noncomputable def Yy:R2:=λx y H Q=>kO x y=true/\Q (.bl (!decide (x=y))) H
theorem Mi{i j:Int}:decide (V.int i=V.int j)=(i == j):=by
 rw[Bool.eq_iff_iff];simp
theorem Mj{i j:Bool}:decide (V.bl i=V.bl j)=(i == j):=by
 rw[Bool.eq_iff_iff];simp
theorem Ml{i j:Str}:decide (V.str i=V.str j)=(i == j):=by
 rw[Bool.eq_iff_iff];simp
theorem Mm{i j:Array UInt8}:decide (V.iL i=V.iL j)=(i.toList == j.toList):=by
 rw[Bool.eq_iff_iff];cases i;cases j;simp
section
variable{X:Cx}{a b c:Expr}{ta tb tc:TE}{pos:Pos}
theorem cZ{pins:List (Addr×Obj)}{σ:St}{H:Hp}{s:Shared}{Q:VK}{k k':Bool}(I:Inv X pins σ H s)(q:Q (.bl k) H)(e:k=k'):EP X pins σ Q (.bool k') s:=by
 subst e;exact⟨.bl k,H,I,rfl,q⟩
theorem mZ:dZ X (compareOp .Eq) Yx:=by
 intro pins s σ H x y v u Q I rx ry h;obtain⟨hs,q⟩:=h;cases x with
 | aN =>
  cases rx;cases y with
  | aN=>cases ry;exact PySem.EqNone.eq_none_none (cZ I q (by simp))
  | bl j=>cases ry;exact PySem.EqNone.eq_none_bool (cZ I q (by simp))
  | int j=>obtain⟨t',rfl⟩:=ry;exact PySem.EqNone.eq_none_int (cZ I q (by simp))
  | str j=>obtain⟨t',rfl⟩:=ry;exact PySem.EqNone.eq_none_str (cZ I q (by simp))
  | _=>exact absurd (show false=true from hs) Bool.false_ne_true
 | bl i =>
  cases rx;cases y with
  | aN=>cases ry;exact PySem.EqNone.eq_bool_none (cZ I q (by simp))
  | bl j=>cases ry;exact eq_bool (cZ I q Mj)
  | str j=>obtain⟨t',rfl⟩:=ry;exact PySem.EqMixed.eq_bool_str (cZ I q (by simp))
  | _=>exact absurd (show false=true from hs) Bool.false_ne_true
 | int i =>
  obtain⟨t,rfl⟩:=rx;cases y with
  | aN=>cases ry;exact PySem.EqNone.eq_int_none (cZ I q (by simp))
  | int j=>obtain⟨t',rfl⟩:=ry;exact eq_int (cZ I q Mi)
  | str j=>obtain⟨t',rfl⟩:=ry;exact PySem.EqMixed.eq_int_str (cZ I q (by simp))
  | _=>exact absurd (show false=true from hs) Bool.false_ne_true
 | str i =>
  obtain⟨t,rfl⟩:=rx;cases y with
  | aN=>cases ry;exact PySem.EqNone.eq_str_none (cZ I q (by simp))
  | bl j=>cases ry;exact PySem.EqMixed.eq_str_bool (cZ I q (by simp))
  | int j=>obtain⟨t',rfl⟩:=ry;exact PySem.EqMixed.eq_str_int (cZ I q (by simp))
  | str j=>obtain⟨t',rfl⟩:=ry;exact eq_str (cZ I q Ml)
  | _=>exact absurd (show false=true from hs) Bool.false_ne_true
 | iL i =>
  obtain⟨t,rfl⟩:=rx;cases y with
  | iL j=>obtain⟨t',rfl⟩:=ry;exact PySem.W.eq_bytes (cZ I q Mm)
  | _=>exact absurd (show false=true from hs) Bool.false_ne_true
 | _=>cases y <;> exact absurd (show false=true from hs) Bool.false_ne_true
theorem lT:dZ X (compareOp .NotEq) Yy:=by
 intro pins s σ H x y v u Q I rx ry h;obtain⟨hs,q⟩:=h;cases x with
 | aN =>
  cases rx;cases y with
  | aN=>cases ry;exact PySem.EqNone.ne_none_none (cZ I q (by simp))
  | bl j=>cases ry;exact PySem.EqNone.ne_none_bool (cZ I q (by simp))
  | int j=>obtain⟨t',rfl⟩:=ry;exact PySem.EqNone.ne_none_int (cZ I q (by simp))
  | str j=>obtain⟨t',rfl⟩:=ry;exact PySem.EqNone.ne_none_str (cZ I q (by simp))
  | _=>exact absurd (show false=true from hs) Bool.false_ne_true
 | bl i =>
  cases rx;cases y with
  | aN=>cases ry;exact PySem.EqNone.ne_bool_none (cZ I q (by simp))
  | bl j=>cases ry;exact ne_bool (cZ I q (congrArg not Mj))
  | str j=>obtain⟨t',rfl⟩:=ry;exact PySem.EqMixed.ne_bool_str (cZ I q (by simp))
  | _=>exact absurd (show false=true from hs) Bool.false_ne_true
 | int i =>
  obtain⟨t,rfl⟩:=rx;cases y with
  | aN=>cases ry;exact PySem.EqNone.ne_int_none (cZ I q (by simp))
  | int j=>obtain⟨t',rfl⟩:=ry;exact ne_int (cZ I q (congrArg not Mi))
  | str j=>obtain⟨t',rfl⟩:=ry;exact PySem.EqMixed.ne_int_str (cZ I q (by simp))
  | _=>exact absurd (show false=true from hs) Bool.false_ne_true
 | str i =>
  obtain⟨t,rfl⟩:=rx;cases y with
  | aN=>cases ry;exact PySem.EqNone.ne_str_none (cZ I q (by simp))
  | bl j=>cases ry;exact PySem.EqMixed.ne_str_bool (cZ I q (by simp))
  | int j=>obtain⟨t',rfl⟩:=ry;exact PySem.EqMixed.ne_str_int (cZ I q (by simp))
  | str j=>obtain⟨t',rfl⟩:=ry;exact ne_str (cZ I q (congrArg not Ml))
  | _=>exact absurd (show false=true from hs) Bool.false_ne_true
 | iL i =>
  obtain⟨t,rfl⟩:=rx;cases y with
  | iL j=>obtain⟨t',rfl⟩:=ry;exact PySem.W.ne_bytes (cZ I q (congrArg not Mm))
  | _=>exact absurd (show false=true from hs) Bool.false_ne_true
 | _=>cases y <;> exact absurd (show false=true from hs) Bool.false_ne_true
theorem gB:dZ X (compareOp .Lt) (mY λi j=>.bl (decide (i<j))):=wZ λ_ _ _ _ _ _ _ q=>lt_int q
theorem qq:dZ X (compareOp .LtE) (mY λi j=>.bl (decide (i<=j))):=wZ λ_ _ _ _ _ _ _ q=>le_int q
theorem jU:dZ X (compareOp .Gt) (mY λi j=>.bl (decide (j<i))):=wZ λ_ _ _ _ _ _ _ q=>gt_int q
theorem qt:dZ X (compareOp .GtE) (mY λi j=>.bl (decide (j<=i))):=wZ λ_ _ _ _ _ _ _ q=>ge_int q
theorem Yz:dZ X (compareOp .Is) (λx y H Q=>y = .aN/\Q (.bl (decide (x = .aN))) H):=by
 intro pins s σ H x y v u Q I rx ry h;obtain⟨rfl,q⟩:=h;cases ry;refine is_none_gen (cZ I q ?_);cases x <;> first
  | (cases rx;rfl)
  | (obtain⟨t,rfl⟩:=rx;rfl)
theorem DP:dZ X (compareOp .IsNot) (λx y H Q=>y = .aN/\Q (.bl (!decide (x = .aN))) H):=by
 intro pins s σ H x y v u Q I rx ry h;obtain⟨rfl,q⟩:=h;cases ry;refine isnot_none_gen (cZ I q ?_);cases x <;> first
  | (cases rx;rfl)
  | (obtain⟨t,rfl⟩:=rx;rfl)
theorem bK(b:Expr){op:CmpOp}(h:op≠.In:=by decide)(h2:op≠.NotIn:=by decide):behindInMarks op b=false:=by
 have e1:(op == CmpOp.In)=false:=by cases op <;> first | rfl | exact absurd rfl h
 have e2:(op == CmpOp.NotIn)=false:=by cases op <;> first | rfl | exact absurd rfl h2
 cases b <;> simp[behindInMarks,e1,e2]
theorem qu{op:CmpOp}{r:R2}(ho:dZ X (compareOp op) r)(ha:PE X a ta)(hb:PE X b tb)(hm:behindInMarks op b=false):PE X (.Compare a [op] [b] pos) (wX r ta tb):=by
 intro pins s σ H Q I h;exact wpAny_Compare1 (DN ha hb I h λv u s2 x y H2 I2 rx ry q=>ho pins s2 σ H2 x y v u Q I2 rx ry q) hm
noncomputable def Mn(t:TE):TT:=λσ H Q=>t σ H λx H'=>∃k,x = .bl k/\Q k H'
theorem bM{op:CmpOp}{r:R2}(ho:dZ X (compareOp op) r)(ha:PE X a ta)(hb:PE X b tb)(hm:behindInMarks op b=false):PT X (.Compare a [op] [b] pos) (Mn (wX r ta tb)):=by
 intro pins s σ H Q I h;refine wpAny_isTrue_Compare1 (aM (ha pins s σ H _ I h) λv s1 ⟨x,H1,I1,r1,q1⟩=>aM (hb pins s1 σ H1 _ I1 q1) λu s2 ⟨y,H2,I2,r2,q2⟩ =>
  aM (ho pins s2 σ H2 x y v u _ I2 r1 r2 q2) λc s3 ⟨z,H3,I3,r3,k,e,q3⟩=>?_) hm
 subst e;cases r3;exact wpAny_truthy_bool ⟨H3,I3,q3⟩
noncomputable def YA(r r':R2)(ta tb tc:TE):TE:=λσ H Q=>ta σ H λx H1=>tb σ H1 λy H2=>r x y H2 λz H3=>∃k,z = .bl k/\
 (if k=true then tc σ H3 λw' H4=>r' y w' H4 Q else Q (.bl false) H3)
theorem Mp{op DQ:CmpOp}{r r':R2}(ho:dZ X (compareOp op) r)(lP:dZ X (compareOp DQ) r')(ha:PE X a ta)(hb:PE X b tb)(hc:PE X c tc)
  (hm:lastMarks [op,DQ] [b,c] = false:=by with_unfolding_all rfl):PT X (.Compare a [op,DQ] [b,c] pos) (Mn (YA r r' ta tb tc)):=by
 intro pins s σ H Q I h;refine isTrue_chain (aM (ha pins s σ H _ I h) λv s1 ⟨x,H1,I1,r1,q1⟩=>test_link (aM (hb pins s1 σ H1 _ I1 q1) λu s2 ⟨y,H2,I2,r2,q2⟩ =>
  aM (ho pins s2 σ H2 x y v u _ I2 r1 r2 q2) λd s3 ⟨z,H3,I3,r3,k,e,q3⟩=>?_)) hm
 subst e;cases r3;refine wpAny_truthy_bool ?_;cases k with
 | false =>
  obtain⟨k',e',q'⟩:=q3;cases e';exact ite_ff ⟨H3,I3,q'⟩
 | true =>
  refine ite_tt (test_last (aM (hc pins s3 σ H3 _ I3 q3) λw' s4 ⟨z',H4,I4,r4,q4⟩=>aM (lP pins s4 σ H4 y z' u w' _ I4 r2 r4 q4) λd' s5 ⟨z2,H5,I5,r5,k2,e2,q5⟩=>?_));subst e2;cases r5;exact wpAny_truthy_bool ⟨H5,I5,q5⟩
noncomputable def Mq(K:PySem.W.Frag)(x:V)(H:Hp)(k:Bool):Prop :=
 match x with
 | .aN=>k=false
 | .bl b=>k=b
 | .int i=>k=(i != 0)
 | .str y=>y.length<=sizeLine/\k=((y.length:Int) != 0)
 | .iL y=>y.size<=sizeLine/\k=((y.size:Int) != 0)
 | .ref p=>(∃xs,aE K H p xs/\k = !xs.isEmpty)\/(∃xs,bE K H p xs/\k = !xs.isEmpty)\/∃kvs,H p=some (.dK kvs)/\k = !kvs.isEmpty
 | _=>False
theorem YB{κ:Type}{kvs:List (κ×V)}{vs:List (κ×Value)}(r:KV kvs vs):(!vs.isEmpty) = !kvs.isEmpty:=by
 cases r <;> rfl
theorem Mr{xs:List V}{aC:List Value}(r:Vals xs aC):(!aC.toArray.isEmpty) = !xs.isEmpty:=by
 cases r <;> simp
theorem tE:(sizeLine:Nat)<2 ^ 63:=by rw[sizeLine_eq];decide
theorem YC:Ys X (λx H Q=>∃k,Mq X.K x H k/\Q k H):=by
 intro pins s σ H x v Q I rx h;obtain⟨k,e,q⟩:=h;have hl:=tE;have hs:sizeLine=16777216:=sizeLine_eq;cases x with
 | aN =>
  cases rx;have e':k=false:=e;subst e';exact truthy_none ⟨H,I,q⟩
 | bl b =>
  cases rx;have e':k=b:=e;subst e';exact wpAny_truthy_bool ⟨H,I,q⟩
 | int i =>
  obtain⟨t,rfl⟩:=rx;have e':k=(i != 0):=e;subst e';exact PySem.P.truthy_int ⟨H,I,q⟩
 | str y =>
  obtain⟨t,rfl⟩:=rx;obtain⟨hy,e'⟩:y.length<=sizeLine/\k=((y.length:Int) != 0):=e;subst e';exact PySem.P.truthy_str (by lia) ⟨H,I.tok _,q⟩
 | iL y =>
  obtain⟨t,rfl⟩:=rx;obtain⟨hy,e'⟩:y.size<=sizeLine/\k=((y.size:Int) != 0):=e;subst e';exact PySem.W.truthy_bytes (by lia) ⟨H,I.tok _,q⟩
 | ref p =>
  cases rx;have e':(∃xs,aE X.K H p xs/\k = !xs.isEmpty)\/(∃xs,bE X.K H p xs/\k = !xs.isEmpty)\/∃kvs,H p=some (.dK kvs)/\k = !kvs.isEmpty:=e;rcases e' with⟨xs,hx,e'⟩ | ⟨xs,hx,e'⟩ | ⟨kvs,hx,e'⟩
  ·subst e';obtain⟨aC,r,pl,hz⟩:=I.list hx;have hlen:=r.length;exact wpAny_truthy_list pl.isList (by simp only[List.size_toArray];lia) ⟨H,I.tok _,by rw[Mr r];exact q⟩
  ·subst e';obtain⟨aC,r,pl,hz⟩:=I.tuple hx;have hlen:=r.length;exact truthy_tuple pl (by simp only[List.size_toArray];lia) ⟨H,I.tok _,by rw[Mr r];exact q⟩
  ·subst e';obtain⟨hz,hS,vs,r,m⟩:kvs.length<=sizeLine/\(p == sysModules)=false/\∃vs,KV kvs vs/\s.heap.DictOf (eZ X.prog X.w) p vs:=I.aL p _ hx;have hlen:kvs.length=vs.length:=Paired.length r;exact wpAny_truthy_dict hS m (by lia) ⟨H,I.tok _,by rw[YB r];exact q⟩
 | _=>exact(show False from e).elim
theorem qw(ha:PE X a ta)(he:∀whole,isTrue a X.env whole=(do let v ← whole;standAt a.pos;holding [v] (truthy v))) :
  PT X a (λσ H Q=>ta σ H λx H'=>∃k,Mq X.K x H' k/\Q k H'):=by
 intro pins s σ H Q I h;exact isTrue_plain (aM (ha pins s σ H _ I h) λv s1 ⟨x,H1,I1,r1,q1⟩=>YC pins s1 σ H1 x v Q I1 r1 q1) (he _)
theorem vals1{x:V}{us:List Value}(r:Vals [x] us):∃u,us = [u]/\RelV x u:=by
 cases r with
 | cons r1 r2=>cases r2;exact⟨_,rfl,r1⟩
theorem vals2{x y:V}{us:List Value}(r:Vals [x,y] us):∃u w',us = [u,w']/\RelV x u/\RelV y w':=by
 cases r with
 | cons r1 r2 =>
  cases r2 with
  | cons r3 r4=>cases r4;exact⟨_,_,rfl,r1,r3⟩
theorem Ms:iB X (.builtin "abs") (λxs H Q=>∃i,xs = [.int i]/\Q (.int (if i<0 then -i else i)) H):=by
 intro pins s σ H xs us Q I r h;obtain⟨i,rfl,q⟩:=h;obtain⟨u,rfl,t,rfl⟩:=vals1 r;exact call_abs_int λu tk=>⟨.int (if i<0 then -i else i),H,I.tok _,⟨_,rfl⟩,q⟩
theorem YD(hc:X.calm=true):iB X (.builtin "max") (λxs H Q=>∃i j,xs = [.int i,.int j]/\Q (.int (if j > i then j else i)) H):=by
 intro pins s σ H xs us Q I r h;obtain⟨i,j,rfl,q⟩:=h;obtain⟨u,w',rfl,⟨t,rfl⟩,⟨t',rfl⟩⟩:=vals2 r;refine max_two_ints (I.ok.hd hc) λh' tk k=>⟨_,H,I.kept k,?_,q⟩;by_cases hj:j > i
 ·rw[if_pos hj,if_pos hj];exact⟨_,rfl⟩
 ·rw[if_neg hj,if_neg hj];exact⟨_,rfl⟩
theorem Mt(hc:X.calm=true):iB X (.builtin "min") (λxs H Q=>∃i j,xs = [.int i,.int j]/\Q (.int (if j<i then j else i)) H):=by
 intro pins s σ H xs us Q I r h;obtain⟨i,j,rfl,q⟩:=h;obtain⟨u,w',rfl,⟨t,rfl⟩,⟨t',rfl⟩⟩:=vals2 r;refine min_two_ints (I.ok.hd hc) λh' tk k=>⟨_,H,I.kept k,?_,q⟩;by_cases hj:j<i
 ·rw[if_pos hj,if_pos hj];exact⟨_,rfl⟩
 ·rw[if_neg hj,if_neg hj];exact⟨_,rfl⟩
end
structure oU(h:Heap)(x dx C:Addr)(mA:Str->Option Value):Prop where
 obj:h.get? x=some (PySem.W.instObj C dx)
 ns:h.Ns1 dx mA
 ne:dx≠x
theorem YE{h:Heap}{dx:Addr}{mA:Str->Option Value}(n:h.Ns1 dx mA):∃od,h.get? dx=some od/\∀name,PySem.W.lookIn name od=some (mA name):=by
 obtain⟨o,es,ep,ho,hd,hk,_,hm⟩:=n;refine⟨o,ho,λname=>?_⟩
 have e:=hm name;unfold nsFind findBy at e;rw[← Array.find?_toList] at e;unfold PySem.W.lookIn;rw[hd];dsimp only;split
 ·rename_i y q;rw[q] at e;exact congrArg some e
 ·rename_i q;rw[q] at e;have a:es.toList.any (·.refKey)=false:=by
   rw[List.any_eq_false];intro y hy;obtain⟨z,t,m_⟩:=hk y (Array.mem_toList_iff.mp hy);simp[DictEntry.refKey,m_]
  have a':¬ es.toList.any (·.refKey)=true:=by rw[a];exact Bool.false_ne_true
  rw[if_neg a'];exact congrArg some e
theorem oU.look{h:Heap}{x dx C:Addr}{mA:Str->Option Value}(I:oU h x dx C mA):∃od,PySem.W.InstAt h x (PySem.W.instObj C dx) C (some od)/\∀name,PySem.W.lookIn name od=some (mA name) :=
 let ⟨od,ho,hl⟩:=YE I.ns
 ⟨od,⟨I.obj,rfl,rfl,ho⟩,hl⟩
section
variable{prog:Program}{w:World}{A:Around}{E:Value->Shared->Prop}{s:Shared}{K:PySem.W.Frag}{x dx C f:Addr}{mA:Str->Option Value}{name:Str}{v:Value}
theorem get_map{expr:Bool}{Q:Value->Shared->Prop}(X:K.In s.heap)(I:oU s.heap x dx C mA)(hg:PySem.W.plainGet K C name=true)(hh:PySem.W.hasDictIn K C=true)
  (ha:PySem.W.findIn K (.ref C) name=some none) (hv:mA name=some v) (YF:PySem.W.handedIn v=true) (h:Q v { s with toks:=s.toks+1 }) :
  wpAny (model prog w) A (getAttr (.ref x) name expr) Q E s:=by
 obtain⟨od,J,hl⟩:=I.look;exact PySem.W.get_value X J (PySem.W.plainGet_of hg).1 (PySem.W.findObj_own hh ha rfl (by rw[hl,hv])) YF h
theorem YG{pl:Sem Bool}{Q:Value×List Value->Shared->Prop}(X:K.In s.heap)(I:oU s.heap x dx C mA)(hg:PySem.W.plainGet K C name=true)
  (hf:PySem.W.findIn K (.ref C) name=some (some (.ref f))) (ht:PySem.W.isFn K (.ref f)=true) (hv:mA name=none) (h:Q (.ref f,[.ref x]) s) :
  wpAny (model prog w) A (getMethod (.ref x) name pl) Q E s:=by
 obtain⟨od,J,hl⟩:=I.look;exact PySem.W.method_fn X J (PySem.W.plainGet_of hg).1 (PySem.W.plainGet_of hg).2 hf (beq_iff_eq.mp ht) (by show (PySem.W.lookIn name od).map (·.isSome)=some false;rw[hl,hv];rfl) h
theorem YH{ns:List Str}{Q:Unit->Shared->Prop}(X:K.In s.heap)(I:oU s.heap x dx C mA)
  (hs:PySem.W.findIn K (.ref C) "__setattr__" = some (some (.builtin "object.__setattr__"))) (hp:PySem.W.plainOver K C=true) (ht:PySem.W.takerIn K C name=some none) (hh:PySem.W.hasDictIn K C=true)
  (hw:PySem.Within mA ns) (hsz:ns.length<=sizeLine)
  (h:∀h',oU h' x dx C (λy=>if y=name then some v else mA y)->Heap.SameBut dx s.heap h'->Q () { s with heap:=h',toks:=s.toks+2 }) :
  wpAny (model prog w) A (setAttr (.ref x) name v) Q E s:=by
 obtain⟨od,J,hl⟩:=I.look;refine PySem.W.set_plain X J hs (PySem.W.osa_open (s:={ s with toks:=s.toks+1 }) (r:=none) X J hp ht λb=>?_)
 obtain⟨cd,hc,Dv⟩:=PySem.W.any_some hh;have hx:s.heap.get? x=some ⟨.ref C,some dx,.plain,#[]⟩:=I.obj;refine wpAny_bind (wpAny_pure (wpAny_bind (wpAny_bind (wpAny_loadPart hx (wpAny_bind (PySem.W.Looks.here (s:={ s with toks:=s.toks+1 }) (PySem.W.looks_clsIn X hc) ?_))))));rw[Dv];refine wpAny_pure (a:=some dx) (wpAny_bind (wpAny_pure (wpAny_bind ?_)));refine wpAny_nsSet1 (s:={ s with toks:=s.toks+1 }) I.ns λh' qx gY=>?_;obtain⟨oD,esD,epD,YI,YJ,YK⟩:=qx.count (PySem.Within.cons name v hw);refine wpAny_bind (wpAny_lookBehind YI (by rw[YJ];exact pastItsLine_dict (Nat.le_trans YK (by rw[List.length_cons];lia))) ?_)
 exact wpAny_pure (h _ ⟨(gY.2 _ (Ne.symm I.ne)).trans I.obj,qx,I.ne⟩ gY)
theorem YL{R:Result->Shared->Prop}{vs:List Value}{kw:List (Str×Value)}(X:K.In s.heap)(hm:PySem.W.makesIn K C=true)
  (hi:PySem.W.findIn K (.ref C) "__init__" = some (some (.ref f))) (hf:PySem.W.typeIn K (.ref f)=some (.type "function"))
  (h:codeAny (model prog w) (A.under (.builtin "type.__call__" ⟨.ref C::vs,kw⟩)) (.call (.ref f) ⟨.ref (s.heap.objs.size+1)::vs,kw⟩) (PySem.W.InitBack (s.heap.objs.size+1) R)
   { s with heap:=(s.heap.push PySem.W.emptyDict).push (PySem.W.instObj C s.heap.objs.size)}) :
  codeAny (model prog w) A (.call (.ref C) ⟨vs,kw⟩) R s:=by
 obtain⟨hh,g,d,t,os⟩:=s;exact PySem.W.make_core (PySem.W.makes_of X hm) (PySem.W.looks_findIn X hi) (λself=>PySem.W.bind_fn X self hf) (.inl rfl) h
theorem YM{R:Result->Shared->Prop}(X:K.In s.heap)(hm:PySem.W.makesIn K C=true)
  (hi:PySem.W.findIn K (.ref C) "__init__" = some (some (.builtin "object.__init__")))
  (hb:∀self,PySem.W.Looks (model prog w) s.heap (bindSpecial (.builtin "object.__init__") self) (.builtin "object.__init__",[self]))
  (h:codeAny (model prog w) (A.under (.builtin "type.__call__" ⟨[.ref C],[]⟩)) (.call (.builtin "object.__init__") ⟨[.ref (s.heap.objs.size+1)],[]⟩) (PySem.W.InitBack (s.heap.objs.size+1) R)
   { s with heap:=(s.heap.push PySem.W.emptyDict).push (PySem.W.instObj C s.heap.objs.size)}) :
  codeAny (model prog w) A (.call (.ref C) ⟨[],[]⟩) R s:=by
 obtain⟨hh,g,d,t,os⟩:=s;exact PySem.W.make_core (PySem.W.makes_of X hm) (PySem.W.looks_findIn X hi) hb (.inr ⟨rfl,rfl⟩) h
end
noncomputable def gC(f:Str)(v:V):List (Str×V)->List (Str×V)
 | []=>[(f,v)]
 | (g,x)::r=>if g=f then(g,v)::r else(g,x)::gC f v r
theorem Mu(f g:Str)(v:V):∀fs:List (Str×V),(gC f v fs).lookup g=if g=f then some v else fs.lookup g
 | []=>by
  show List.lookup g [(f,v)] = _;by_cases h:g=f
  ·have hb:(g == f)=true:=beq_iff_eq.mpr h;simp only[List.lookup,hb,if_pos h]
  ·have hb:(g == f)=false:=beq_eq_false_iff_ne.mpr h;simp only[List.lookup,hb,if_neg h]
 | (k,x)::r=>by
  have ih:=Mu f g v r;rw[show gC f v ((k,x)::r)=(if k=f then(k,v)::r else(k,x)::gC f v r) from rfl]
  by_cases hk:k=f
  ·rw[if_pos hk];by_cases h:g=k
   ·have hb:(g == k)=true:=beq_iff_eq.mpr h;simp only[List.lookup,hb,if_pos (h.trans hk)]
   ·have hb:(g == k)=false:=beq_eq_false_iff_ne.mpr h;simp only[List.lookup,hb,if_neg (λe:g=f=>h (e.trans hk.symm))]
  ·rw[if_neg hk];by_cases h:g=k
   ·have hb:(g == k)=true:=beq_iff_eq.mpr h;simp only[List.lookup,hb,if_neg (λe:g=f=>hk (h.symm.trans e))]
   ·have hb:(g == k)=false:=beq_eq_false_iff_ne.mpr h;simp only[List.lookup,hb];exact ih
theorem DR(f:Str)(v:V):∀fs:List (Str×V),f∈(gC f v fs).map (·.1)/\∀g,g∈fs.map (·.1)->g∈(gC f v fs).map (·.1)
 | []=>⟨by simp[gC],λg h=>by simp at h⟩
 | (k,x)::r=>by
  obtain⟨i1,i2⟩:=DR f v r;rw[show gC f v ((k,x)::r)=(if k=f then(k,v)::r else(k,x)::gC f v r) from rfl]
  by_cases hk:k=f
  ·rw[if_pos hk];subst hk;exact⟨by simp,λg h=>by simpa using h⟩
  ·rw[if_neg hk];refine⟨?_,λg h=>?_⟩
   ·rw[List.map_cons];exact List.mem_cons_of_mem _ i1
   ·rw[List.map_cons] at h ⊢;rcases List.mem_cons.mp h with e | e
    ·exact List.mem_cons.mpr (.inl e)
    ·exact List.mem_cons_of_mem _ (i2 g e)
theorem Mv(f:Str)(v:V):∀fs:List (Str×V),(gC f v fs).length<=fs.length+1
 | []=>by simp[gC]
 | (k,x)::r=>by
  have ih:=Mv f v r;rw[show gC f v ((k,x)::r)=(if k=f then(k,v)::r else(k,x)::gC f v r) from rfl]
  by_cases hk:k=f
  ·rw[if_pos hk,List.length_cons,List.length_cons];lia
  ·rw[if_neg hk,List.length_cons,List.length_cons];lia
theorem fZ.some_of{v:V}{o:Option Value}(r:fZ (some v) o):∃u,o=some u/\RelV v u:=by
 cases o with
 | none=>exact(show False from r).elim
 | some u=>exact⟨u,rfl,r⟩
theorem fZ.none_of{o:Option Value}(r:fZ none o):o=none:=by
 cases o with
 | none=>rfl
 | some u=>exact(show False from r).elim
theorem YN{v:V}{u:Value}(r:RelV v u):PySem.W.handedIn u=true:=by
 cases v with
 | aN=>cases (show u=Value.none from r);rfl
 | bl b=>cases (show u=Value.bool b from r);rfl
 | int i=>obtain⟨t,e⟩:=(show ∃t,u=Value.int i t from r);cases e;rfl
 | str x=>obtain⟨t,e⟩:=(show ∃t,u=Value.str x t from r);cases e;rfl
 | iL b=>obtain⟨t,e⟩:=(show ∃t,u=Value.bytes b t from r);cases e;rfl
 | oF b=>obtain⟨t,e⟩:=(show ∃t,u=Value.float b t from r);cases e;rfl
 | ref a=>cases (show u=Value.ref a from r);rfl
 | ty n=>cases (show u=Value.type n from r);rfl
section
variable{P:Program}{w:World}{H H':Hp}{h h':Heap}{a C dx:Addr}{fs XR:List (Str×V)}
theorem w6(aL:cX P w H h)(e:H a=some (.ins C dx fs)):∃mA,oU h a dx C mA/\(∀f,fZ (fs.lookup f) (mA f))/\PySem.Within mA (fs.map (·.1))/\fs.length<=1000/\H dx=some (.own a):=by
 obtain⟨d,z,ne,ob,mA,n,r,q⟩:=(show dB P w H h a (.ins C dx fs) from aL a _ e);exact⟨mA,⟨ob,n,ne⟩,r,q,z,d⟩
end
structure bZ(K:PySem.W.Frag)(C:Addr):Prop where
 pg:PySem.W.plainGet K C Str.empty=true
 hd:PySem.W.hasDictIn K C=true
 po:PySem.W.plainOver K C=true
 sa:PySem.W.findIn K (.ref C) "__setattr__" = some (some (.builtin "object.__setattr__"))
theorem bZ.get{K:PySem.W.Frag}{C:Addr}(c:bZ K C)(f:Str):PySem.W.plainGet K C f=true:=c.pg
noncomputable def bU(K:PySem.W.Frag)(C:Addr)(f:Str):Prop:=PySem.W.findIn K (.ref C) f=some none
theorem bU.YO{K:PySem.W.Frag}{C:Addr}{f:Str}(n:bU K C f):PySem.W.takerIn K C f=some none:=by
 unfold PySem.W.takerIn;rw[show PySem.W.findIn K (.ref C) f=some none from n]
 rfl
structure Meth(K:PySem.W.Frag)(C:Addr)(m:Str)(f:Addr):Prop where
 at_:PySem.W.findIn K (.ref C) m=some (some (.ref f))
 fn:PySem.W.isFn K (.ref f)=true
 kp:PySem.W.keepIn K (.ref f)=true
section
variable{X:Cx}{pins:List (Addr×Obj)}{σ:St}{H:Hp}{s:Shared}{a C dx:Addr}{fs:List (Str×V)}{f:Str}{v:V}{A:Around}{E:Value->Shared->Prop}
theorem YQ{b:Bool}{Q:Value->Shared->Prop}(I:Inv X pins σ H s)(e:H a=some (.ins C dx fs))(c:bZ X.K C)(n:bU X.K C f)(l:fs.lookup f=some v)
  (h:∀u s',Inv X pins σ H s'->RelV v u->Q u s'):wpAny (model X.prog X.w) A (getAttr (.ref a) f b) Q E s:=by
 obtain⟨mA,O,r,_,_,_⟩:=w6 I.aL e;obtain⟨u,hu,ru⟩:=fZ.some_of (v:=v) (o:=mA f) (by rw[← l];exact r f)
 exact get_map I.cK O (c.get f) c.hd n hu (YN ru) (h u _ (I.tok _) ru)
theorem ng{m:Str}{g:Addr}{pl:Sem Bool}{Q:Value×List Value->Shared->Prop}(I:Inv X pins σ H s)(e:H a=some (.ins C dx fs))(c:bZ X.K C)(k:Meth X.K C m g)(l:fs.lookup m=none)
  (h:Q (.ref g,[.ref a]) s):wpAny (model X.prog X.w) A (getMethod (.ref a) m pl) Q E s:=by
 obtain⟨mA,O,r,_,_,_⟩:=w6 I.aL e;have hn:mA m=none:=fZ.none_of (by rw[← l];exact r m)
 exact YG I.cK O (c.get m) k.at_ k.fn hn h
theorem YR{y:V}{u:Value}{Q:Unit->Shared->Prop}(I:Inv X pins σ H s)(e:H a=some (.ins C dx fs))(c:bZ X.K C)(n:bU X.K C f)(hl:fs.length<1000)(ry:RelV y u)
  (h:∀s',Inv X pins σ (upd H a (.ins C dx (gC f y fs))) s'->Q () s'):wpAny (model X.prog X.w) A (setAttr (.ref a) f u) Q E s:=by
 obtain⟨mA,O,r,wi,_,ho⟩:=w6 I.aL e;have hz:(fs.map (·.1)).length<=sizeLine:=by rw[List.length_map,sizeLine_eq];lia
 refine YH I.cK O c.sa c.po n.YO c.hd wi hz λh' O' sb=>h _ ?_;have hd:∃o,h'.get? dx=some o:=let ⟨o,_,_,e',_⟩:=O'.ns;⟨o,e'⟩
 refine I.write (x:=a) (e:=dx) (by rw[e];exact True.intro) (.inr ho) (λb q hb z=>(sb.2 b hb).trans z) hd ?_
 refine⟨by rw[aD O.ne];exact ho,?_,O.ne,O'.obj,_,O'.ns,λg=>?_,λg hg=>?_⟩
 ·have:=Mv f y fs;lia
 ·show fZ ((gC f y fs).lookup g) (if g=f then some u else mA g)
  rw[Mu];by_cases q:g=f
  ·rw[if_pos q,if_pos q];exact ry
  ·rw[if_neg q,if_neg q];exact r g
 ·by_cases q:g=f
  ·rw[q];exact(DR f y fs).1
  ·refine(DR f y fs).2 g (wi g λz=>hg ?_)
   show (if g=f then some u else mA g)=none
   rw[if_neg q];exact z
theorem Inv.made(I:Inv X pins σ H s):Inv X pins σ (upd (upd H s.heap.objs.size (.own (s.heap.objs.size+1))) (s.heap.objs.size+1) (.ins C s.heap.objs.size []))
  { s with heap:=(s.heap.push PySem.W.emptyDict).push (PySem.W.instObj C s.heap.objs.size)}:=by
 have e1:(s.heap.push PySem.W.emptyDict).get? s.heap.objs.size=some PySem.W.emptyDict:=Heap.get?_push_size s.heap rfl;have e2:((s.heap.push PySem.W.emptyDict).push (PySem.W.instObj C s.heap.objs.size)).get? (s.heap.objs.size+1)=some (PySem.W.instObj C s.heap.objs.size):=by
  have:=Heap.get?_push_size (s.heap.push PySem.W.emptyDict) (o:=PySem.W.instObj C s.heap.objs.size) rfl;rwa [Heap.size_push] at this
 have e3:(s.heap.push PySem.W.emptyDict).Ns s.heap.objs.size (λ_=>none):=⟨PySem.W.emptyDict,#[],_,e1,rfl,(λe he=>absurd he (by simp)),λ_=>rfl⟩
 have I1:=I.laid (a:=s.heap.objs.size) (o:=.own (s.heap.objs.size+1)) (h':=s.heap.push PySem.W.emptyDict) (t':=s.toks) (λb u q=>Heap.get?_push_of_some _ q) (Nat.le_refl _) ⟨_,e1⟩;refine I1.laid (a:=s.heap.objs.size+1) (o:=.ins C s.heap.objs.size []) (t':=s.toks) (λb u q=>Heap.get?_push_of_some _ q) (Nat.le_of_eq (Heap.size_push _ _)) ?_;have ne:s.heap.objs.size≠s.heap.objs.size+1:=Nat.ne_of_lt (Nat.lt_succ_self _);refine⟨by rw[aD ne,aI],Nat.zero_le _,ne,e2,λ_=>none,(Heap.Ns1.of_empty e3).at λo q=>Heap.get?_push_of_some _ q,λ_=>True.intro,λy hy=>absurd rfl hy⟩
theorem YS{prog:Program}{w:World}{env:Env}{e:Expr}{f:Str}{pos:Pos}{s:Shared}{Q:Value->Shared->Prop}(hb:attributeBase e f env (eval e env)=eval e env)
  (h:wpAny (model prog w) A (eval e env) (λo bg=>wpAny (model prog w) A (getAttr o f true) Q E bg) E s):wpAny (model prog w) A (eval (.Attribute e f pos) env) Q E s :=
 Attribute_any_ h (by rw[arm_eval_Attribute,hb])
end
noncomputable def Mw(K:PySem.W.Frag)(ta:TE)(f:Str):TE:=λσ H Q=>ta σ H λx H1=>∃a C dx fs v,x = .ref a/\H1 a=some (.ins C dx fs)/\bZ K C/\bU K C f/\fs.lookup f=some v/\Q v H1
noncomputable def YT(K:PySem.W.Frag)(ta tv:TE)(f:Str):TS:=λD σ H=>tv σ H λy H1=>ta σ H1 λx H2=>∃a C dx fs,x = .ref a/\H2 a=some (.ins C dx fs)/\bZ K C/\bU K C f/\fs.length<1000/\
 D.nx σ (upd H2 a (.ins C dx (gC f y fs)))
section
variable{X:Cx}{o e value:Expr}{f:Str}{pos pos' YU:Pos}{ta tv:TE}
theorem bF(he:PE X e ta)(hb:attributeBase e f X.env (eval e X.env)=eval e X.env):PE X (.Attribute e f pos) (Mw X.K ta f):=by
 intro pins s σ H Q I h;refine YS hb (aM (he pins s σ H _ I h) λu s1 ⟨x,H1,I1,rx,a,C,dx,fs,v,ex,ea,c,n,l,q⟩=>?_);subst ex;obtain rfl:u=Value.ref a:=rx;exact YQ I1 ea c n l λu' s2 I2 ru=>⟨v,H1,I2,ru,q⟩
theorem cL(ha:PE X o ta)(hv:PE X value tv)(hs:swapsWith value (some (.Attribute o f pos')) pos.line X.env=pure false):PS X (.Assign [.Attribute o f pos'] value pos) (YT X.K ta tv f):=by
 intro pins s σ H D I h;refine plainObj_wpAny_Assign_Attribute (aM (hv pins s σ H _ I h) λu s1 ⟨y,H1,I1,ry,q⟩=>aM (ha pins s1 σ H1 _ I1 q) λov s2 ⟨x,H2,I2,rx,a,C,dx,fs,ex,ea,c,n,l,q2⟩=>?_) hs;subst ex;obtain rfl:ov=Value.ref a:=rx;exact YR I2 ea c n l ry λs3 I3=>⟨σ,_,I3,q2⟩
end
section
variable{X:Cx}{pins:List (Addr×Obj)}{σ:St}{H:Hp}{s:Shared}{A:Around}{E:Value->Shared->Prop}{Q:Value->Shared->Prop}{c:Value}{b:Bool}
inductive gD (K:PySem.W.Frag) (H:Hp):V->Value->Prop where
 | aN:gD K H .aN (.type "NoneType")
 | bl (x:Bool):gD K H (.bl x) (.type "bool")
 | int (i:Int):gD K H (.int i) (.type "int")
 | str (x:Str):gD K H (.str x) (.type "str")
 | oF (x:UInt64):gD K H (.oF x) (.type "float")
 | lst {a:Addr} {xs:List V} (e:H a=some (.lst xs)):gD K H (.ref a) (.type "list")
 | cI {a:Addr} {o:Obj} {xs:List V} (e:H a=some (.cI o (.lst xs))):gD K H (.ref a) (.type "list")
 | tup {a:Addr} {xs:List V} (e:H a=some (.tup xs)):gD K H (.ref a) (.type "tuple")
 | dK {a:Addr} {kvs:List (Key×V)} (e:H a=some (.dK kvs)):gD K H (.ref a) (.type "dict")
 | dT {a:Addr} {kvs:List (List Key×V)} (e:H a=some (.dT kvs)):gD K H (.ref a) (.type "dict")
 | ins {a C dx:Addr} {fs:List (Str×V)} (e:H a=some (.ins C dx fs)) (cl:bZ K C) (ha:PySem.W.findIn K (.ref C) "__class__" = some (some (.builtin "object.__class__")))
   (hn:PySem.W.specialIn K (.builtin "object.__class__") "__get__" = some (some (.builtin "getset_descriptor.__get__"))) (Mx:PySem.W.takesIn K (.builtin "object.__class__")=some true)
   (hm:PySem.W.mroIn K C (.type "object")=some true):gD K H (.ref a) (.ref C)
theorem YV{x:V}{u t:Value}(I:Inv X pins σ H s)(rx:RelV x u)(ty:gD X.K H x t)(e:PySem.W.kitOne X.K t c=some b)(h:∀tk,Q (.bool b) { s with toks:=tk }) :
  wpAny (model X.prog X.w) A (call (.builtin "isinstance") [u,c]) Q E s:=by
 cases ty with
 | aN=>cases (show u=Value.none from rx);exact PySem.W.kia_one PySem.W.kitx_none I.cK True.intro e (λz=>nomatch z) h
 | bl y=>cases (show u=Value.bool y from rx);exact PySem.W.kia_one PySem.W.kitx_bool I.cK True.intro e (λz=>nomatch z) h
 | int i=>obtain⟨t,q⟩:=(show ∃t,u=Value.int i t from rx);cases q;exact PySem.W.kia_one PySem.W.kitx_int I.cK True.intro e (λz=>nomatch z) h
 | str y=>obtain⟨t,q⟩:=(show ∃t,u=Value.str y t from rx);cases q;exact PySem.W.kia_one PySem.W.kitx_str I.cK True.intro e (λz=>nomatch z) h
 | oF y=>obtain⟨t,q⟩:=(show ∃t,u=Value.float y t from rx);cases q;exact PySem.W.kia_one PySem.W.kitx_float I.cK True.intro e (λz=>nomatch z) h
 | @lst a xs ea =>
  cases (show u=Value.ref a from rx);obtain⟨_,_,n,_,h1⟩:=(show dB X.prog X.w H s.heap a (.lst xs) from I.aL a _ ea);exact PySem.W.kia_one PySem.W.kitx_list I.cK ⟨_,h1,rfl⟩ e (λz=>nomatch z) h
 | @cI a ob xs ea =>
  cases (show u=Value.ref a from rx);obtain⟨_,_,_,n,_,h1⟩:=(show dB X.prog X.w H s.heap a (.cI ob (.lst xs)) from I.aL a _ ea);exact PySem.W.kia_one PySem.W.kitx_list I.cK ⟨_,h1,rfl⟩ e (λz=>nomatch z) h
 | @tup a xs ea =>
  cases (show u=Value.ref a from rx);obtain⟨_,_,_,p⟩:=(show dB X.prog X.w H s.heap a (.tup xs) from I.aL a _ ea);obtain⟨o,h1,h2,_⟩:=p;exact PySem.W.kia_one PySem.W.kitx_tuple I.cK ⟨o,h1,h2⟩ e (λz=>nomatch z) h
 | @dK a kvs ea =>
  cases (show u=Value.ref a from rx);obtain⟨_,_,vs,_,p⟩:=(show dB X.prog X.w H s.heap a (.dK kvs) from I.aL a _ ea);obtain⟨o,es,ep,h1,h2,_⟩:=p;exact PySem.W.kia_one PySem.W.kitx_dict I.cK ⟨o,h1,h2.1⟩ e (λz=>nomatch z) h
 | @dT a kvs ea =>
  cases (show u=Value.ref a from rx);obtain⟨_,_,xs,_,o,es,ep,h1,h2,_⟩:=(show dB X.prog X.w H s.heap a (.dT kvs) from I.aL a _ ea);exact PySem.W.kia_one PySem.W.kitx_dict I.cK ⟨o,h1,h2.1⟩ e (λz=>nomatch z) h
 | @ins a C dx fs ea cl ha hn Mx hm =>
  cases (show u=Value.ref a from rx);obtain⟨mA,O,_⟩:=w6 I.aL ea;obtain⟨od,J,_⟩:=O.look;exact PySem.W.kia_one (PySem.W.kitx_own (cl.get _) cl.hd ha hn Mx hm) I.cK J e (λz=>nomatch z) h
end
structure cB(k:Nat)(A:Around):Prop where
 hd:A.handled=none
 dp:A.depth+3*k+5<recursionLimit
 un:A.units+16*k+200<cLine
theorem cB.mono{j k:Nat}{A:Around}(r:cB k A)(h:j<=k):cB j A:=⟨r.hd,by have:=r.dp;lia,by have:=r.un;lia⟩
theorem cB.deeper{k:Nat}{A:Around}(r:cB (k+1) A)(env:Env):cB k (A.deeper env) :=
 ⟨r.hd,by have:=r.dp;show A.depth+1+3*k+5<_;lia,by have:=r.un;show A.units+3+16*k+200<_;lia⟩
theorem cB.in1{k:Nat}{A:Around}(r:cB (k+1) A):cB k A.in1 :=
 ⟨r.hd,by have:=r.dp;show A.depth+3*k+5<_;lia,by have:=r.un;show A.units+1+16*k+200<_;lia⟩
theorem YW{A:Around}{C:Addr}{us:List Value}{kw:List (Str×Value)}:(A.under (.builtin "type.__call__" ⟨.ref C::us,kw⟩)).depth=A.depth+1:=by
 first | rfl | simp[Around.under,Code.weight,Code.isCreation,Code.isGuard,Code.isCaller,Code.frames,Code.isFrame,guardIds]
theorem YX{A:Around}{C:Addr}{us:List Value}{kw:List (Str×Value)}:(A.under (.builtin "type.__call__" ⟨.ref C::us,kw⟩)).units=A.units+1:=by
 first | rfl | simp[Around.under,Code.cUnits,Code.frames,Code.isFrame]
theorem cB.make{k:Nat}{A:Around}(r:cB (k+1) A)(C:Addr)(us:List Value)(kw:List (Str×Value)):cB k (A.under (.builtin "type.__call__" ⟨.ref C::us,kw⟩)) :=
 ⟨r.hd,by have:=r.dp;rw[YW];lia,by have:=r.un;rw[YX];lia⟩
theorem cB.depth{k:Nat}{A:Around}(r:cB k A):A.depth<recursionLimit:=by have:=r.dp;lia
theorem cB.units{k:Nat}{A:Around}(r:cB k A):A.units+64<cLine:=by have:=r.un;lia
theorem cB.oV{k:Nat}{A:Around}(r:cB k A):A.units<cLine:=by have:=r.un;lia
noncomputable def qy:TA:=λ_ H Q=>Q [] H
noncomputable def My(ta:TE)(tr:TA):TA:=λσ H Q=>ta σ H λx H1=>tr σ H1 λxs H2=>Q (x::xs) H2
section
variable{X:Cx}{e:Expr}{es:List Expr}{te:TE}{t:TA}{pos:Pos}
theorem au:PA X [] qy:=λ_ _ _ _ H Q I h=>Calls.spliced_nil ⟨[],H,I,.nil,h⟩
theorem aa(ha:PE X e te)(hr:PA X es t)(hs:starEach (e::es) X.env=(false,eval e X.env)::starEach es X.env:=by rfl):PA X (e::es) (My te t):=by
 intro pos pins s σ H Q I h;rw[hs]
 show wpAny _ _ (spliced ((false,eval e X.env)::backTo pos (starEach es X.env))) _ _ s;refine Calls.spliced_cons (aM (ha pins s σ H _ I h) λu s1 ⟨x,H1,I1,r1,q1⟩=>?_);exact aM (hr pos pins s1 σ H1 _ I1 q1) λus s2 ⟨xs,H2,I2,r2,q2⟩=>⟨x::xs,H2,I2,.cons r1 r2,q2⟩
noncomputable def YY(t:TA):TE:=λσ H Q=>t σ H λxs H1=>xs.length<=sizeLine/\∀p,H1 p=none->Q (.ref p) (upd H1 p (.tup xs))
noncomputable def YZ(t:TA):TE:=λσ H Q=>t σ H λxs H1=>xs.length<=sizeLine/\∀p,H1 p=none->Q (.ref p) (upd H1 p (.lst xs))
theorem gZ{x1}(h:PA X es t):PE X (.Tuple es x1 pos) (YY t):=by
 intro pins s σ H Q I hq;refine wpAny_Tuple_spliced (aM (h pos pins s σ H _ I hq) λus s1 ⟨xs,H1,I1,r,z,q⟩=>⟨by rw[← r.length];exact z,?_⟩)
 have hf:H1 s1.heap.objs.size=none:=I1.aL.fresh (Nat.le_refl _);refine⟨.ref s1.heap.objs.size,upd H1 s1.heap.objs.size (.tup xs),I1.laid (t':=s1.toks) (λb u e=>Heap.get?_push_of_some _ e) (Nat.le_refl _) ?_,rfl,q _ hf⟩;exact⟨z,us,r,⟨_,Heap.get?_push_size _ rfl,rfl,_,rfl⟩⟩
theorem eO(h:PA X es t):PE X (.List es pos) (YZ t):=by
 intro pins s σ H Q I hq;refine wpAny_List_spliced (aM (h pos pins s σ H _ I hq) λus s1 ⟨xs,H1,I1,r,z,q⟩=>⟨by rw[← r.length];exact z,?_⟩)
 have hf:H1 s1.heap.objs.size=none:=I1.aL.fresh (Nat.le_refl _);refine⟨.ref s1.heap.objs.size,upd H1 s1.heap.objs.size (.lst xs),I1.laid (t':=s1.toks) (λb u e=>Heap.get?_push_of_some _ e) (Nat.le_refl _) ?_,rfl,q _ hf⟩;exact⟨z,us,0,r,Heap.get?_push_size _ rfl⟩
end
noncomputable abbrev Sp:=List V->Hp->VK->XK->Prop
noncomputable abbrev e9:=List Env->Hp->Shared->XK->Value->Shared->Prop
structure nh(P:Program)(w:World)(K:PySem.W.Frag)(mg:Str->Option Value)(base:Heap)(A:Around)(outer:List Env)(s:Shared)(H:Hp):Prop where
 frames:A.frames=some outer
 mod:Mod K mg base
 bs:∀b o,base.get? b=some o->s.heap.get? b=some o/\H b=none
 jt:base.objs.size<=s.heap.objs.size
 iZ:s.heap.FunFrames base outer
 mR:∀b∈gT outer,H b=none
 aL:cX P w H s.heap
 bare:AllBare s.gens
noncomputable def CE(outer:List Env)(P:Program)(w:World)(H:Hp)(s:Shared)(Q:VK)(u:Value)(s':Shared):Prop :=
 ∃v H',s'.os=s.os/\AllBare s'.gens/\Un (gT outer) [] H H' s.heap s'.heap/\cX P w H' s'.heap/\RelV v u/\Q v H'
noncomputable def CR(CX:e9)(outer:List Env)(P:Program)(w:World)(H:Hp)(s:Shared)(Q:VK)(E:XK)(r:Result)(s':Shared):Prop :=
 match r with
 | .ok (.ret u)=>CE outer P w H s Q u s'
 | .ok _=>False
 | .error e=>CX outer H s E e s'
structure aW(P:Program)(w:World)(K:PySem.W.Frag)(mg:Str->Option Value)(base:Heap)(CX:e9)(k:Nat)(f:Addr)(fd:FuncData)(ps:List Str)(sp:Sp):Prop where
 len:∀vs H Q E,sp vs H Q E->vs.length=ps.length
 run:∀(A:Around) (outer:List Env) (s:Shared) (H:Hp) (args:Args) (us:List Value) (vs:List V) (Q:VK) (E:XK),cB k A->nh P w K mg base A outer s H->BindsTo s fd args (ps.zip us)->Vals vs us->sp vs H Q E->
  codeAny (model P w) A (.call (.ref f) args) (CR CX outer P w H s Q E) s
theorem nh.make{P:Program}{w:World}{K:PySem.W.Frag}{mg:Str->Option Value}{base:Heap}{A:Around}{outer:List Env}{s:Shared}{H:Hp}(e:nh P w K mg base A outer s H)(C:Addr)(us:List Value)(kw:List (Str×Value)) :
  nh P w K mg base (A.under (.builtin "type.__call__" ⟨.ref C::us,kw⟩)) outer s H:=⟨by first | exact e.frames | (simpa[Around.under,Code.envs,Code.isFrame,pushEnvs] using e.frames),e.mod,e.bs,e.jt,e.iZ,e.mR,e.aL,e.bare⟩
section
variable{X:Cx}{pins:List (Addr×Obj)}{σ:St}{H:Hp}{s s':Shared}
theorem Inv.DS(I:Inv X pins σ H s):nh X.prog X.w X.K X.mg X.base X.A X.stack s H :=
 ⟨I.ok.frames,I.ok.mod,I.bs,Nat.le_trans I.ok.jt I.sz,I.stack,I.Dy,I.aL,I.bare⟩
theorem Inv.after{Q:VK}{u:Value}(I:Inv X pins σ H s)(h:CE X.stack X.prog X.w H s Q u s'):EP X pins σ Q u s':=by
 obtain⟨v,H',os,bare,un,aL,r,q⟩:=h;obtain⟨hh,g,d,t,Y0⟩:=s';obtain rfl:Y0=s.os:=os;exact⟨v,H',I.call (h':=hh) (g':=g) (d':=d) (t':=t) (ch:=[]) un aL bare (λb z=>absurd z (by simp)),r,q⟩
end
noncomputable def Y3(sp:Sp)(c8:List V)(E:XK)(t:TA):TE:=λσ H Q=>t σ H λvs H1=>sp (vs++c8) H1 Q E
noncomputable def Mz(C:Addr)(m:Str)(sp:Sp)(c8:List V)(E:XK)(ta:TE)(t:TA):TE:=λσ H Q=>ta σ H λx H1=>∃a dx fs,x = .ref a/\H1 a=some (.ins C dx fs)/\fs.lookup m=none/\
 t σ H1 λvs H2=>sp (x::(vs++c8)) H2 Q E
noncomputable def MA(C:Addr)(sp:Sp)(c8:List V)(E:XK)(t:TA):TE:=λσ H Q=>t σ H λvs H1=>∀x dx,H1 x=none->H1 dx=none->dx≠x->
 sp (.ref x::(vs++c8)) (upd (upd H1 dx (.own x)) x (.ins C dx [])) (λv H2=>v = .aN/\Q (.ref x) H2) E
noncomputable def Binds(K:PySem.W.Frag)(fd:FuncData)(ps:List Str)(ds:List Value):Prop :=
 ∀(s:Shared) (us:List Value),K.In s.heap->(us++ds).length=ps.length->BindsTo s fd ⟨us,[]⟩ (ps.zip (us++ds))
theorem Binds.all{K:PySem.W.Frag}{fd:FuncData}{ps:List Str}(h:∀us:List Value,us.length=ps.length->bindArgs fd ⟨us,[]⟩=pure (ps.zip us)):Binds K fd ps []:=λs us _ hl=>by
 rw[List.append_nil] at hl ⊢;exact .of_eq (h us hl)
noncomputable def Passes(CX:e9)(X:Cx)(E:XK):Prop:=∀(pins:List (Addr×Obj)) (σ:St) (H:Hp) (s:Shared) (e:Value) (s':Shared),Inv X pins σ H s->CX X.stack H s E e s'->X.xe e s'
section
variable{X:Cx}{CX:e9}{k:Nat}{f C:Addr}{fd:FuncData}{ps:List Str}{sp:Sp}{c8:List V}{ds:List Value}{E:XK}{x m:Str}{p pos apos:Pos}{e o:Expr}{es:List Expr}{ta:TE}{t:TA}
theorem lU{pins:List (Addr×Obj)}{σ:St}{H:Hp}{s:Shared}{Q:VK}{us:List Value}{vs:List V}(F:aW X.prog X.w X.K X.mg X.base CX k f fd ps sp)(hr:cB k X.A)(hb:Binds X.K fd ps ds)(hd:Vals c8 ds)(hx:Passes CX X E)
  (I:Inv X pins σ H s) (r:Vals vs us) (h:sp (vs++c8) H Q E):wpAny (model X.prog X.w) X.A (call (.ref f) us) (EP X pins σ Q) X.xe s:=by
 have r2:Vals (vs++c8) (us++ds):=r.append hd;have hl:(us++ds).length=ps.length:=by rw[← r2.length];exact F.len _ _ _ _ h
 refine wpAny_call (codeAny_mono (F.run X.A X.stack s H ⟨us,[]⟩ (us++ds) (vs++c8) Q E hr I.DS (hb s us I.cK hl) r2 h) λr s' hq=>?_);cases r with
 | error e=>exact hx pins σ H s e s' I hq
 | ok fl =>
  cases fl with
  | ret u=>exact I.after hq
  | next=>exact False.elim hq
  | brk=>exact False.elim hq
  | cont=>exact False.elim hq
theorem br(F:aW X.prog X.w X.K X.mg X.base CX k f fd ps sp)(hr:cB k X.A)(hg:Gl X x)(hm:X.mg x=some (.ref f))(hk:PySem.W.keepIn X.K (.ref f)=true)(hb:Binds X.K fd ps ds)(hd:Vals c8 ds)(hx:Passes CX X E)
  (ha:PA X (e::es) t) (i7:(x == ("__debug__" : Str))=false:=by decide) (he:starEach (e::es) X.env=(false,eval e X.env)::starEach es X.env:=by rfl) (fF:(backTo pos (starEach es X.env)).any (·.1)=false:=by rfl) :
  PE X (.Call (.Name x p) (e::es) [] pos) (Y3 sp c8 E t):=by
 intro pins s σ H Q I h;refine wpAny_Call_Name_kw (qm I hg hm ?_ i7);refine PySem.W.callWith_K (h₀:=X.base) I.ok.mod.kI hk (aM (ha pos pins s σ H _ I h) λus s1 ⟨vs,H1,I1,r,q⟩=>⟨I1.cK,?_⟩) he fF;exact lU F hr hb hd hx I1 r q
theorem MB{pl:Sem Bool}(he:PE X o ta)(c:bZ X.K C)(hm:Meth X.K C m f)(F:aW X.prog X.w X.K X.mg X.base CX k f fd ps sp)(hr:cB k X.A)(hb:Binds X.K fd ps ds)(hd:Vals c8 ds)(hx:Passes CX X E)(ha:PA X (e::es) t)
  (gW:starEach (e::es) X.env=(false,eval e X.env)::starEach es X.env:=by rfl) (fF:(backTo pos (starEach es X.env)).any (·.1)=false:=by rfl)
  (ht:eval (.Call (.Attribute o m apos) (e::es) [] pos) X.env=(do
   let ov ← eval o X.env
   standAt apos.atName
   let (f,first) ← holding [ov] (getMethod ov m pl)
   callWith pos f first (backTo pos (starEach (e::es) X.env)) (backToKw pos (keywordEach [] X.env))):=by rfl) :
  PE X (.Call (.Attribute o m apos) (e::es) [] pos) (Mz C m sp c8 E ta t):=by
 intro pins s σ H Q I h;refine PySem.W.methodCall_KW (pl:=pl) (aM (he pins s σ H _ I h) λu s1 ⟨x,H1,I1,rx,a,dx,fs,ex,ea,l,q⟩=>?_) ht;subst ex;obtain rfl:u=Value.ref a:=rx;refine ng I1 ea c hm l ?_;refine PySem.W.callWith_K (first:=[.ref a]) (h₀:=X.base) I.ok.mod.kI hm.kp (aM (ha pos pins s1 σ H1 _ I1 q) λus s2 ⟨vs,H2,I2,r,q2⟩=>⟨I2.cK,?_⟩) gW fF
 exact lU (us:=.ref a::us) (vs:=.ref a::vs) F hr hb hd hx I2 (.cons rfl r) q2
theorem MC{pl:Sem Bool}(he:PE X o ta)(c:bZ X.K C)(hm:Meth X.K C m f)(F:aW X.prog X.w X.K X.mg X.base CX k f fd ps sp)(hr:cB k X.A)(hb:Binds X.K fd ps ds)(hd:Vals c8 ds)(hx:Passes CX X E)
  (ht:eval (.Call (.Attribute o m apos) [] [] pos) X.env=(do
   let ov ← eval o X.env
   standAt apos.atName
   let (f,first) ← holding [ov] (getMethod ov m pl)
   callWith pos f first (backTo pos (starEach [] X.env)) (backToKw pos (keywordEach [] X.env))):=by rfl) :
  PE X (.Call (.Attribute o m apos) [] [] pos) (Mz C m sp c8 E ta qy):=by
 intro pins s σ H Q I h;refine PySem.W.methodCall_KW (pl:=pl) (aM (he pins s σ H _ I h) λu s1 ⟨x,H1,I1,rx,a,dx,fs,ex,ea,l,q⟩=>?_) ht;subst ex;obtain rfl:u=Value.ref a:=rx;refine ng I1 ea c hm l ?_;exact PySem.W.callWith_K0 (first:=[.ref a]) I1.cK hm.kp (lU (us:=[.ref a]) (vs:=[.ref a]) F hr hb hd hx I1 (.cons rfl .nil) q)
structure Mk(K:PySem.W.Frag)(C f:Addr):Prop where
 makes:PySem.W.makesIn K C=true
 init:PySem.W.findIn K (.ref C) "__init__" = some (some (.ref f))
 fn:PySem.W.isFn K (.ref f)=true
 kp:PySem.W.keepIn K (.ref C)=true
theorem MD{pins:List (Addr×Obj)}{σ:St}{H:Hp}{s:Shared}{Q:VK}{us:List Value}{vs:List V}(M:Mk X.K C f)(F:aW X.prog X.w X.K X.mg X.base CX k f fd ps sp)(hr:cB (k+1) X.A)(hb:Binds X.K fd ps ds)(hd:Vals c8 ds)
  (hx:Passes CX X E) (I:Inv X pins σ H s) (r:Vals vs us)
  (h:∀x dx,H x=none->H dx=none->dx≠x->sp (.ref x::(vs++c8)) (upd (upd H dx (.own x)) x (.ins C dx [])) (λv H2=>v = .aN/\Q (.ref x) H2) E) :
  wpAny (model X.prog X.w) X.A (call (.ref C) us) (EP X pins σ Q) X.xe s:=by
 have hq:=h (s.heap.objs.size+1) s.heap.objs.size (I.aL.fresh (Nat.le_succ _)) (I.aL.fresh (Nat.le_refl _)) (Nat.ne_of_lt (Nat.lt_succ_self _));have I2:=Inv.made (C:=C) I;have r2:Vals (V.ref (s.heap.objs.size+1)::(vs++c8)) (Value.ref (s.heap.objs.size+1)::(us++ds)):=.cons rfl (r.append hd);have hl:(Value.ref (s.heap.objs.size+1)::us++ds).length=ps.length:=by
  have e:=r2.length;rw[F.len _ _ _ _ hq] at e;exact e.symm
 refine wpAny_call (YL (f:=f) I.cK M.makes M.init (beq_iff_eq.mp M.fn) (codeAny_mono (F.run _ X.stack _ _ ⟨Value.ref (s.heap.objs.size+1)::us,[]⟩ (Value.ref (s.heap.objs.size+1)::(us++ds)) _ _ E (hr.make C us [])
  (I2.DS.make C us []) (hb _ (Value.ref (s.heap.objs.size+1)::us) I2.cK hl) r2 hq) λr s' iO=>?_))
 cases r with
 | error e=>exact hx pins σ _ _ e s' I2 iO
 | ok fl =>
  cases fl with
  | ret u =>
   obtain⟨v,H',I3,rv,ev,q3⟩:=I2.after iO;subst ev;exact⟨rv,⟨V.ref (s.heap.objs.size+1),H',I3,rfl,q3⟩⟩
  | next=>exact False.elim iO
  | brk=>exact False.elim iO
  | cont=>exact False.elim iO
theorem tF(M:Mk X.K C f)(F:aW X.prog X.w X.K X.mg X.base CX k f fd ps sp)(hr:cB (k+1) X.A)(hg:Gl X x)(hm:X.mg x=some (.ref C))(hb:Binds X.K fd ps ds)(hd:Vals c8 ds)(hx:Passes CX X E)
  (ha:PA X (e::es) t) (i7:(x == ("__debug__" : Str))=false:=by decide) (he:starEach (e::es) X.env=(false,eval e X.env)::starEach es X.env:=by rfl) (fF:(backTo pos (starEach es X.env)).any (·.1)=false:=by rfl) :
  PE X (.Call (.Name x p) (e::es) [] pos) (MA C sp c8 E t):=by
 intro pins s σ H Q I h;refine wpAny_Call_Name_kw (qm I hg hm ?_ i7);refine PySem.W.callWith_K (h₀:=X.base) I.ok.mod.kI M.kp (aM (ha pos pins s σ H _ I h) λus s1 ⟨vs,H1,I1,r,q⟩=>⟨I1.cK,?_⟩) he fF;exact MD M F hr hb hd hx I1 r q
theorem ME(M:Mk X.K C f)(F:aW X.prog X.w X.K X.mg X.base CX k f fd ps sp)(hr:cB (k+1) X.A)(hg:Gl X x)(hm:X.mg x=some (.ref C))(hb:Binds X.K fd ps ds)(hd:Vals c8 ds)(hx:Passes CX X E)
  (i7:(x == ("__debug__" : Str))=false:=by decide):PE X (.Call (.Name x p) [] [] pos) (MA C sp c8 E qy):=by
 intro pins s σ H Q I h;refine wpAny_Call_Name_kw (qm I hg hm ?_ i7);exact PySem.W.callWith_K0 I.cK M.kp (MD (us:=[]) M F hr hb hd hx I .nil h)
end
noncomputable def PK(X:Cx)(kP:List Keyword)(t:TA):Prop :=
 ∀(pos:Pos) (pins:List (Addr×Obj)) (s:Shared) (σ:St) (H:Hp) (Q:List V->Hp->Prop),Inv X pins σ H s->t σ H Q->wpAny (model X.prog X.w) X.A (evalAll ((backToKw pos (keywordEach kP X.env)).map (·.2))) (AP X pins σ Q) X.xe s
section
variable{X:Cx}{CX:e9}{k:Nat}{f C:Addr}{fd:FuncData}{ps ks:List Str}{sp:Sp}{E:XK}{x m:Str}{p pos apos Y4:Pos}{e o:Expr}{es:List Expr}{kP:List Keyword}{te ta:TE}{t tk:TA}{nm:Option Str}
theorem Y5:PK X [] qy:=λ_ _ _ _ H Q I h=>wpAny_evalAll_nil ⟨[],H,I,.nil,h⟩
theorem Y6(ha:PE X e te)(hr:PK X kP t):PK X (⟨nm,e,Y4⟩::kP) (My te t):=by
 intro pos pins s σ H Q I h
 show wpAny _ _ (evalAll ((do let v ← eval e X.env;standAt pos;pure v)::(backToKw pos (keywordEach kP X.env)).map (·.2))) _ _ s
 refine wpAny_evalAll_cons (wpAny_bind (aM (ha pins s σ H _ I h) λu s1 ⟨x,H1,I1,r1,q1⟩=>wpAny_bind (wpAny_standAt (wpAny_pure ?_))));exact aM (hr pos pins s1 σ H1 _ I1 q1) λus s2 ⟨xs,H2,I2,r2,q2⟩=>⟨x::xs,H2,I2,.cons r1 r2,q2⟩
structure w_(K:PySem.W.Frag)(fd:FuncData)(ps ks:List Str)(g:List Value->List Value->List Value)(gV:List V->List V->List V):Prop where
 to:∀(s:Shared) (us ws:List Value),K.In s.heap->(g us ws).length=ps.length->BindsTo s fd ⟨us,ks.zip ws⟩ (ps.zip (g us ws))
 rel:∀ {vs:List V} {us:List Value} {zs:List V} {ws:List Value},Vals vs us->Vals zs ws->Vals (gV vs zs) (g us ws)
noncomputable def Y7(sp:Sp)(gV:List V->List V->List V)(E:XK)(t tk:TA):TE:=λσ H Q=>t σ H λvs H1=>tk σ H1 λzs H2=>sp (gV vs zs) H2 Q E
variable{g:List Value->List Value->List Value}{gV:List V->List V->List V}
theorem Y8{pins:List (Addr×Obj)}{σ:St}{H:Hp}{s:Shared}{Q:VK}{us ws:List Value}{vs zs:List V}(F:aW X.prog X.w X.K X.mg X.base CX k f fd ps sp)(hr:cB k X.A)(hb:w_ X.K fd ps ks g gV)(hx:Passes CX X E)
  (I:Inv X pins σ H s) (r:Vals vs us) (rz:Vals zs ws) (h:sp (gV vs zs) H Q E):wpAny (model X.prog X.w) X.A (call (.ref f) us (ks.zip ws)) (EP X pins σ Q) X.xe s:=by
 have r2:=hb.rel r rz;have hl:(g us ws).length=ps.length:=by rw[← r2.length];exact F.len _ _ _ _ h
 refine wpAny_call (codeAny_mono (F.run X.A X.stack s H ⟨us,ks.zip ws⟩ (g us ws) (gV vs zs) Q E hr I.DS (hb.to s us ws I.cK hl) r2 h) λr s' hq=>?_);cases r with
 | error e=>exact hx pins σ H s e s' I hq
 | ok fl =>
  cases fl with
  | ret u=>exact I.after hq
  | next=>exact False.elim hq
  | brk=>exact False.elim hq
  | cont=>exact False.elim hq
theorem Y9(F:aW X.prog X.w X.K X.mg X.base CX k f fd ps sp)(hr:cB k X.A)(hg:Gl X x)(hm:X.mg x=some (.ref f))(hk:PySem.W.keepIn X.K (.ref f)=true)(hb:w_ X.K fd ps ks g gV)(hx:Passes CX X E)
  (ha:PA X (e::es) t) (Y_:PK X kP tk) (tG:(backToKw pos (keywordEach kP X.env)).all (·.1.isSome)=true:=by rfl) (xg:(backToKw pos (keywordEach kP X.env)).filterMap (·.1)=ks:=by rfl)
  (i7:(x == ("__debug__" : Str))=false:=by decide) (he:starEach (e::es) X.env=(false,eval e X.env)::starEach es X.env:=by rfl)
  (fF:((backTo pos (starEach (e::es) X.env)).any (·.1) || (backToKw pos (keywordEach kP X.env)).any (·.1.isNone))=false:=by rfl) :
  PE X (.Call (.Name x p) (e::es) kP pos) (Y7 sp gV E t tk):=by
 intro pins s σ H Q I h;refine wpAny_Call_Name_kw (qm I hg hm ?_ i7);refine PySem.W.callWith_KW (h₀:=X.base) I.ok.mod.kI hk tG (aM (ha pos pins s σ H _ I h) λus s1 ⟨vs,H1,I1,r,q⟩=>?_) fF he;refine aM (Y_ pos pins s1 σ H1 _ I1 q) λws s2 ⟨zs,H2,I2,rz,q2⟩=>⟨I2.cK,?_⟩;rw[xg];exact Y8 F hr hb hx I2 r rz q2
end
structure bw(N P:List Str)(sc:Scope):Prop where
 kind:sc.kind = .function
 co:sc.isCoroutine=false
 gen:sc.isGenerator=false
 nd:N.Nodup
 pre:N.take P.length=P
 par:∀x∈P,sc.names.lookup x=some .local\/sc.names.lookup x=some .cell
 Za:∀y∈sc.names,y.2≠.free
theorem MF{kindOf:Str->Option NameKind}{x:Str}:∀ {binds:List (Str×Value)} {m:Str->Option Value},(∀v,(x,v)∉binds)->bindL kindOf binds m x=m x
 | [],_,_=>rfl
 | (n,v)::r,m,h=>by
  unfold bindL;rw[MF λw hw=>h w (List.mem_cons_of_mem _ hw)];split
  ·have:x≠n:=by rintro rfl;exact h v List.mem_cons_self
   simp[this]
  ·rfl
theorem MG{kindOf:Str->Option NameKind}{x:Str}:∀ {binds:List (Str×Value)} {m:Str->Option Value},(∀v,(x,v)∉binds)->bindC kindOf binds m x=m x
 | [],_,_=>rfl
 | (n,v)::r,m,h=>by
  unfold bindC;rw[MG λw hw=>h w (List.mem_cons_of_mem _ hw)];split
  ·rfl
  ·have:x≠n:=by rintro rfl;exact h v List.mem_cons_self
   simp[this]
theorem MH{kindOf:Str->Option NameKind}{x:Str}{v:Value}:∀ {P:List Str} {vs:List Value} {i:Nat} {m:Str->Option Value},P.Nodup->P[i]? = some x->vs[i]? = some v->kindOf x=some .local->
  bindL kindOf (P.zip vs) m x=some v
 | [],_,_,_,_,h,_,_=>by simp at h
 | _::_,[],_,_,_,_,h,_=>by simp at h
 | p::P,w::vs,0,m,nd,h1,h2,hk=>by
  simp at h1 h2;subst h1;subst h2
  show bindL kindOf ((p,w)::P.zip vs) m p=_;unfold bindL;rw[MF λv hv=>(List.nodup_cons.mp nd).1 (List.of_mem_zip hv).1,if_pos hk];simp
 | p::P,w::vs,i+1,m,nd,h1,h2,hk=>by
  show bindL kindOf ((p,w)::P.zip vs) m x=_;unfold bindL;exact MH (i:=i) (List.nodup_cons.mp nd).2 (by simpa using h1) (by simpa using h2) hk
theorem MI{kindOf:Str->Option NameKind}{x:Str}{v:Value}:∀ {P:List Str} {vs:List Value} {i:Nat} {m:Str->Option Value},P.Nodup->P[i]? = some x->vs[i]? = some v->kindOf x≠some .local->
  bindC kindOf (P.zip vs) m x=some v
 | [],_,_,_,_,h,_,_=>by simp at h
 | _::_,[],_,_,_,_,h,_=>by simp at h
 | p::P,w::vs,0,m,nd,h1,h2,hk=>by
  simp at h1 h2;subst h1;subst h2
  show bindC kindOf ((p,w)::P.zip vs) m p=_;unfold bindC;rw[MG λv hv=>(List.nodup_cons.mp nd).1 (List.of_mem_zip hv).1,if_neg hk];simp
 | p::P,w::vs,i+1,m,nd,h1,h2,hk=>by
  show bindC kindOf ((p,w)::P.zip vs) m x=_;unfold bindC;exact MI (i:=i) (List.nodup_cons.mp nd).2 (by simpa using h1) (by simpa using h2) hk
noncomputable def start(N:List Str)(vs:List V):St:=vs.map some++List.replicate (N.length - vs.length) none
noncomputable def lV(CX:e9)(P:Program)(w:World)(K:PySem.W.Frag)(mg:Str->Option Value)(base:Heap)(N:List Str)(qual:Str)(scope:Scope)(f:Addr)(cd:Value)(A:Around)(outer:List Env)(s:Shared)(H:Hp)(E:XK):Cx where
 prog:=P
 w:=w
 K:=K
 mg:=mg
 base:=base
 A:=A.deeper (envOfC qual scope s.heap.objs.size f cd)
 N:=N
 dh:=s
 f9:=H
 env:=envOfC qual scope s.heap.objs.size f cd
 outer:=outer
 stack:=envOfC qual scope s.heap.objs.size f cd::outer
 ex:=[]
 calm:=true
 fn:=λ_=>true
 pn:=[]
 xe:=λe s'=>wpAny (model P w) (A.deeper (envOfC qual scope s.heap.objs.size f cd)) (leaving (envOfC qual scope s.heap.objs.size f cd) e) (λ_ g6=>CX outer H s E e g6) (λe' g6=>CX outer H s E e' g6) s'
theorem MJ{sc:Scope}{n:Nat}{x:Str}(h:sc.names.lookup x=some .cell):∃c,(cellsFrom n sc.names []).lookup x=some c:=by
 have q:=PySem.W.cellsFrom_some sc.names n [] (.inl h);exact Option.isSome_iff_exists.mp q
theorem Zb{CX:e9}{P:Program}{w:World}{K:PySem.W.Frag}{mg:Str->Option Value}{base:Heap}{N ps:List Str}{qual:Str}{scope:Scope}{f:Addr}{cd:Value}{A:Around}{outer:List Env}{s s1:Shared}{H:Hp}{E:XK}{us:List Value}{vs:List V}
  (S:bw N ps scope) (hd:A.handled=none) (e0:nh P w K mg base A outer s H) (hl:vs.length=ps.length) (r:Vals vs us)
  (x:InCallC s s.heap.objs.size (bindL (envOfC qual scope s.heap.objs.size f cd).kindOf (ps.zip us) λ_=>none) (cellsFrom (s.heap.objs.size+1) scope.names []) (bindC (envOfC qual scope s.heap.objs.size f cd).kindOf (ps.zip us) λ_=>none) s1) :
  Inv (lV CX P w K mg base N qual scope f cd A outer s H E) [] (start N vs) H s1:=by
 have fF:ps.length<=N.length:=by have:=congrArg List.length S.pre;rw[List.length_take] at this;lia
 obtain⟨h1,tk,rfl,hk⟩:=x.done;have tH:∀b:Addr,b∉(lV CX P w K mg base N qual scope f cd A outer s H E).ex:=λb z=>absurd (show b∈([]:List Addr) from z) (by simp)
 refine⟨⟨e0.mod,S.kind,rfl,rfl,Nat.le_refl _,λy z c h1 h2=>?_,λy hy=>?_,λy c _ h=>?_,λ_=>hd,Around.frames_deeper e0.frames,.inr ⟨rfl,rfl⟩,λb z=>absurd z (tH b),e0.bs,e0.jt,λb _ _=>tH b,λb z=>absurd z (tH b),e0.iZ,e0.mR⟩,
  rfl,e0.bare,Un.kept hk,⟨_,x.toInCall.ns,λi y v h1 h2 h3=>?_⟩,λy c h=>⟨_,x.cell y c h⟩,e0.aL.fresh (Nat.le_refl _),λy c h=>?_,λp hp=>absurd (show p∈([]:List (Addr×Obj)) from hp) (by simp),e0.aL.kept hk,?_⟩
 ·exact name_of_addr x.apart (PySem.mem_of_lookup h1) (PySem.mem_of_lookup h2)
 ·have hy:scope.names.lookup y=some .cell\/scope.names.lookup y=some .free:=hy;rcases hy with hy | hy
  ·exact MJ hy
  ·exact absurd rfl (S.Za _ (PySem.mem_of_lookup hy))
 ·exact Nat.le_of_lt (x.above y c (PySem.mem_of_lookup h))
 ·have hi:i<vs.length:=by
   unfold start at h2;by_cases hi:i<vs.length
   ·exact hi
   ·rw[List.getElem?_append_right (by simpa using hi)] at h2
    rw[List.getElem?_replicate] at h2;split at h2 <;> cases h2
  have ha:vs[i]? = some v:=by
   unfold start at h2;rw[List.getElem?_append_left (by simpa using hi),List.getElem?_map] at h2
   cases e:vs[i]? with
   | none=>rw[e] at h2;cases h2
   | some a=>rw[e] at h2;cases h2;rfl
  obtain⟨u,hu,rv⟩:=r.get ha;have hp:ps[i]? = some y:=by
   rw[← S.pre,List.getElem?_take_of_lt (by lia)];exact h1
  have MK:ps.Nodup:=by rw[← S.pre];exact S.nd.sublist (List.take_sublist _ _)
  refine⟨u,rv,?_⟩;rcases S.par y (List.mem_of_getElem? hp) with k | k
  ·exact .inl ⟨k,MH MK hp hu k⟩
  ·obtain⟨c,e⟩:=MJ (n:=s.heap.objs.size+1) k;refine .inr ⟨.inl k,c,e,?_⟩;have q:=x.cell y c e;rw[MI MK hp hu (by show scope.names.lookup y≠_;rw[k];decide)] at q
   exact q
 ·exact e0.aL.fresh (Nat.le_of_lt (x.above y c (PySem.mem_of_lookup h)))
 ·unfold start
  show _=N.length;rw[List.length_append,List.length_map,List.length_replicate];lia
theorem DT{CX:e9}{P:Program}{w:World}{K:PySem.W.Frag}{mg:Str->Option Value}{base:Heap}{k:Nat}{f:Addr}{name qual:Str}{params:Arguments}{body:List Stmt}{scope:Scope}{dV kV doc pm aR ct oc:Value}{an od:Option Addr}
  {iC:Array (Option Value)} {N ps:List Str} {sp:Sp} (lk:K.lookup f=some ⟨oc,od,.func (PySem.W.fnOf name qual params body scope dV kV doc pm an aR ct),iC⟩) (gm:PySem.W.codeIn K aR qual=true) (S:bw N ps scope)
  (len:∀vs H Q E,sp vs H Q E->vs.length=ps.length)
  (oW:∀(A:Around) (outer:List Env) (s:Shared) (H:Hp) (vs:List V) (Q:VK) (E:XK),cB k (A.deeper (envOfC qual scope s.heap.objs.size f aR))->sp vs H Q E->
   ∃t,gz (lV CX P w K mg base N qual scope f aR A outer s H E) body t/\t { nx:=λ_ H'=>Q .aN H',rt:=Q } (start N vs) H) :
  aW P w K mg base CX (k+1) f (PySem.W.fnOf name qual params body scope dV kV doc pm an aR ct) ps sp:=by
 refine⟨len,λA outer s H args us vs Q E hr e0 hb r g7=>?_⟩;have hl:=len _ _ _ _ g7;have KX:K.In s.heap:=e0.mod.kI.keeps λb o e=>(e0.bs b o e).1;have lim:s.heap.NoLimit:=e0.mod.nolimit.keeps λb o e=>(e0.bs b o e).1;have Zc:∀y∈ps.zip us,scope.names.lookup y.1=some .local\/(scope.names.lookup y.1=some .cell/\((cellsFrom (s.heap.objs.size+1) scope.names []).lookup y.1).isSome=true):=λ⟨n,v⟩ hy=>by
  rcases S.par n (List.of_mem_zip hy).1 with q | q
  ·exact .inl q
  ·exact .inr ⟨q,PySem.W.cellsFrom_some _ _ _ (.inl q)⟩
 refine codeAny_call_function hr.depth (KX _ _ lk) rfl S.co S.gen rfl (PySem.W.codeRec_of KX gm) (hb _ _ _ _ ?_);refine wpAny_newFunctionEnv_cells S.kind Zc λenv he s1 x=>?_;subst he;refine⟨lim.keeps x.toInCall.keep,codeAny_func ?_⟩;obtain⟨t,ht,hq⟩:=oW A outer s H vs Q E (hr.deeper _) g7;have I:Inv (lV CX P w K mg base N qual scope f aR A outer s H E) [] (start N vs) H s1:=Zb S hr.hd e0 hl r x;refine wpAny_mono (ht [] s1 (start N vs) H _ I hq) (λfl s' hs=>?_) λe s' hs=>hs;have fin:∀ {bz:St} {H':Hp} {v:V} {u:Value},Inv (lV CX P w K mg base N qual scope f aR A outer s H E) [] bz H' s'->RelV v u->Q v H'->CE outer P w H s Q u s' :=
  λ{bz H' v u} J rv q=>⟨v,H',J.os,J.bare,J.base,J.aL,rv,q⟩
 cases fl with
 | ret u =>
  obtain⟨v,bz,H',J,rv,q⟩:=hs;exact fin J rv q
 | next =>
  obtain⟨bz,H',J,q⟩:=hs;exact fin (v:=V.aN) (u:=Value.none) J rfl q
 | brk =>
  obtain⟨_,_,_,q⟩:=hs;exact False.elim q
 | cont =>
  obtain⟨_,_,_,q⟩:=hs;exact False.elim q
section
variable{X:Cx}{x:Str}{p pos:Pos}{e:Expr}{es:List Expr}{t:TA}{id T:String}{r:List V->Hp->VK->Prop}
noncomputable def ML(r:List V->Hp->VK->Prop)(t:TA):TE:=λσ H Q=>t σ H λvs H1=>r vs H1 Q
theorem cQ(hc:iB X (.builtin id) r)(hg:Gl X x)(hm:X.mg x=none)(hv:bootBuiltins x=some (.builtin id))(ha:PA X (e::es) t)(hn:x≠"__name__" := by decide)(i7:(x == ("__debug__" : Str))=false:=by decide)
  (he:starEach (e::es) X.env=(false,eval e X.env)::starEach es X.env:=by rfl) (fF:(backTo pos (starEach es X.env)).any (·.1)=false:=by rfl):PE X (.Call (.Name x p) (e::es) [] pos) (ML r t):=by
 intro pins s σ H Q I h;refine wpAny_Call_Name_kw (jQ I hg hm hv ?_ hn i7);exact PyProof.Rows.callWith_builtin1 (aM (ha pos pins s σ H _ I h) λus s1 ⟨vs,H1,I1,r1,q1⟩=>hc pins s1 σ H1 vs us Q I1 r1 q1) he fF
theorem xh(hc:iB X (.type T) r)(hg:Gl X x)(hm:X.mg x=none)(hv:bootBuiltins x=some (.type T))(ha:PA X (e::es) t)(hn:x≠"__name__" := by decide)(i7:(x == ("__debug__" : Str))=false:=by decide)
  (he:starEach (e::es) X.env=(false,eval e X.env)::starEach es X.env:=by rfl) (fF:(backTo pos (starEach es X.env)).any (·.1)=false:=by rfl):PE X (.Call (.Name x p) (e::es) [] pos) (ML r t):=by
 intro pins s σ H Q I h;refine wpAny_Call_Name_kw (jQ I hg hm hv ?_ hn i7);exact PyProof.Rows.callWith_type1 (aM (ha pos pins s σ H _ I h) λus s1 ⟨vs,H1,I1,r1,q1⟩=>hc pins s1 σ H1 vs us Q I1 r1 q1) he fF
end
end _L
namespace _H
open PySem PyProof.Rows
noncomputable def lexLt:List Int->List Int->Bool
 | [],[]=>false
 | [],_::_=>true
 | _::_,[]=>false
 | x::xs,y::ys=>if x=y then lexLt xs ys else decide (x<y)
theorem DU(x y:Int)(xs ys:List Int):lexLt (x::xs) (y::ys)=if x=y then lexLt xs ys else decide (x<y):=rfl
theorem MM:lexLt [] [] = false:=rfl
theorem Zd(y:Int)(ys:List Int):lexLt [] (y::ys)=true:=rfl
theorem Ze(x:Int)(xs:List Int):lexLt (x::xs) [] = false:=rfl
theorem Zf(A:Around)(s:Shared)(a:Int)(t:Tok)(c:Int)(u:Tok):∃e,SeqAt.EqAt A s (.int a t) (.int c u) e/\(e=true↔a=c) :=
 ⟨(a == c),SeqAt.EqAt.int_int a t c u,by simp⟩
theorem Zg(A:Around)(s:Shared)(a:Int)(t:Tok)(c:Int)(u:Tok)(prog:Program)(w:World)(E:Value->Shared->Prop)(Q:Value->Shared->Prop)(h:Q (.bool (decide (a<c))) s) :
  wpAny (model prog w) A (richCompare .Lt (.int a t) (.int c u)) Q E s :=
 (PyProof.Rows.lt_int h:wpAny (model prog w) A (compareOp .Lt (.int a t) (.int c u)) Q E s)
section
open PySem.SeqAt
open PySem.AutoSeq1 (wpAny_loadPart')
open PySem.MeetsSeq PySem.MeetsSeq2 PySem.MeetsSeq3
theorem Zh(l b:Addr)(items kQ:Array Value)(n n2:Nat)(dd DV:Option Addr)(sl DW:Array (Option Value))(ns ms:List Int)(hi:IntsAre items.toList ns)(hj:IntsAre kQ.toList ms) :
  Meets (Builtin.«tuple.__lt__» ⟨[.ref l,.ref b],[]⟩)
   (λ_ R s=>s.heap.get? l=some { cls:=.type "tuple",dict:=dd,data:=.seq items n,slots:=sl }/\s.heap.get? b=some { cls:=.type "tuple",dict:=DV,data:=.seq kQ n2,slots:=DW }/\
    R (.ok (.ret (.bool (lexLt ns ms)))) s) :=
 .of_wp λprog w A R s h=>by
  obtain⟨hp,g,d,tk,os⟩:=s;obtain⟨hl,hb,h⟩:=h;have f2:=AutoSeq1.sub_tuple_tuple;have z1:items.size=ns.length:=by rw[← hi.length];simp
  have z2:kQ.size=ms.length:=by rw[← hj.length];simp
  wp_walk using wpAny_loadPart' hl,wpAny_loadPart' hb,wpAny_forIn_list _ (λrest b s'=>b.1=none/\s' = ⟨hp,g,d,tk,os⟩/\∃(vs ws:List Value) (g8 qz:List Int),rest=vs.zip ws/\
   IntsAre vs g8/\IntsAre ws qz/\g8.length+kQ.size=qz.length+items.size/\R (.ok (.ret (.bool (lexLt g8 qz)))) ⟨hp,g,d,tk,os⟩) _
  case turn =>
   rintro⟨y,x⟩ rest b s' ⟨kR,rfl,vs,ws,g8,qz,hz,DX,ni,hlen,hR⟩;cases DX with
   | nil=>rw[List.zip_nil_left] at hz;cases hz
   | cons a t Zi =>
    cases ni with
    | nil=>rw[List.zip_nil_right] at hz;cases hz
    | cons c u Zj =>
     rw[List.zip_cons_cons] at hz;injection hz with Zk Zl;injection Zk with hy hx;subst hy hx;rw[DU] at hR;simp only[List.length_cons] at hlen;obtain⟨e,he,MN⟩:=Zf A.in1 ⟨hp,g,d,tk,os⟩ a t c u;refine wpAny_bind (he prog w _ _ ?_);cases e with
     | true =>
      rw[if_pos (MN.mp rfl)] at hR;wp_walk;exact⟨rfl,rfl,_,_,_,_,Zl,Zi,Zj,by lia,hR⟩
     | false =>
      rw[if_neg (λq=>absurd (MN.mpr q) Bool.false_ne_true)] at hR;have Zm:=Zg A.in1 ⟨hp,g,d,tk,os⟩ a t c u prog w;wp_walk using Zm;exact⟨_,rfl,by simpa using hR⟩
  case fin =>
   rintro⟨b1,b2⟩ s' ⟨kR,rfl,vs,ws,g8,qz,hz,DX,ni,hlen,hR⟩;simp only at kR;subst kR;have hv:lexLt g8 qz=decide (items.size<kQ.size):=by
    cases DX with
    | nil =>
     cases ni with
     | nil =>
      simp only[List.length_nil] at hlen;rw[MM];exact(decide_eq_false (by lia)).symm
     | cons c u hw =>
      simp only[List.length_nil,List.length_cons] at hlen;rw[Zd];exact(decide_eq_true (by lia)).symm
    | cons a t hv =>
     cases ni with
     | nil =>
      simp only[List.length_nil,List.length_cons] at hlen;rw[Ze];exact(decide_eq_false (by lia)).symm
     | cons c u hw =>
      rw[List.zip_cons_cons] at hz;cases hz
   rw[hv] at hR;wp_walk;exact⟨_,rfl,by simpa[Builtin.Tuple.tupleCompareSizes] using hR⟩
  case h =>
   exact⟨rfl,rfl,items.toList,kQ.toList,ns,ms,rfl,hi,hj,by lia,h⟩
end
section
variable{prog:Program}{w:World}{A:Around}{E:Value->Shared->Prop}{s:Shared}
theorem Zo{l b:Addr}{items kQ:Array Value}{ns ms:List Int}{Q:Value->Shared->Prop}(hl:IsTup s.heap l items)(hb:IsTup s.heap b kQ)(hi:IntsAre items.toList ns)(hj:IntsAre kQ.toList ms)
  (hu:A.units<cLine) (h:Q (.bool (lexLt ns ms)) s):wpAny (model prog w) A (compareOp .Lt (.ref l) (.ref b)) Q E s:=by
 obtain⟨⟨cls,dd,data,sl⟩,ho,hc,n,hd⟩:=id hl;obtain⟨⟨aj_,DV,data2,DW⟩,jV,jA,n2,hd2⟩:=id hb;simp only at hc hd jA hd2;subst hc hd jA hd2;exact richCompare_meets_room (op:=.Lt) ⟨_,ho,rfl⟩ ⟨_,jV,rfl⟩ PySem.F.slot_tuple_lt PySem.F.entry_tuple_lt (PySem.F.args_tuple_lt_2 _ _) (Zh l b items kQ n n2 dd DV sl DW ns ms hi hj)
  ⟨ho,jV,show Value.bool (lexLt ns ms)≠Value.notImplemented/\Q (.bool (lexLt ns ms)) s from⟨(λx=>nomatch x),h⟩⟩ hu
noncomputable def fO(n d:Nat):Option Int->Nat
 | none=>d
 | some v=>if v<0 then(v+(n:Int)).toNat else min v.toNat n
end
end _H
namespace _L
open PySem PySem.Spec PyProof.Rows
noncomputable abbrev TO:=St->Hp->(Option Int->Hp->Prop)->Prop
noncomputable def PO(X:Cx)(e:Option Expr)(t:TO):Prop :=
 ∀(pins:List (Addr×Obj)) (s:Shared) (σ:St) (H:Hp) (Q:Option Int->Hp->Prop),Inv X pins σ H s->t σ H Q->
  wpAny (model X.prog X.w) X.A (evalPart e X.env) (λu s'=>∃o H',Inv X pins σ H' s'/\IsPart u o/\Q o H') X.xe s
noncomputable def Zp:TO:=λ_ H Q=>Q none H
noncomputable def Zq(t:TE):TO:=λσ H Q=>t σ H λx H1=>∃i,x = .int i/\Q (some i) H1
theorem intsAre_of{ns:List Int}:∀ {us:List Value},Vals (ns.map V.int) us->IntsAre us ns:=by
 induction ns with
 | nil=>intro us r;rw[List.map_nil] at r;cases r;exact .nil
 | cons n ns ih =>
  intro us r;rw[List.map_cons] at r;cases r with
  | cons r1 r2 =>
   obtain⟨t,e⟩:=r1;subst e;exact .cons n t (ih r2)
section
variable{X:Cx}{e:Expr}{te:TE}{lo hi:Option Expr}{tl th:TO}{pos p2:Pos}
theorem Zr:PO X none Zp:=by
 intro pins s σ H Q I h;rw[evalPart_none];exact wpAny_pure ⟨none,H,I,.none,h⟩
theorem Zu(h:PE X e te):PO X (some e) (Zq te):=by
 intro pins s σ H Q I hw;rw[evalPart_some];refine aM (h pins s σ H _ I hw) λu s1 ⟨x,H1,I1,r1,q1⟩=>?_;obtain⟨i,rfl,q⟩:=q1;obtain⟨t,rfl⟩:=r1;exact⟨some i,H1,I1,.int i t,q⟩
noncomputable def MO(X:Cx)(r:V->Option Int->Option Int->Hp->VK->Prop):Prop :=
 ∀(pins:List (Addr×Obj)) (s:Shared) (σ:St) (H:Hp) (x:V) (v vl vu:Value) (lo hi:Option Int) (sl:Addr) (Q:VK),Inv X pins σ H s->RelV x v->s.heap.IsSliceOf sl vl vu .none->IsPart vl lo->IsPart vu hi->r x lo hi H Q->
  ∃T id,typeLookup (.type T) "__getitem__" = pure (some (.builtin id))/\s.TypeIs v T/\wpAny (model X.prog X.w) X.A (getItem v (.ref sl)) (EP X pins σ Q) X.xe s
noncomputable def Zv(r:V->Option Int->Option Int->Hp->VK->Prop)(te:TE)(tl th:TO):TE:=λσ H Q=>te σ H λx H1=>tl σ H1 λl H2=>th σ H2 λu H3=>r x l u H3 Q
theorem Zw{r:V->Option Int->Option Int->Hp->VK->Prop}(hr:MO X r)(he:PE X e te)(hl:PO X lo tl)(hu:PO X hi th):PE X (.Subscript e (.Slice lo hi none p2) pos) (Zv r te tl th):=by
 intro pins s σ H Q I h;refine Subscript_ (aM (he pins s σ H _ I h) λv s1 ⟨x,H1,I1,r1,q1⟩=>?_);refine wpAny_Slice (aM (hl pins s1 σ H1 _ I1 q1) λvl s2 ⟨l,H2,I2,pl,q2⟩=>aM (hu pins s2 σ H2 _ I2 q2) λvu s3 ⟨u,H3,I3,pu,q3⟩=>?_);rw[evalPart_none];refine wpAny_pure ?_;have I4:Inv X pins σ H3 { s3 with heap:=s3.heap.push { cls:=.type "slice",data:=.fields #[vl,vu,.none] }}:=I3.kept (t':=s3.toks) λb ob q=>Heap.get?_push_of_some _ q;obtain⟨T,id,hT,ht,hg⟩:=hr pins { s3 with heap:=s3.heap.push { cls:=.type "slice",data:=.fields #[vl,vu,.none] }} σ H3 x v vl vu l u s3.heap.objs.size Q I4 r1 (Heap.IsSliceOf.new ..) pl pu q3
 show wpAny (model X.prog X.w) X.A (subscriptTail e (.Slice lo hi none p2) v (.ref s3.heap.objs.size)) (EP X pins σ Q) X.xe { s3 with heap:=s3.heap.push { cls:=.type "slice",data:=.fields #[vl,vu,.none] }};exact tail_any (ops:=[.ref s3.heap.objs.size,v]) ht hT hg (by with_unfolding_all rfl)
noncomputable def nj(xs:List V)(lo hi:Option Int):List V:=(xs.drop (_H.fO xs.length 0 lo)).take (_H.fO xs.length xs.length hi - _H.fO xs.length 0 lo)
theorem Zx(xs:List V)(lo hi:Option Int):(nj xs lo hi).length<=xs.length:=by
 unfold nj;rw[List.length_take,List.length_drop];lia
noncomputable def aka(K:PySem.W.Frag):V->Option Int->Option Int->Hp->VK->Prop:=λx lo hi H Q=>∃a xs,x = .ref a/\bE K H a xs/\
 ¬ (_H.fO xs.length 0 lo=0/\_H.fO xs.length xs.length hi=xs.length)/\∀p,H p=none->Q (.ref p) (upd H p (.tup (nj xs lo hi)))
noncomputable def akb(K:PySem.W.Frag):R2:=λx y H Q=>∃a b ns ms,x = .ref a/\y = .ref b/\bE K H a (ns.map V.int)/\bE K H b (ms.map V.int)/\Q (.bl (_H.lexLt ns ms)) H
noncomputable def akc(K:PySem.W.Frag):R2:=λx y H Q=>∃a b xs ys,x = .ref a/\y = .ref b/\bE K H a xs/\bE K H b ys/\xs≠[]/\xs.length+ys.length<=sizeLine/\
 (ys = []->Q (.ref a) H)/\(ys≠[]->∀p,H p=none->Q (.ref p) (upd H p (.tup (xs++ys))))
end
noncomputable def i8(n:Nat)(i:Int):Option Nat:=if 0<=i then(if i<n then some i.toNat else none) else if -(n:Int)<=i then some (i+n).toNat else none
noncomputable def gq{α:Type}(xs:List α)(i:Int):Option α:=(i8 xs.length i).bind λj=>xs[j]?
theorem MP{n:Nat}{i:Int}{j:Nat}(h:i8 n i=some j):seqIndex? i n=some j/\j<n/\-(n:Int)<=i/\i<n:=by
 unfold i8 at h;by_cases h0:0<=i
 ·rw[if_pos h0] at h;by_cases h1:i<n
  ·rw[if_pos h1] at h;have e:i.toNat=j:=Option.some.inj h;exact⟨by rw[seqIndex_of h0 h1,e],by lia,by lia,h1⟩
  ·rw[if_neg h1] at h;cases h
 ·rw[if_neg h0] at h;by_cases h1 : -(n:Int)<=i
  ·rw[if_pos h1] at h;have e:(i+n).toNat=j:=Option.some.inj h;exact⟨by rw[seqIndex_neg (by lia) h1,e],by lia,h1,by lia⟩
  ·rw[if_neg h1] at h;cases h
theorem MQ{α:Type}{xs:List α}{i:Int}{v:α}(h:gq xs i=some v):∃j,seqIndex? i xs.length=some j/\xs[j]? = some v/\j<xs.length/\-(xs.length:Int)<=i/\i<xs.length:=by
 unfold gq at h;cases e:i8 xs.length i with
 | none=>rw[e] at h;cases h
 | some j =>
  rw[e] at h;obtain⟨h1,h2,h3,h4⟩:=MP e;exact⟨j,h1,h,h2,h3,h4⟩
theorem fG{α:Type}{xs:List α}{j:Nat}{v:α}(h:xs[j]? = some v):gq xs (j:Int)=some v:=by
 have hj:j<xs.length:=(List.getElem?_eq_some_iff.mp h).1;have e:i8 xs.length (j:Int)=some j:=by
  unfold i8;rw[if_pos (by lia),if_pos (by lia)];simp
 unfold gq;rw[e];exact h
theorem MR{α:Type}(xs:List α)(v:α):gq (xs++[v]) (-1)=some v:=by
 have hl:(xs++[v]).length=xs.length+1:=by simp
 have e:i8 (xs++[v]).length (-1)=some xs.length:=by
  unfold i8;rw[hl,if_neg (by decide),if_pos (by lia)]
  congr 1;lia
 unfold gq;rw[e]
 show (xs++[v])[xs.length]? = some v;simp
noncomputable def Zy(b:Expr):Prop:=∀o i,subscripted b false o i=operate [o,i] (getItem o i)
noncomputable def tK(X:Cx)(r:R2):Prop :=
 ∀(value slice:Expr) (pins:List (Addr×Obj)) (s:Shared) (σ:St) (H:Hp) (x y:V) (v u:Value) (Q:VK),Inv X pins σ H s->RelV x v->RelV y u->r x y H Q->
  subscripted slice false v u=operate [v,u] (getItem v u)->wpAny (model X.prog X.w) X.A (subscriptTail value slice v u) (EP X pins σ Q) X.xe s
noncomputable def Zz(X:Cx)(id:String)(r:V->List V->Hp->VK->Prop):Prop :=
 ∀(pins:List (Addr×Obj)) (s:Shared) (σ:St) (H:Hp) (x:V) (xs:List V) (v:Value) (us:List Value) (Q:VK),Inv X pins σ H s->RelV x v->Vals xs us->r x xs H Q->
  wpAny (model X.prog X.w) X.A (call (.builtin id) (v::us)) (EP X pins σ Q) X.xe s
section
variable{X:Cx}{a b:Expr}{ta tb:TE}{pos:Pos}
theorem bR{r:R2}(hr:tK X r)(ha:PE X a ta)(hb:PE X b tb)(hs:Zy b):PE X (.Subscript a b pos) (wX r ta tb):=by
 intro pins s σ H Q I h;exact Subscript_ (DN ha hb I h λv u s2 x y H2 I2 rx ry q=>hr a b pins s2 σ H2 x y v u Q I2 rx ry q (hs _ _))
noncomputable def MS(K:PySem.W.Frag):R2:=λx y H Q=>∃p xs i v,x = .ref p/\y = .int i/\aE K H p xs/\gq xs i=some v/\Q v H
noncomputable def MT(K:PySem.W.Frag):R2:=λx y H Q=>∃p xs i v,x = .ref p/\y = .int i/\bE K H p xs/\gq xs i=some v/\Q v H
theorem cS:tK X (MS X.K):=by
 intro value slice pins s σ H x y v u Q I rx ry h hs;obtain⟨p,xs,i,z,rfl,rfl,hq,he,q⟩:=h;cases rx;obtain⟨t,rfl⟩:=ry;obtain⟨aC,r,pl,hz⟩:=I.list hq;obtain⟨j,h1,h2,h3,h4,h5⟩:=MQ he;obtain⟨w,ew,f_⟩:=r.get h2;have hl:=r.length;have hn:=tE;have fin:EP X pins σ Q w s:=⟨z,H,I,f_,q⟩;by_cases h0:0<=i
 ·have hj:i.toNat=j:=by
   rw[seqIndex_of h0 h5] at h1;exact Option.some.inj h1
  exact item_listR pl.isList h0 (by lia) (by rw[hj];simpa using ew) fin hs
 ·have hj:(i+(aC.toArray.size:Int)).toNat=j:=by
   rw[seqIndex_neg (by lia) h4] at h1
   rw[List.size_toArray,← hl];exact Option.some.inj h1
  exact subscriptTail_builtinR (x:=w) pl.isList.typeIs slot_list_getitem.lookup
   (wpAny_getItem_list_neg (Q:=λr s'=>r=w/\EP X pins σ Q r s') pl.isList (by lia) (by rw[List.size_toArray] <;> lia) (by lia) (by rw[hj];simpa using ew) ⟨rfl,fin⟩) hs
theorem gF:tK X (MT X.K):=by
 intro value slice pins s σ H x y v u Q I rx ry h hs;obtain⟨p,xs,i,z,rfl,rfl,hq,he,q⟩:=h;cases rx;obtain⟨t,rfl⟩:=ry;obtain⟨aC,r,pl,hz⟩:=I.tuple hq;obtain⟨j,h1,h2,h3,h4,h5⟩:=MQ he;obtain⟨w,ew,f_⟩:=r.get h2;have hl:=r.length;have hn:=tE;have fin:EP X pins σ Q w s:=⟨z,H,I,f_,q⟩;exact subscriptTail_builtinR (x:=w) pl.typeIs slot_tuple_getitem.lookup
  (getItem_tuple (j:=j) (Q:=λr s'=>r=w/\EP X pins σ Q r s') pl (by lia) (by lia) (by rw[List.size_toArray,← hl];exact h1) (by simpa using ew) ⟨rfl,fin⟩) hs
theorem ZA(aC:List Value)(n j:Nat)(u:Value):Obj.mapSeq (·.setIfInBounds j u) { cls:=.type "list",data:=.seq aC.toArray n } = { cls:=.type "list",data:=.seq (aC.set j u).toArray n }:=by
 simp[Obj.mapSeq]
theorem Inv.lst{pins:List (Addr×Obj)}{σ:St}{H:Hp}{s:Shared}{p:Addr}{xs:List V}(I:Inv X pins σ H s)(h:H p=some (.lst xs)) :
  ∃(aC:List Value) (n:Nat),Vals xs aC/\s.heap.get? p=some { cls:=.type "list",data:=.seq aC.toArray n }/\xs.length<=sizeLine:=by
 obtain⟨z,aC,n,r,e⟩:=I.aL p _ h;exact⟨aC,n,r,e,z⟩
theorem Inv.ZC{pins:List (Addr×Obj)}{σ:St}{H:Hp}{s:Shared}{p:Addr}{xs ys:List V}{aC its':List Value}{n n':Nat}{f:Obj->Obj}(I:Inv X pins σ H s)(h:H p=some (.lst xs))
  (ho:s.heap.get? p=some { cls:=.type "list",data:=.seq aC.toArray n }) (hf:f { cls:=.type "list",data:=.seq aC.toArray n } = { cls:=.type "list",data:=.seq its'.toArray n' }) (r:Vals ys its') (hz:ys.length<=sizeLine) (t:Nat) :
  Inv X pins σ (upd H p (.lst ys)) { s with heap:=s.heap.update p f,toks:=t }:=by
 have e:(s.heap.update p f).get? p=some { cls:=.type "list",data:=.seq its'.toArray n' }:=by
  rw[Heap.get?_update_self f ho (by rw[hf] <;> rfl),hf]
 refine I.write (x:=p) (e:=p) (by rw[h];trivial) (.inl rfl) (λb u hb q=>(Heap.get?_update_other _ _ (Ne.symm hb)).trans q) ⟨_,e⟩ ?_
 exact⟨hz,its',n',r,e⟩
noncomputable def ZD:V->V->V->Hp->(Hp->Prop)->Prop:=λo i v H Q=>∃p xs k j,o = .ref p/\i = .int k/\H p=some (.lst xs)/\i8 xs.length k=some j/\Q (upd H p (.lst (xs.set j v)))
theorem set_list:L_ X ZD:=by
 intro pins s σ H o i v ov iv u Q I ro ri rv h;obtain⟨p,xs,k,j,rfl,rfl,hp,hj,q⟩:=h;cases ro;obtain⟨t,rfl⟩:=ri;obtain⟨aC,n,r,ho,hz⟩:=I.lst hp;obtain⟨h1,h2,h3,h4⟩:=MP hj;have hl:=r.length;have hn:=tE;have I':Inv X pins σ (upd H p (.lst (xs.set j v))) { s with heap:=s.heap.update p (Obj.mapSeq (·.setIfInBounds j u))} :=
  I.ZC hp ho (ZA aC n j u) (r.set rv j) (by rw[List.length_set];exact hz) s.toks
 by_cases h0:0<=k
 ·have hk:k.toNat=j:=by
   rw[seqIndex_of h0 h4] at h1;exact Option.some.inj h1
  exact PySem.W.ki_setAt ho h0 (by lia) (by rw[List.size_toArray,← hl];exact h4) (by rw[hk];exact⟨_,I',q⟩)
 ·have hk:(k+(aC.toArray.size:Int)).toNat=j:=by
   rw[seqIndex_neg (by lia) h3] at h1
   rw[List.size_toArray,← hl];exact Option.some.inj h1
  exact PySem.W.ki_setBack ho (by lia) (by rw[List.size_toArray,← hl];exact h3) (by lia) (by rw[hk];exact⟨_,I',q⟩)
theorem ZE(lo hi:Option Int)(n:Nat):(sliceBounds lo hi none n).1=((_H.fO n 0 lo:Nat):Int)/\(sliceBounds lo hi none n).2.1=((_H.fO n n hi:Nat):Int)/\(sliceBounds lo hi none n).2.2=1:=by
 refine⟨?_,?_,rfl⟩
 ·cases lo with
  | none=>simp[sliceBounds,_H.fO]
  | some i =>
   simp only[sliceBounds,_H.fO,Option.getD_none,show (1:Int) > 0 by decide,if_true]
   by_cases h:i<0
   ·simp only[h,if_true] <;> lia
   ·simp only[h,if_false] <;> lia
 ·cases hi with
  | none=>simp[sliceBounds,_H.fO]
  | some i =>
   simp only[sliceBounds,_H.fO,Option.getD_none,show (1:Int) > 0 by decide,if_true]
   by_cases h:i<0
   ·simp only[h,if_true] <;> lia
   ·simp only[h,if_false] <;> lia
theorem ZF(aC:List Value)(lo hi:Option Int):slicePick aC.toArray lo hi none=((aC.drop (_H.fO aC.length 0 lo)).take (_H.fO aC.length aC.length hi - _H.fO aC.length 0 lo)).toArray:=by
 obtain⟨h1,h2,h3⟩:=ZE lo hi aC.toArray.size;unfold slicePick;rw[h1,h2,h3];simp only[sliceRange_one,pick_run,List.size_toArray] <;> rfl
noncomputable def ZG(K:PySem.W.Frag):V->Option Int->Option Int->Hp->VK->Prop:=λx lo hi H Q=>∃a xs,x = .ref a/\aE K H a xs/\∀p,H p=none->Q (.ref p) (upd H p (.lst (nj xs lo hi)))
theorem ZI:MO X (ZG X.K):=by
 intro pins s σ H x v vl vu lo hi sl Q I rx hs pl pu h;obtain⟨a,xs,rfl,hx,q⟩:=h;cases rx;obtain⟨aC,r,ht,hz⟩:=I.list hx;have hlen:=r.length;refine⟨"list",_,slot_list_getitem.lookup,ht.isList.typeIs,?_⟩;refine wpAny_getItem_list_slice ht.isList hs pl pu .none (by simp) ?_ (by rw[List.size_toArray] <;> lia)
 rw[ZF,← hlen];refine⟨.ref s.heap.objs.size,_,I.laid (t':=s.toks) (o:=.lst (nj xs lo hi)) (λb ob q=>Heap.get?_push_of_some _ q) (Nat.le_refl _) ?_,rfl,q _ (I.aL.fresh (Nat.le_refl _))⟩;exact⟨Nat.le_trans (Zx xs lo hi) hz,_,0,(r.drop (_H.fO xs.length 0 lo)).take (_H.fO xs.length xs.length hi - _H.fO xs.length 0 lo),Heap.get?_push_size _ rfl⟩
noncomputable def jW:V->Bool
 | .aN=>true
 | .bl _=>true
 | .int _=>true
 | .str _=>true
 | _=>false
noncomputable def jX:V->V->Bool
 | .aN,.aN=>true
 | .bl a,.bl b=>a == b
 | .bl a,.int b=>(if a then 1 else 0) == b
 | .int a,.bl b=>a == (if b then 1 else 0)
 | .int a,.int b=>a == b
 | .str a,.str b=>a == b
 | _,_=>false
theorem ZJ{A:Around}{s:Shared}{y x:V}{u v:Value}(ry:RelV y u)(rx:RelV x v)(fy:jW y=true)(fx:jW x=true):SeqAt.EqAt A s u v (jX y x):=by
 cases y with
 | aN =>
  cases ry;cases x with
  | aN=>cases rx;exact SeqAt.EqAt.same _
  | bl b=>cases rx;exact SeqAt.EqAt.none_bool b
  | int b=>obtain⟨t,rfl⟩:=rx;exact SeqAt.EqAt.none_int b t
  | str b=>obtain⟨t,rfl⟩:=rx;exact SeqAt.EqAt.none_str b t
  | _=>exact absurd (show false=true from fx) Bool.false_ne_true
 | bl a =>
  cases ry;cases x with
  | aN=>cases rx;exact SeqAt.EqAt.bool_none a
  | bl b=>cases rx;exact SeqAt.EqAt.bool_bool a b
  | int b=>obtain⟨t,rfl⟩:=rx;exact SeqAt.EqAt.bool_int a b t
  | str b=>obtain⟨t,rfl⟩:=rx;exact SeqAt.EqAt.bool_str a b t
  | _=>exact absurd (show false=true from fx) Bool.false_ne_true
 | int a =>
  obtain⟨t',rfl⟩:=ry;cases x with
  | aN=>cases rx;exact SeqAt.EqAt.int_none a t'
  | bl b=>cases rx;exact SeqAt.EqAt.int_bool a t' b
  | int b=>obtain⟨t,rfl⟩:=rx;exact SeqAt.EqAt.int_int a t' b t
  | str b=>obtain⟨t,rfl⟩:=rx;exact SeqAt.EqAt.int_str a t' b t
  | _=>exact absurd (show false=true from fx) Bool.false_ne_true
 | str a =>
  obtain⟨t',rfl⟩:=ry;cases x with
  | aN=>cases rx;exact SeqAt.EqAt.str_none a t'
  | bl b=>cases rx;exact SeqAt.EqAt.str_bool a t' b
  | int b=>obtain⟨t,rfl⟩:=rx;exact SeqAt.EqAt.str_int a t' b t
  | str b=>obtain⟨t,rfl⟩:=rx;exact SeqAt.EqAt.str_str a t' b t
  | _=>exact absurd (show false=true from fx) Bool.false_ne_true
 | _=>exact absurd (show false=true from fy) Bool.false_ne_true
noncomputable def lW(x:V)(u:Value):Bool:=match u with
 | .none=>jX .aN x
 | .bool b=>jX (.bl b) x
 | .int i _=>jX (.int i) x
 | .str z _=>jX (.str z) x
 | _=>false
theorem MU{x y:V}{u:Value}(r:RelV y u)(f:jW y=true):lW x u=jX y x:=by
 cases y with
 | aN=>cases r;rfl
 | bl b=>cases r;rfl
 | int i=>obtain⟨t,rfl⟩:=r;rfl
 | str z=>obtain⟨t,rfl⟩:=r;rfl
 | _=>exact absurd (show false=true from f) Bool.false_ne_true
theorem DY{x:V}:∀ {xs:List V} {us:List Value},Vals xs us->xs.all jW=true->us.any (lW x)=xs.any λy=>jX y x
 | _,_,.nil,_=>rfl
 | y::xs,u::us,.cons r t,f=>by
  rw[List.all_cons,Bool.and_eq_true] at f;rw[List.any_cons,List.any_cons,MU r f.1,DY t f.2]
theorem DZ{A:Around}{s:Shared}{x:V}{v:Value}(rx:RelV x v)(fx:jW x=true):∀ {xs:List V} {us:List Value},Vals xs us->xs.all jW=true->∀u∈us,SeqAt.EqAt A s u v (lW x u)
 | _,_,.nil,_=>λu hu=>by cases hu
 | y::xs,u::us,.cons r t,f=>λu' hu=>by
  rw[List.all_cons,Bool.and_eq_true] at f;rcases List.mem_cons.mp hu with rfl | hu
  ·rw[MU r f.1];exact ZJ r rx f.1 fx
  ·exact DZ rx fx t f.2 u' hu
noncomputable def qA(x:V)(xs:List V):Bool:=xs.any λy=>jX y x
noncomputable def MV(K:PySem.W.Frag)(neg:Bool):R2:=λx y H Q=>∃p xs,y = .ref p/\(aE K H p xs\/bE K H p xs)/\jW x=true/\xs.all jW=true/\Q (.bl (if neg then !qA x xs else qA x xs)) H
theorem D0:dZ X (compareOp .In) (MV X.K false):=by
 intro pins s σ H x y v u Q I rx ry h;obtain⟨p,xs,rfl,hq,fx,fs,q⟩:=h;cases ry;rcases hq with hq | hq
 ·obtain⟨aC,r,pl,hz⟩:=I.list hq;refine SeqAt.in_listAt (lW x) pl.isList (λw hw=>DZ rx fx r fs w (by simpa using hw)) ⟨.bl _,H,I,rfl,?_⟩
  rw[show aC.toArray.any (lW x)=aC.any (lW x) by simp,DY r fs]
  exact q
 ·obtain⟨aC,r,pl,hz⟩:=I.tuple hq;refine SeqAt.in_tupleAt (lW x) pl (λw hw=>DZ rx fx r fs w (by simpa using hw)) ⟨.bl _,H,I,rfl,?_⟩
  rw[show aC.toArray.any (lW x)=aC.any (lW x) by simp,DY r fs]
  exact q
theorem gb:iB X (.builtin "len") (λxs H Q=>∃p ys,xs = [.ref p]/\(aE X.K H p ys\/bE X.K H p ys)/\Q (.int ys.length) H):=by
 intro pins s σ H xs us Q I r h;obtain⟨p,ys,rfl,hq,q⟩:=h;obtain⟨u,rfl,rx⟩:=vals1 r;cases rx;have hn:=tE;rcases hq with hq | hq
 ·obtain⟨aC,r',pl,hz⟩:=I.list hq;have hlen:=r'.length;exact Calls.call_len_list pl.isList (by simp only[List.size_toArray] <;> lia) ⟨.int ys.length,H,I.tok _,⟨s.toks+1,by rw[List.size_toArray,hlen]⟩,q⟩
 ·obtain⟨aC,r',pl,hz⟩:=I.tuple hq;have hlen:=r'.length;exact len_tuple pl (by simp only[List.size_toArray] <;> lia) ⟨.int ys.length,H,I.tok _,⟨s.toks+1,by rw[List.size_toArray,hlen]⟩,q⟩
theorem MW:iB X (.type "list") (λxs H Q=>∃p ys,xs = [.ref p]/\(aE X.K H p ys\/bE X.K H p ys)/\∀l,H l=none->Q (.ref l) (upd H l (.lst ys))):=by
 intro pins s σ H xs us Q I r h;obtain⟨p,ys,rfl,hq,q⟩:=h;obtain⟨u,rfl,rx⟩:=vals1 r;cases rx;have fin:∀(aC:List Value),Vals ys aC->ys.length<=sizeLine->∀(h':Heap) (c':Nat),(∀b o',s.heap.get? b=some o'->h'.get? b=some o')->
   h'.get? s.heap.objs.size=some { cls:=.type "list",dict:=none,data:=.seq aC.toArray c',slots := #[] }->EP X pins σ Q (.ref s.heap.objs.size) { s with heap:=h' }:=λaC r' hz h' c' kp e =>
  ⟨.ref s.heap.objs.size,_,I.laid (t':=s.toks) kp (Nat.le_refl _) (show dB X.prog X.w _ h' _ (.lst ys) from⟨hz,aC,c',r',e⟩),rfl,q _ (I.aL.fresh (Nat.le_refl _))⟩
 rcases hq with hq | hq
 ·obtain⟨aC,r',pl,hz⟩:=I.list hq;have hlen:=r'.length;obtain⟨o,ho,hc,n,hd⟩:=pl.isList;exact call_list_seq p (.inl rfl) ho hc hd (λh' c' kp e=>fin aC r' hz h' c' kp e) (by simp only[List.size_toArray] <;> lia)
 ·obtain⟨aC,r',pl,hz⟩:=I.tuple hq;have hlen:=r'.length;obtain⟨o,ho,hc,n,hd⟩:=pl;exact call_list_seq p (.inr rfl) ho hc hd (λh' c' kp e=>fin aC r' hz h' c' kp e) (by simp only[List.size_toArray] <;> lia)
theorem MX:iB X (.type "tuple") (λxs H Q=>∃p ys,xs = [.ref p]/\((aE X.K H p ys/\∀l,H l=none->Q (.ref l) (upd H l (.tup ys)))\/(bE X.K H p ys/\Q (.ref p) H))):=by
 intro pins s σ H xs us Q I r h;obtain⟨p,ys,rfl,h⟩:=h;obtain⟨u,rfl,rx⟩:=vals1 r;cases rx;rcases h with⟨hq,q⟩ | ⟨hq,q⟩
 ·obtain⟨aC,r',pl,hz⟩:=I.list hq;have hlen:=r'.length;refine call_tuple_list pl.isList (λh' kp=>?_) (by simp only[List.size_toArray] <;> lia)
  have I1:Inv X pins σ H { s with heap:=h' }:=I.kept (t':=s.toks) kp;have I2:Inv X pins σ (upd H h'.objs.size (.tup ys)) { s with heap:=h'.push { cls:=.type "tuple",data:=.seq aC.toArray }} :=
   I1.laid (t':=s.toks) (λb o e=>Heap.get?_push_of_some _ e) (Nat.le_refl _) (show dB X.prog X.w _ _ _ (.tup ys) from⟨hz,aC,r',IsTup.new _ _⟩)
  exact⟨.ref h'.objs.size,_,I2,rfl,q _ (I1.aL.fresh (Nat.le_refl _))⟩
 ·obtain⟨aC,r',pl,hz⟩:=I.tuple hq;exact call_tuple_same pl ⟨.ref p,H,I,rfl,q⟩
noncomputable def xj(K:PySem.W.Frag)(T:String)(x:V)(H:Hp):Prop:=match x with
 | .str _=>T = "str"
 | .int _=>T = "int"
 | .ref p=>(T = "list"/\∃xs,aE K H p xs)\/(T = "tuple"/\∃o,K.lookup p=some o/\o.cls = .type "tuple"/\o.dict=none)\/
   (T = "dict"/\((∃kvs,H p=some (.dK kvs))\/∃kvs,H p=some (.dT kvs)))\/(T = "set"/\∃S n,H p=some (.set S n))
 | _=>False
theorem MY{pins:List (Addr×Obj)}{σ:St}{H:Hp}{s:Shared}{T:String}{x:V}{v:Value}(I:Inv X pins σ H s)(r:RelV x v)(ty:xj X.K T x H) :
  s.TypeIs v T/\∀a,v = .ref a->∃ob,s.heap.get? a=some ob/\ob.dict=none:=by
 cases x with
 | str z =>
  obtain⟨t,rfl⟩:=r;cases (show T = "str" from ty);exact⟨typeIs_str s z t,λ_ e=>nomatch e⟩
 | int i =>
  obtain⟨t,rfl⟩:=r;cases (show T = "int" from ty);exact⟨typeIs_int s i t,λ_ e=>nomatch e⟩
 | ref p =>
  cases r;rcases ty with⟨rfl,xs,hq⟩ | ⟨rfl,o,hk,hc,hd⟩ | ⟨rfl,hk⟩ | ⟨rfl,S,n,hk⟩
  ·obtain⟨aC,_,pl,_⟩:=I.list hq;refine⟨pl.isList.typeIs,λa e=>?_⟩;cases e;obtain⟨o,n,e,c,hd,_⟩:=pl;exact⟨o,e,hd⟩
  ·refine⟨⟨o,I.cK p o hk,hc⟩,λa e=>?_⟩;cases e;exact⟨o,I.cK _ o hk,hd⟩
  ·have z:∃o,s.heap.get? p=some o/\o.ExactDict:=by
    rcases hk with⟨kvs,hk⟩ | ⟨kvs,hk⟩
    ·obtain⟨_,_,_,_,o,_,_,e,ex,_⟩:=I.aL p _ hk;exact⟨o,e,ex⟩
    ·obtain⟨_,_,_,_,o,_,_,e,ex,_⟩:=I.aL p _ hk;exact⟨o,e,ex⟩
   obtain⟨o,e,ex⟩:=z;refine⟨⟨o,e,ex.1⟩,λa e2=>?_⟩;cases e2;exact⟨o,e,ex.2.1⟩
  ·obtain⟨o,_,_,_,e,ex,_⟩:=I.aL p _ hk;refine⟨⟨o,e,ex.1⟩,λa e2=>?_⟩;cases e2;exact⟨o,e,ex.2.1⟩
 | _=>exact False.elim ty
noncomputable def akd(K:PySem.W.Frag)(T:String)(r:V->List V->Hp->VK->Prop)(to:TE):TE:=λσ H Q=>to σ H λx H1=>xj K T x H1/\r x [] H1 Q
noncomputable def ZK(K:PySem.W.Frag)(T:String)(r:V->List V->Hp->VK->Prop)(to:TE)(t:TA):TE:=λσ H Q=>to σ H λx H1=>xj K T x H1/\t σ H1 λxs H2=>r x xs H2 Q
variable{o e:Expr}{es:List Expr}{to:TE}{t:TA}{name:Str}{apos dR:Pos}{T id:String}{r:V->List V->Hp->VK->Prop}
theorem jY(pa:PlainAttrs T)(slot:Slot T name id)(ZM:typeOf (.builtin id)=pure (.type "method_descriptor"))(hm:Zz X id r)(ho:PE X o to)(ha:PA X (e::es) t)
  (D3:attributeBase o name X.env (eval o X.env)=eval o X.env:=by rfl)
  (ZN:((backTo dR (starEach (e::es) X.env)).all (λx => !x.1) && (backToKw dR (keywordEach [] X.env)).all (λx=>x.1.isSome)
   && decide ((e::es).length+([]:List Keyword).length+(if ([]:List Keyword).isEmpty then 0 else 1)<30))=true:=by rfl)
  (D4:(apos.endLine == dR.line)=true:=by rfl) (hs:starEach (e::es) X.env=(false,eval e X.env)::starEach es X.env:=by rfl) (hplain:(backTo dR (starEach es X.env)).any (·.1)=false:=by rfl) :
  PE X (.Call (.Attribute o name apos) (e::es) [] dR) (ZK X.K T r to t):=by
 intro pins s σ H Q I h;refine wpAny_Call_method_late D3 ZN D4 rfl (aM (ho pins s σ H _ I h) λv s1 ⟨x,H1,I1,r1,ty,q1⟩=>?_);obtain⟨h1,h2⟩:=MY I1 r1 ty;refine⟨T,id,pa,slot,ZM,h1,h2,?_⟩;have hA:=ha dR pins s1 σ H1 _ I1 q1;rw[hs] at hA ⊢;refine Calls.callWith_builtin (by show (false || (backTo dR (starEach es X.env)).any (·.1))=false;rw[hplain] <;> rfl) (Calls.evalArgs_plain ?_)
 exact aM hA λus s2 ⟨vs,H2,I2,r2,q2⟩=>hm pins s2 σ H2 x vs v us Q I2 r1 r2 q2
end
noncomputable def MZ(X:Cx)(id:String)(r:V->List V->Hp->VK->Prop):Prop :=
 ∀(pins:List (Addr×Obj)) (s:Shared) (σ:St) (H:Hp) (x:V) (xs:List V) (v:Value) (us:List Value) (Q:VK),Inv X pins σ H s->RelV x v->Vals xs us->r x xs H Q->
  wpAny (model X.prog X.w) X.A (call (.builtin id) (v::us)) (EP X pins σ Q) X.xe s
theorem Vals.one:∀ {x:V} {us:List Value},Vals [x] us->∃u,us = [u]/\RelV x u
 | _,_,.cons r .nil=>⟨_,rfl,r⟩
theorem Vals.rep{xs:List V}{us:List Value}(h:Vals xs us):∀k:Nat,Vals (List.replicate k xs).flatten (List.replicate k us).flatten
 | 0=>.nil
 | k+1=>by
  rw[List.replicate_succ,List.replicate_succ,List.flatten_cons,List.flatten_cons];exact Vals.append h (Vals.rep h k)
theorem foldl_rep(aC:List Value):∀(k:Nat) (acc:List Value),
  List.foldl (λx1 x2=>x1++x2) acc.toArray (List.replicate k aC.toArray)=(acc++(List.replicate k aC).flatten).toArray
 | 0,acc=>by simp
 | k+1,acc=>by
  have e:acc.toArray++aC.toArray=(acc++aC).toArray:=by simp
  have e2:(acc++aC)++(List.replicate k aC).flatten=acc++(List.replicate (k+1) aC).flatten:=by
   rw[List.replicate_succ,List.flatten_cons,List.append_assoc]
  rw[← e2,← foldl_rep aC k (acc++aC),← e,List.replicate_succ,List.foldl_cons]
section
variable{X:Cx}{pins:List (Addr×Obj)}{σ:St}{H:Hp}{s:Shared}{l b:Addr}{xs ys zs:List V}
theorem Inv.i9{aC its':List Value}{n:Nat}{f:Array Value->Array Value}{t':Nat}(I:Inv X pins σ H s)(hH:H l=some (.lst xs))
  (e:s.heap.get? l=some { cls:=.type "list",data:=.seq aC.toArray n }) (hf:f aC.toArray=its'.toArray) (hv:Vals ys its') (hz:ys.length<=sizeLine) :
  Inv X pins σ (upd H l (.lst ys)) { s with heap:=s.heap.update l (Obj.mapSeq f),toks:=t' }:=by
 have q:=PySem.IsL.update e f;rw[hf] at q;refine I.write (x:=l) (e:=l) (by rw[hH];exact trivial) (.inl rfl) (λb' u hb hu=>(Heap.get?_update_other s.heap (Obj.mapSeq f) (Ne.symm hb)).trans hu) ⟨_,q⟩ ?_
 exact⟨hz,its',_,hv,q⟩
theorem Inv.M0{aC:List Value}{t':Nat}(I:Inv X pins σ H s)(hv:Vals ys aC)(hz:ys.length<=sizeLine) :
  Inv X pins σ (upd H s.heap.objs.size (.lst ys)) { s with heap:=s.heap.push { cls:=.type "list",data:=.seq aC.toArray },toks:=t' } :=
 I.laid (λ_ _ q=>Heap.get?_push_of_some _ q) (Nat.le_refl _) ⟨hz,aC,0,hv,Heap.get?_push_size _ rfl⟩
theorem Inv.fresh(I:Inv X pins σ H s):H s.heap.objs.size=none:=I.aL.fresh (Nat.le_refl _)
theorem Inv.qB(I:Inv X pins σ H s)(hH:H l=some (.lst xs)):xs.length<=sizeLine/\∃(aC:List Value) (n:Nat),Vals xs aC/\xs.length=aC.length/\s.heap.get? l=some { cls:=.type "list",data:=.seq aC.toArray n }:=by
 obtain⟨z,aC,n,r,e⟩:=I.aL l _ hH;exact⟨z,aC,n,r,r.length,e⟩
theorem M5{n:Nat}(h:n<=sizeLine):Builtin.List.listTooLong n=false:=by
 unfold Builtin.List.listTooLong;exact decide_eq_false (by lia)
end
section
variable{X:Cx}
noncomputable def ZO:V->List V->Hp->VK->Prop:=λx vs H Q=>∃l xs y,x = .ref l/\vs = [y]/\H l=some (.lst xs)/\xs.length<sizeLine/\Q .aN (upd H l (.lst (xs++[y])))
theorem kU:MZ X "list.append" ZO:=by
 intro pins s σ H x vs v us Q I rx rv h;obtain⟨l,xs,y,rfl,rfl,hH,hz,q⟩:=h;cases rx;obtain⟨u,rfl,ru⟩:=rv.one;obtain⟨z,aC,n,r,hl,e⟩:=I.qB hH;refine call_meets F.slot_list_append ⟨_,e,rfl⟩ F.entry_list_append (F.args_list_append_2 _ _) (PySem.list_append l aC.toArray n u (by rw[List.size_toArray];lia)) ⟨e,?_⟩
 refine⟨.aN,_,I.i9 (its':=aC++[u]) hH e (by simp) (r.append (.cons ru .nil)) ?_,rfl,q⟩
 rw[List.length_append,List.length_singleton];lia
noncomputable def ZQ:V->List V->Hp->VK->Prop:=λx vs H Q=>∃l b xs zs,x = .ref l/\vs = [.ref b]/\H l=some (.lst xs)/\H b=some (.lst zs)/\xs.length+zs.length<=sizeLine/\Q .aN (upd H l (.lst (xs++zs)))
theorem M6:MZ X "list.extend" ZQ:=by
 intro pins s σ H x vs v us Q I rx rv h;obtain⟨l,b,xs,zs,rfl,rfl,hH,hB,hz,q⟩:=h;cases rx;obtain⟨u,rfl,ru⟩:=rv.one;cases ru;obtain⟨z,aC,n,r,hl,e⟩:=I.qB hH;obtain⟨z2,i_,n2,r2,xm,e2⟩:=I.qB hB;have hsz:aC.toArray.size+i_.toArray.size<=sizeLine:=by rw[List.size_toArray,List.size_toArray];lia
 have D5:¬ (!aC.toArray.isEmpty && Builtin.List.listTooLong (aC.toArray.size+i_.toArray.size))=true:=by
  rw[M5 hsz,Bool.and_false];exact Bool.false_ne_true
 refine call_meets F.slot_list_extend ⟨_,e,rfl⟩ F.entry_list_extend (F.args_list_extend_2 _ _)
  (AutoSeq1.list_extend_list_list_0 l aC.toArray n b i_.toArray n2 D5 (by rw[List.size_toArray];lia) (by lia)) ⟨e,e2,?_⟩
 refine⟨.aN,_,I.i9 (its':=aC++i_) hH e (by simp) (r.append r2) ?_,rfl,q⟩
 rw[List.length_append];lia
noncomputable def ake:V->List V->Hp->VK->Prop:=λx vs H Q=>∃l xs y,x = .ref l/\vs = []/\H l=some (.lst xs)/\xs[xs.length - 1]? = some y/\Q y (upd H l (.lst xs.dropLast))
noncomputable def akf:V->List V->Hp->VK->Prop:=λx vs H Q=>∃l xs,x = .ref l/\vs = []/\H l=some (.lst xs)/\Q .aN (upd H l (.lst xs.reverse))
noncomputable def akg:V->List V->Hp->VK->Prop:=λx vs H Q=>∃l xs,x = .ref l/\vs = []/\H l=some (.lst xs)/\Q .aN (upd H l (.lst []))
noncomputable def ZR:R2:=λx y H Q=>∃l b xs zs,x = .ref l/\y = .ref b/\H l=some (.lst xs)/\H b=some (.lst zs)/\xs.length+zs.length<=sizeLine/\∀p,H p=none->Q (.ref p) (upd H p (.lst (xs++zs)))
theorem M7:dZ X (binaryOp .Add) ZR:=by
 intro pins s σ H x y v u Q I rx ry h;obtain⟨l,b,xs,zs,rfl,rfl,hH,hB,hz,q⟩:=h;cases rx;cases ry;obtain⟨z,aC,n,r,hl,e⟩:=I.qB hH;obtain⟨z2,i_,n2,r2,xm,e2⟩:=I.qB hB;refine PySem.P.add_list e e2 ?_ (by rw[List.size_toArray,List.size_toArray];lia)
 have ea:aC.toArray++i_.toArray=(aC++i_).toArray:=by simp
 rw[ea];exact⟨.ref _,_,I.M0 (t':=s.toks) (r.append r2) (by rw[List.length_append];lia),rfl,q _ I.fresh⟩
noncomputable def ZS:R2:=λx y H Q=>∃l k xs,x = .ref l/\y = .int k/\H l=some (.lst xs)/\-(2 ^ 63)<=k/\k<2 ^ 63/\xs.length*k.toNat<=sizeLine/\
 ∀p,H p=none->Q (.ref p) (upd H p (.lst (List.replicate k.toNat xs).flatten))
theorem len_rep{α:Type}(xs:List α)(k:Nat):(List.replicate k xs).flatten.length=k*xs.length:=by
 induction k with
 | zero=>simp
 | succ k ih=>rw[List.replicate_succ,List.flatten_cons,List.length_append,ih,Nat.succ_mul,Nat.add_comm]
theorem xq:dZ X (binaryOp .Mult) ZS:=by
 intro pins s σ H x y v u Q I rx ry h;obtain⟨l,k,xs,rfl,rfl,hH,h1,h2,hz,q⟩:=h;cases rx;obtain⟨t,rfl⟩:=ry;obtain⟨z,aC,n,r,hl,e⟩:=I.qB hH;have hlen:aC.toArray.size*k.toNat<=sizeLine:=by rw[List.size_toArray,← hl];exact hz
 have ZT:¬ aC.toArray.size*k.toNat > (2 ^ 63 - 1) / 8:=by
  have:(sizeLine:Nat)<=(2 ^ 63 - 1) / 8:=by decide
  lia
 have ZU:¬ (!Builtin.List.listFitsIndex k)=true:=by
  rw[fitsIndex_both h1 h2];exact Bool.false_ne_true
 have D5:¬ Builtin.List.listTooLong (aC.toArray.size*k.toNat)=true:=by
  rw[M5 hlen];exact Bool.false_ne_true
 have ZV:List.foldl (λx1 x2=>x1++x2) #[] (List.replicate (if aC.toArray.isEmpty=true then 0 else k.toNat) aC.toArray)=(List.replicate k.toNat aC).flatten.toArray:=by
  have f0:∀m:Nat,List.foldl (λx1 x2=>x1++x2) #[] (List.replicate m aC.toArray)=(List.replicate m aC).flatten.toArray:=λm=>by
   have:=foldl_rep aC m [];rw[List.nil_append] at this;exact this
  rw[f0];cases aC with
  | nil=>simp
  | cons a r'=>rw[if_neg (by simp)]
 refine wpAny_binaryOp_repeat_ref (T := "list") (U := "int") (by decide) ⟨_,e,rfl⟩ (λs'=>typeIs_int s' k t) noFill_list_mul F.fills_int_mul F.slot_int_rmul repeat_list F.slot_int_index.lookup
  (call_meets F.slot_int_rmul (typeIs_int s k t) F.entry_int_rmul (F.args_int_rmul_2 _ _) (int___rmul___int_list k t l aC.toArray n)
   ⟨e,rfl,⟨_,e,rfl⟩,call_meets F.slot_list_mul ⟨_,e,rfl⟩ F.entry_list_mul (F.args_list_mul_2 _ _) (AutoListH.list___mul___list_int_3 l aC.toArray n k t ZU ZT D5) ⟨e,?_⟩⟩)
 rw[ZV];exact⟨.ref _,_,I.M0 (t':=s.toks) (r.rep k.toNat) (by rw[len_rep,Nat.mul_comm];exact hz),rfl,q _ I.fresh⟩
end
section
variable{prog:Program}{w:World}{A:Around}{E:Value->Shared->Prop}{s:Shared}
end
section
variable{X:Cx}
end
section
variable{κ:Type}[DecidableEq κ]
noncomputable def cC(kvs:List (κ×V))(k:κ):Option V:=(kvs.find? λkv=>decide (kv.1=k)).map (·.2)
noncomputable def putK(kvs:List (κ×V))(k:κ)(v:V):List (κ×V) :=
 if (kvs.any λkv=>decide (kv.1=k))=true then kvs.map (λkv=>if kv.1=k then(kv.1,v) else kv) else kvs++[(k,v)]
noncomputable def iD(kvs:List (κ×V))(k:κ):List (κ×V):=kvs.filter λkv=>decide (kv.1≠k)
theorem D6{k:κ}:cC ([]:List (κ×V)) k=none:=rfl
theorem jZ{p:κ×V}{r:List (κ×V)}{k:κ}(e:p.1=k):cC (p::r) k=some p.2:=by simp[cC,List.find?_cons,e]
theorem j3{p:κ×V}{r:List (κ×V)}{k:κ}(e:¬ p.1=k):cC (p::r) k=cC r k:=by simp[cC,List.find?_cons,e]
theorem tL(k:κ):∀kvs:List (κ×V),(kvs.any λkv=>decide (kv.1=k))=(cC kvs k).isSome
 | []=>rfl
 | p::r=>by
  rw[List.any_cons];by_cases e:p.1=k
  ·simp only[jZ e,decide_eq_true e,Bool.true_or,Option.isSome_some]
  ·rw[j3 e,decide_eq_false e,Bool.false_or];exact tL k r
theorem M8(k j:κ)(y:V):∀kvs:List (κ×V),cC (kvs.map λkv=>if kv.1=k then(kv.1,y) else kv) j=(cC kvs j).map λx=>if j=k then y else x
 | []=>rfl
 | p::r=>by
  have ih:=M8 k j y r;rw[List.map_cons];by_cases h:p.1=k
  ·rw[if_pos h];by_cases e:p.1=j
   ·rw[jZ (p:=(p.1,y)) e,jZ e,Option.map_some,if_pos (e.symm.trans h)]
   ·rw[j3 (p:=(p.1,y)) e,j3 e,ih]
  ·rw[if_neg h];by_cases e:p.1=j
   ·rw[jZ (p:=p) e,jZ e,Option.map_some,if_neg (λz=>h (e.trans z))]
   ·rw[j3 (p:=p) e,j3 e,ih]
theorem M9(k j:κ)(y:V):∀kvs:List (κ×V),cC kvs k=none->cC (kvs++[(k,y)]) j=if j=k then some y else cC kvs j
 | [],_=>by
  by_cases e:k=j
  ·rw[if_pos e.symm];exact jZ (p:=(k,y)) e
  ·rw[if_neg (λz=>e z.symm)];exact j3 (p:=(k,y)) e
 | p::r,hn=>by
  rw[List.cons_append];have hk:¬ p.1=k:=λz=>by rw[jZ z] at hn;cases hn
  rw[j3 hk] at hn;have ih:=M9 k j y r hn;by_cases e:p.1=j
  ·rw[jZ e,jZ e,if_neg (λz=>hk (e.trans z))]
  ·rw[j3 e,j3 e,ih]
theorem xr(kvs:List (κ×V))(k j:κ)(y:V):cC (putK kvs k y) j=if j=k then some y else cC kvs j:=by
 unfold putK;by_cases a:(kvs.any λkv=>decide (kv.1=k))=true
 ·rw[if_pos a,M8];rw[tL] at a;by_cases e:j=k
  ·obtain⟨x,hx⟩:=Option.isSome_iff_exists.mp a;rw[if_pos e,e,hx,Option.map_some,if_pos rfl]
  ·rw[if_neg e];cases cC kvs j with
   | none=>rfl
   | some x=>rw[Option.map_some,if_neg e]
 ·rw[if_neg a];refine M9 k j y kvs ?_;rw[tL] at a;cases q:cC kvs k with
  | none=>rfl
  | some x=>rw[q] at a;exact(a rfl).elim
theorem D7(kvs:List (κ×V))(k:κ)(v:V):(putK kvs k v).length<=kvs.length+1:=by
 unfold putK;split
 ·rw[List.length_map];lia
 ·rw[List.length_append,List.length_cons,List.length_nil];lia
theorem ZW{kvs:List (κ×V)}{k:κ}(v:V)(h:cC kvs k=none):putK kvs k v=kvs++[(k,v)]:=by
 unfold putK;rw[tL,h];exact if_neg (by decide)
theorem fZ.D8{o:Option V}{u:Option Value}(r:fZ o u):o.isSome=u.isSome:=by
 cases o with
 | none=>cases u with
  | none=>rfl
  | some _=>exact(show False from r).elim
 | some _=>cases u with
  | none=>exact(show False from r).elim
  | some _=>rfl
theorem fZ.getD{o:Option V}{u:Option Value}{d:V}{d':Value}(r:fZ o u)(rd:RelV d d'):RelV (o.getD d) (u.getD d'):=by
 cases o with
 | none=>cases u with
  | none=>exact rd
  | some _=>exact(show False from r).elim
 | some _=>cases u with
  | none=>exact(show False from r).elim
  | some _=>exact r
theorem KV.val{kvs:List (κ×V)}{vs:List (κ×Value)}(r:KV kvs vs)(k:κ):fZ (cC kvs k) (valueAt vs k):=by
 unfold KV at r
 induction r with
 | nil=>exact True.intro
 | @cons p q ps qs h t ih =>
  obtain⟨h1,h2⟩:=h;by_cases e:p.1=k
  ·have e':q.1=k:=h1.symm.trans e;have b:valueAt (q::qs) k=some q.2:=by simp[valueAt,List.find?_cons,e']
   rw[jZ e,b];exact h2
  ·have e':¬ q.1=k:=λz=>e (h1.trans z);have b:valueAt (q::qs) k=valueAt qs k:=by simp[valueAt,List.find?_cons,e']
   rw[j3 e,b];exact ih
theorem KV.any{kvs:List (κ×V)}{vs:List (κ×Value)}(r:KV kvs vs)(k:κ):(kvs.any λkv=>decide (kv.1=k))=vs.any λkv=>decide (kv.1=k):=by
 unfold KV at r
 induction r with
 | nil=>rfl
 | cons h t ih=>rw[List.any_cons,List.any_cons,ih,h.1]
theorem KV.D9{kvs:List (κ×V)}{vs:List (κ×Value)}(r:KV kvs vs)(k:κ){y:V}{u:Value}(ry:RelV y u) :
  KV (kvs.map λkv=>if kv.1=k then(kv.1,y) else kv) (vs.map λkv=>if kv.1=k then(kv.1,u) else kv):=by
 unfold KV at r ⊢
 induction r with
 | nil=>exact .nil
 | @cons p q ps qs h t ih =>
  rw[List.map_cons,List.map_cons];refine .cons ?_ ih;obtain⟨h1,h2⟩:=h;by_cases e:p.1=k
  ·rw[if_pos e,if_pos (h1.symm.trans e)];exact⟨h1,ry⟩
  ·rw[if_neg e,if_neg (λz=>e (h1.trans z))];exact⟨h1,h2⟩
theorem KV.put{kvs:List (κ×V)}{vs:List (κ×Value)}(r:KV kvs vs)(k:κ){y:V}{u:Value}(ry:RelV y u):KV (putK kvs k y) (stored vs k u):=by
 unfold putK stored;rw[r.any k];by_cases e:(vs.any λkv=>decide (kv.1=k))=true
 ·rw[if_pos e,if_pos e];exact r.D9 k ry
 ·rw[if_neg e,if_neg e];exact Paired.snoc r ⟨rfl,ry⟩
theorem KV.drop{kvs:List (κ×V)}{vs:List (κ×Value)}(r:KV kvs vs)(k:κ):KV (iD kvs k) (without vs k):=by
 unfold KV at r ⊢;unfold iD without
 induction r with
 | nil=>exact .nil
 | @cons p q ps qs h t ih =>
  obtain⟨h1,h2⟩:=h;rw[List.filter_cons,List.filter_cons];by_cases e:p.1=k
  ·have a:¬ decide (p.1≠k)=true:=by simp[e]
   have b:¬ decide (q.1≠k)=true:=by simp[h1.symm.trans e]
   rw[if_neg a,if_neg b];exact ih
  ·have e':¬ q.1=k:=λz=>e (h1.trans z);have a:decide (p.1≠k)=true:=by simp[e]
   have b:decide (q.1≠k)=true:=by simp[e']
   rw[if_pos a,if_pos b];exact .cons ⟨h1,h2⟩ ih
theorem KV.length{kvs:List (κ×V)}{vs:List (κ×Value)}(r:KV kvs vs):kvs.length=vs.length:=Paired.length r
theorem ZX(kvs:List (κ×V))(k:κ):(iD kvs k).length<=kvs.length:=List.length_filter_le _ _
end
theorem oX{P:Program}{w:World}{k:Key}{u:Value}(r:RelV (kV k) u):(eZ P w).is k u=true:=by
 cases k with
 | inl i=>obtain⟨t,e⟩:=(show ∃t,u=Value.int i t from r);subst e;exact XM P w i t
 | inr x=>obtain⟨t,e⟩:=(show ∃t,u=Value.str x t from r);subst e;exact XN P w x t
theorem M_{P:Program}{w:World}:∀ {ks:List Key} {us:List Value},Vals (ks.map kV) us->ItemsAre (eZ P w) ks us
 | [],_,r=>by rw[List.map_nil] at r;cases r;exact .nil
 | k::ks,_,r=>by
  rw[List.map_cons] at r;cases r with
  | cons h t=>exact .cons (oX h) (M_ t)
noncomputable abbrev KT(H:Hp):List (List Key×V)->List (List Key×Addr×Value)->Prop:=Paired λp q=>p.1=q.1/\H q.2.1=some (.tup (p.1.map kV))/\RelV p.2 q.2.2
theorem KT.val{H:Hp}{kvs:List (List Key×V)}{xs:List (List Key×Addr×Value)}(r:KT H kvs xs)(k:List Key):fZ (cC kvs k) ((atKey xs k).map (·.2)):=by
 induction r with
 | nil=>exact True.intro
 | @cons p q ps qs h t ih =>
  obtain⟨h1,_,h2⟩:=h;by_cases e:p.1=k
  ·have e':q.1=k:=h1.symm.trans e;have b:atKey (q::qs) k=some q.2:=by simp[atKey,List.find?_cons,e']
   rw[jZ e,b];exact h2
  ·have e':¬ q.1=k:=λz=>e (h1.trans z);have b:atKey (q::qs) k=atKey qs k:=by simp[atKey,List.find?_cons,e']
   rw[j3 e,b];exact ih
theorem KT.D9{H:Hp}{kvs:List (List Key×V)}{xs:List (List Key×Addr×Value)}(r:KT H kvs xs)(k:List Key){y:V}{u:Value}(ry:RelV y u) :
  KT H (kvs.map λkv=>if kv.1=k then(kv.1,y) else kv) (xs.map (putAt k u)):=by
 induction r with
 | nil=>exact .nil
 | @cons p q ps qs h t ih =>
  rw[List.map_cons,List.map_cons];refine .cons ?_ ih;obtain⟨h1,h2,h3⟩:=h;unfold putAt;by_cases e:p.1=k
  ·rw[if_pos e,if_pos (h1.symm.trans e)];exact⟨h1,h2,ry⟩
  ·rw[if_neg e,if_neg (λz=>e (h1.trans z))];exact⟨h1,h2,h3⟩
theorem KT.put{H:Hp}{kvs:List (List Key×V)}{xs:List (List Key×Addr×Value)}(r:KT H kvs xs)(k:List Key){b:Addr}{y:V}{u:Value}(hb:H b=some (.tup (k.map kV)))(ry:RelV y u) :
  KT H (putK kvs k y) (storedH xs k b u):=by
 have e:(kvs.any λkv=>decide (kv.1=k))=(atKey xs k).isSome:=by
  rw[tL,(r.val k).D8,Option.isSome_map]
 unfold putK storedH;rw[e];by_cases q:(atKey xs k).isSome=true
 ·rw[if_pos q,if_pos q];exact r.D9 k ry
 ·rw[if_neg q,if_neg q];exact Paired.snoc r ⟨rfl,hb,ry⟩
theorem KT.keeps{H H':Hp}{kvs:List (List Key×V)}{xs:List (List Key×Addr×Value)}(r:KT H kvs xs)(ht:∀b ys,H b=some (.tup ys)->H' b=some (.tup ys)):KT H' kvs xs :=
 Paired.Dt r λ_ _ z=>⟨z.1,ht _ _ z.2.1,z.2.2⟩
section
variable{P:Program}{w:World}{H:Hp}{h:Heap}{a:Addr}
theorem Na{u:HO}(ok:cX P w H h)(e:Rd H a u):dB P w H h a u:=e.ok ok
theorem oY{kvs:List (Key×V)}(ok:cX P w H h)(e:Rd H a (.dK kvs)):kvs.length<=sizeLine/\(a == sysModules)=false/\∃vs,KV kvs vs/\h.DictOf (eZ P w) a vs :=
 show dB P w H h a (.dK kvs) from Na ok e
theorem D_{kvs:List (Key×V)}(ok:cX P w H h)(e:H a=some (.dK kvs)):kvs.length<=sizeLine/\(a == sysModules)=false/\∃vs,KV kvs vs/\h.DictOf (eZ P w) a vs:=oY ok (.inl e)
theorem qC{ks:List Key}(ok:cX P w H h)(e:H a=some (.tup (ks.map kV))):(tupleKind (eZ P w)).is h ks a:=by
 obtain⟨_,aC,r,o,h1,h2,n,h3⟩:=(show dB P w H h a (.tup (ks.map kV)) from ok a _ e);exact⟨o,aC.toArray,n,h1,h2,h3,by simpa using M_ r⟩
theorem oZ{kvs:List (List Key×V)}(ok:cX P w H h)(e:Rd H a (.dT kvs)):kvs.length<=sizeLine/\(a == sysModules)=false/\
  ∃xs,KT H kvs xs/\h.DictOfH (tupleKind (eZ P w)) a xs:=by
 obtain⟨z,y,xs,r,o,es,ep,h1,h2,h3,h4,h5⟩:=(show dB P w H h a (.dT kvs) from Na ok e);refine⟨z,y,xs,r,o,es,ep,h1,h2,h3,h4,λx hx=>?_,h5⟩;have all:∀ {l:List (List Key×V)} {m:List (List Key×Addr×Value)},KT H l m->∀x∈m,(tupleKind (eZ P w)).is h x.1 x.2.1:=by
  intro l m q
  induction q with
  | nil=>intro x hx;exact nomatch hx
  | @cons p q ps qs hq t ih =>
   intro x hx;rcases List.mem_cons.mp hx with e | hx
   ·subst e;exact qC ok (by rw[← hq.1];exact hq.2.1)
   ·exact ih x hx
 exact all r x hx
theorem ZY{kvs:List (List Key×V)}(ok:cX P w H h)(e:H a=some (.dT kvs)):kvs.length<=sizeLine/\(a == sysModules)=false/\
  ∃xs,KT H kvs xs/\h.DictOfH (tupleKind (eZ P w)) a xs:=oZ ok (.inl e)
end
noncomputable def fQ(H:Hp)(a:Addr)(y:V)(r:Option V):Prop :=
 (∃kvs k,Rd H a (.dK kvs)/\y=kV k/\r=cC kvs k)\/∃kvs k b,Rd H a (.dT kvs)/\y = .ref b/\H b=some (.tup (k.map kV))/\r=cC kvs k
noncomputable def kW(H:Hp)(a:Addr)(y v:V)(H':Hp):Prop :=
 (∃kvs k,H a=some (.dK kvs)/\y=kV k/\kvs.length<sizeLine/\H' = upd H a (.dK (putK kvs k v)))\/
 ∃kvs k b,H a=some (.dT kvs)/\y = .ref b/\H b=some (.tup (k.map kV))/\kvs.length<sizeLine/\H' = upd H a (.dT (putK kvs k v))
theorem fQ.k{H:Hp}{a:Addr}{kvs:List (Key×V)}{k:Key}(e:H a=some (.dK kvs)):fQ H a (kV k) (cC kvs k):=.inl ⟨kvs,k,.inl e,rfl,rfl⟩
theorem fQ.t{H:Hp}{a b:Addr}{kvs:List (List Key×V)}{k:List Key}(e:H a=some (.dT kvs))(eb:H b=some (.tup (k.map kV))):fQ H a (.ref b) (cC kvs k):=.inr ⟨kvs,k,b,.inl e,rfl,eb,rfl⟩
theorem kW.k{H:Hp}{a:Addr}{kvs:List (Key×V)}{k:Key}{v:V}(e:H a=some (.dK kvs))(hl:kvs.length<sizeLine):kW H a (kV k) v (upd H a (.dK (putK kvs k v))):=.inl ⟨kvs,k,e,rfl,hl,rfl⟩
theorem kW.t{H:Hp}{a b:Addr}{kvs:List (List Key×V)}{k:List Key}{v:V}(e:H a=some (.dT kvs))(eb:H b=some (.tup (k.map kV)))(hl:kvs.length<sizeLine) :
  kW H a (.ref b) v (upd H a (.dT (putK kvs k v))):=.inr ⟨kvs,k,b,e,rfl,eb,hl,rfl⟩
section
variable{X:Cx}{pins:List (Addr×Obj)}{σ:St}{H:Hp}{s:Shared}{a:Addr}{y v:V}{u r:Value}{o:Option V}{A:Around}{E:Value->Shared->Prop}
theorem Inv.big(I:Inv X pins σ H s):sysModules<s.heap.objs.size:=by
 have h:mainGlobals<s.heap.objs.size:=(I.mod.glob.keeps I.bk).lt;exact Nat.lt_trans (by decide) h
theorem ZZ{Q:Value->Shared->Prop}(hu:A.units+1<cLine)(I:Inv X pins σ H s)(g:fQ H a y (some v))(ry:RelV y u)(h:∀w' s',Inv X pins σ H s'->RelV v w'->Q w' s') :
  wpAny (model X.prog X.w) A (getItem (.ref a) u) Q E s:=by
 rcases g with⟨kvs,k,e,ey,l⟩ | ⟨kvs,k,b,e,ey,eb,l⟩
 ·subst ey;obtain⟨z,hd,vs,rel,dd⟩:=oY I.aL e;obtain⟨w',hw,f_⟩:=fZ.some_of (v:=v) (o:=valueAt vs k) (by rw[l];exact rel.val k)
  exact wpAny_getItem_of (oX ry) dd.mapOf hw (h w' _ (I.tok _) f_)
 ·subst ey;cases (show u=Value.ref b from ry);obtain⟨z,hd,xs,rel,dd⟩:=oZ I.aL e;obtain⟨w',hw,f_⟩:=fZ.some_of (v:=v) (o:=(atKey xs k).map (·.2)) (by rw[l];exact rel.val k)
  obtain⟨p,hp,lX⟩:=Option.map_eq_some_iff.mp hw;refine wpAny_getItem_heap (tupleKind_room_in1 hu) (qC I.aL eb) dd hp ?_;rw[lX];exact h w' _ (I.tok _) f_
theorem Z0{Q:Value->Shared->Prop}(hu:A.units+1<cLine)(I:Inv X pins σ H s)(g:fQ H a y o)(ry:RelV y u)(h:∀s',Inv X pins σ H s'->Q (.bool o.isSome) s') :
  wpAny (model X.prog X.w) A (compareOp .In u (.ref a)) Q E s:=by
 rcases g with⟨kvs,k,e,ey,l⟩ | ⟨kvs,k,b,e,ey,eb,l⟩
 ·subst ey;obtain⟨z,hd,vs,rel,dd⟩:=oY I.aL e;refine wpAny_in_of (oX ry) hd dd.mapOf ?_;rw[← (rel.val k).D8,← l];exact h _ (I.tok _)
 ·subst ey;cases (show u=Value.ref b from ry);obtain⟨z,hd,xs,rel,dd⟩:=oZ I.aL e;refine wpAny_in_heap (tupleKind_room_in1 hu) (qC I.aL eb) hd dd ?_;have q:=(rel.val k).D8;rw[Option.isSome_map] at q;rw[← q,← l];exact h _ (I.tok _)
theorem Ea{h':Heap}{t':Nat}{ob:HO}(I:Inv X pins σ H s)(mu:sy (H a))(hs:Heap.SameBut a s.heap h')(he:∃q,h'.get? a=some q)(new:dB X.prog X.w (upd H a ob) h' a ob) :
  Inv X pins σ (upd H a ob) { s with heap:=h',toks:=t' } :=
 I.write (x:=a) (e:=a) mu (.inl rfl) (λb q hb z=>(hs.2 b hb).trans z) he new
theorem Nb{P:Program}{w:World}{H':Hp}{h':Heap}{kvs:List (Key×V)}{vs:List (Key×Value)}(z:kvs.length<=sizeLine)(hd:(a == sysModules)=false)(rel:KV kvs vs)(dd:h'.DictOf (eZ P w) a vs) :
  dB P w H' h' a (.dK kvs):=⟨z,hd,vs,rel,dd⟩
theorem Z1{H':Hp}{Q:Unit->Shared->Prop}(hu:A.units+1<cLine)(I:Inv X pins σ H s)(g:kW H a y v H')(ry:RelV y u)(rv:RelV v r)(h:∀s',Inv X pins σ H' s'->Q () s') :
  wpAny (model X.prog X.w) A (setItem (.ref a) u r) Q E s:=by
 rcases g with⟨kvs,k,e,ey,l,eH⟩ | ⟨kvs,k,b,e,ey,eb,l,eH⟩
 ·subst ey eH;obtain⟨z,hd,vs,rel,dd⟩:=D_ I.aL e;have hz:vs.length<=sizeLine:=by rw[← rel.length];exact z
  have hl:(putK kvs k v).length<=sizeLine:=by have:=D7 kvs k v;lia
  refine wpAny_setItem_pairs (hsz:=hz) (oX ry) dd λh' o7 hs=>h _ ?_;have he:∃q,h'.get? a=some q:=let ⟨q,_,_,hq,_⟩:=o7;⟨q,hq⟩
  exact Ea I (by rw[e];exact True.intro) hs he (Nb hl hd (rel.put k rv) o7)
 ·subst ey eH;cases (show u=Value.ref b from ry);obtain⟨z,hd,xs,rel,dd⟩:=ZY I.aL e;have hz:xs.length<=sizeLine:=by rw[← Paired.length rel];exact z
  have hl:(putK kvs k v).length<=sizeLine:=by have:=D7 kvs k v;lia
  refine wpAny_setItem_heap (hsz:=hz) (tupleKind_room_in1 hu) (qC I.aL eb) dd λh' o7 hs=>h _ ?_;obtain⟨q,es,ep,hq,h2,h3,h4,_,h5⟩:=o7;refine Ea I (by rw[e];exact True.intro) hs ⟨q,hq⟩ ⟨hl,hd,_,(rel.put k eb rv).keeps λc ys ec=>?_,q,es,ep,hq,h2,h3,h4,h5⟩
  rw[aD (qg ec e (λz=>nomatch z))];exact ec
end
section
variable{X:Cx}{pins:List (Addr×Obj)}{σ:St}{H:Hp}{s:Shared}{a:Addr}{kvs:List (Key×V)}{k:Key}{u:Value}{A:Around}{E:Value->Shared->Prop}
theorem Z2{v:V}{more:List Value}{Q:Value->Shared->Prop}(I:Inv X pins σ H s)(e:H a=some (.dK kvs))(ry:RelV (kV k) u)(l:cC kvs k=some v)(hm:more = []\/∃x,more = [x])
  (h:∀w' s',Inv X pins σ (upd H a (.dK (iD kvs k))) s'->RelV v w'->Q w' s'):wpAny (model X.prog X.w) A (call (.builtin "dict.pop") (.ref a::u::more)) Q E s:=by
 obtain⟨z,hd,vs,rel,dd⟩:=D_ I.aL e;obtain⟨w',hw,f_⟩:=fZ.some_of (v:=v) (o:=valueAt vs k) (by rw[← l];exact rel.val k)
 have hp:(keyPart u).isSome=true:=by
  cases k with
  | inl i=>obtain⟨t,q⟩:=(show ∃t,u=Value.int i t from ry);subst q;rfl
  | inr x=>obtain⟨t,q⟩:=(show ∃t,u=Value.str x t from ry);subst q;rfl
 have ha:argsOk "dict.pop" ⟨.ref a::u::more,[]⟩:=by
  rcases hm with q | ⟨x,q⟩
  ·subst q;exact PySem.F.args_dict_pop_2 _ _
  ·subst q;exact PySem.F.args_dict_pop_3 _ _ _
 refine call_meetsIn PySem.F.slot_dict_pop dd.typeIs PySem.F.entry_dict_pop ha (meets_dict_pop_there (eZ X.prog X.w) a (oX ry) more hm hp)
  ⟨vs,w',dd,by rw[← rel.length];exact z,hw,λh' o7 hs=>h w' _ ?_ f_⟩
 have he:∃q,h'.get? a=some q:=let ⟨q,_,_,hq,_⟩:=o7;⟨q,hq⟩
 exact Ea I (by rw[e];exact True.intro) hs he (Nb (Nat.le_trans (ZX kvs k) z) hd (rel.drop k) o7)
end
noncomputable def Nc(i:Expr):Prop:=∀ov iv,subscripted i false ov iv=operate [ov,iv] (getItem ov iv)
theorem Z3{prog:Program}{w:World}{A:Around}{E:Value->Shared->Prop}{s:Shared}{env:Env}{value slice:Expr}{pos:Pos}{T id:String}{Q:Value->Shared->Prop}
  (hl:typeLookup (.type T) "__getitem__" = pure (some (.builtin id))) (hs:Nc slice)
  (h:wpAny (model prog w) A (eval value env) (λo bg=>wpAny (model prog w) A (eval slice env) (λi jR=>jR.TypeIs o T/\wpAny (model prog w) A (getItem o i) Q E jR) E bg) E s) :
  wpAny (model prog w) A (eval (.Subscript value slice pos) env) Q E s:=by
 refine Subscript_ (wpAny_mono h (λo bg kX=>wpAny_mono kX (λi jR tM=>?_) λ_ _ x=>x) λ_ _ x=>x);obtain⟨hT,tM⟩:=tM;unfold subscriptTail;refine wpAny_bind ?_;rw[getitemInPython_of_ne hT.not_modules];refine wpAny_bind (wpAny_specialOf hT hl ?_);have fin:wpAny (model prog w) A (subscripted slice false o i) (λr jB=>wpAny (model prog w) A (letTemporaryGo value o r >>= λ_=>pure r) Q E jB) E jR:=by
  rw[hs o i];exact wpAny_operating (wpAny_mono tM (λr jB xu=>wpAny_bind (wpAny_letTemporaryGo (wpAny_pure xu))) λ_ _ x=>x)
 first
  | exact wpAny_pure (wpAny_bind fin)
  | exact wpAny_bind (wpAny_pure (wpAny_bind fin))
  | exact wpAny_bind fin
theorem Z4{X:Cx}{pins:List (Addr×Obj)}{σ:St}{H:Hp}{s:Shared}{a:Addr}{y:V}{o:Option V}(I:Inv X pins σ H s)(g:fQ H a y o):s.TypeIs (.ref a) "dict" := by
 rcases g with⟨kvs,k,e,_,_⟩ | ⟨kvs,k,b,e,_,_,_⟩
 ·obtain⟨_,_,vs,_,dd⟩:=oY I.aL e;exact dd.typeIs
 ·obtain⟨_,_,xs,_,dd⟩:=oZ I.aL e;exact dd.typeIs
noncomputable def Z5(td ty:TE):TE:=λσ H Q=>td σ H λx H1=>ty σ H1 λy H2=>∃a v,x = .ref a/\fQ H2 a y (some v)/\Q v H2
noncomputable def Z6(ty td:TE):TE:=λσ H Q=>ty σ H λy H1=>td σ H1 λx H2=>∃a o,x = .ref a/\fQ H2 a y o/\Q (.bl o.isSome) H2
noncomputable def akh(ty td:TE):TE:=λσ H Q=>ty σ H λy H1=>td σ H1 λx H2=>∃a o,x = .ref a/\fQ H2 a y o/\Q (.bl (!o.isSome)) H2
noncomputable def Z7(td ty tv:TE):TS:=λD σ H=>tv σ H λv H1=>td σ H1 λx H2=>ty σ H2 λy H3=>∃a H4,x = .ref a/\kW H3 a y v H4/\D.nx σ H4
section
variable{X:Cx}{o i e value:Expr}{pos pos' YU:Pos}{td ty tv:TE}
theorem Z8(hu:X.A.units+1<cLine)(ho:PE X o td)(hi:PE X i ty)(hs:Nc i):PE X (.Subscript o i pos) (Z5 td ty):=by
 intro pins s σ H Q I h;refine Z3 PySem.F.slot_dict_getitem.lookup hs (aM (ho pins s σ H _ I h) λu s1 ⟨x,H1,I1,rx,q1⟩=>aM (hi pins s1 σ H1 _ I1 q1) λiv s2 ⟨y,H2,I2,ry,a,v,ex,g,q2⟩=>?_);subst ex;obtain rfl:u=Value.ref a:=rx;exact⟨Z4 I2 g,ZZ hu I2 g ry λw' s3 I3 f_=>⟨v,H2,I3,f_,q2⟩⟩
theorem Eb(hu:X.A.units+1<cLine)(hi:PE X i ty)(ho:PE X o td):PC X .In i o (Z6 ty td):=by
 intro pins s σ H Q I h;refine aM (hi pins s σ H _ I h) λiv s1 ⟨y,H1,I1,ry,q1⟩=>aM (ho pins s1 σ H1 _ I1 q1) λu s2 ⟨x,H2,I2,rx,a,ov,ex,g,q2⟩=>?_;subst ex;obtain rfl:u=Value.ref a:=rx;exact Z0 hu I2 g ry λs3 I3=>⟨.bl ov.isSome,H2,I3,rfl,q2⟩
theorem xw(hu:X.A.units+1<cLine)(ho:PE X o td)(hi:PE X i ty)(hv:PE X value tv)(hs:swapsWith value (some (.Subscript o i pos')) pos.line X.env=pure false) :
  PS X (.Assign [.Subscript o i pos'] value pos) (Z7 td ty tv):=by
 intro pins s σ H D I h;refine wpAny_Assign_Subscript (aM (hv pins s σ H _ I h) λr s1 ⟨v,H1,I1,rv,q1⟩=>aM (ho pins s1 σ H1 _ I1 q1) λu s2 ⟨x,H2,I2,rx,q2⟩=>aM (hi pins s2 σ H2 _ I2 q2) λiv s3 ⟨y,H3,I3,ry,a,H4,ex,g,q3⟩=>?_) hs;subst ex;obtain rfl:u=Value.ref a:=rx;exact Z1 hu I3 g ry rv λs4 I4=>⟨σ,H4,I4,q3⟩
end
theorem Z9{P:Program}{w:World}{H:Hp}(h:Heap)(hb:sysModules<h.objs.size):dB P w H (h.push { cls:=.type "dict",data:=.dict #[] }) h.objs.size (.dK []) :=
 ⟨Nat.zero_le _,beq_eq_false_iff_ne.mpr (Ne.symm (Nat.ne_of_lt hb)),[],.nil,Heap.DictOf.new h⟩
theorem Z_{P:Program}{w:World}{H:Hp}(h:Heap)(hb:sysModules<h.objs.size):dB P w H (h.push { cls:=.type "dict",data:=.dict #[] }) h.objs.size (.dT []) :=
 ⟨Nat.zero_le _,beq_eq_false_iff_ne.mpr (Ne.symm (Nat.ne_of_lt hb)),[],.nil,_,#[],0,Heap.get?_push_size _ rfl,⟨rfl,rfl,rfl⟩,rfl,rfl,List.nodup_nil⟩
noncomputable def aaa:TE:=λ_ H Q=>∀p,H p=none->Q (.ref p) (upd H p (.dK []))
noncomputable def aab:TE:=λ_ H Q=>∀p,H p=none->Q (.ref p) (upd H p (.dT []))
section
variable{X:Cx}{pos:Pos}
theorem tN:PE X (.Dict [] [] pos) aaa:=λpins s σ H Q I h =>
 wpAny_Dict_empty ⟨.ref s.heap.objs.size,_,I.laid (a:=s.heap.objs.size) (o:=.dK []) (t':=s.toks) (λ_ _ q=>Heap.get?_push_of_some _ q) (Nat.le_refl _) (Z9 s.heap I.big),rfl,h _ (I.aL.fresh (Nat.le_refl _))⟩
theorem aac:PE X (.Dict [] [] pos) aab:=λpins s σ H Q I h =>
 wpAny_Dict_empty ⟨.ref s.heap.objs.size,_,I.laid (a:=s.heap.objs.size) (o:=.dT []) (t':=s.toks) (λ_ _ q=>Heap.get?_push_of_some _ q) (Nat.le_refl _) (Z_ s.heap I.big),rfl,h _ (I.aL.fresh (Nat.le_refl _))⟩
end
structure M1(X:Cx)(o:Expr)(m:Str)(apos:Pos)(e:Expr)(dR:Pos):Prop where
 base:attributeBase o m X.env (eval o X.env)=eval o X.env
 xy:((backTo dR (starEach [e] X.env)).all (λx => !x.1) && (backToKw dR (keywordEach [] X.env)).all (λx=>x.1.isSome)
  && decide (([e]:List Expr).length+([]:List Keyword).length+(if ([]:List Keyword).isEmpty then 0 else 1)<30))=true
 line:(apos.endLine == dR.line)=true
 trees:backTo dR (starEach [e] X.env) = [(false,eval e X.env)]
structure M2(X:Cx)(o:Expr)(m:Str)(apos:Pos)(e f:Expr)(dR:Pos):Prop where
 base:attributeBase o m X.env (eval o X.env)=eval o X.env
 xy:((backTo dR (starEach [e,f] X.env)).all (λx => !x.1) && (backToKw dR (keywordEach [] X.env)).all (λx=>x.1.isSome)
  && decide (([e,f]:List Expr).length+([]:List Keyword).length+(if ([]:List Keyword).isEmpty then 0 else 1)<30))=true
 line:(apos.endLine == dR.line)=true
 trees:backTo dR (starEach [e,f] X.env) = [(false,eval e X.env),(false,eval f X.env)]
noncomputable def xA(H:Hp)(a:Addr):Prop:=(∃kvs,Rd H a (.dK kvs))\/∃kvs,Rd H a (.dT kvs)
theorem Ec{X:Cx}{pins:List (Addr×Obj)}{σ:St}{H:Hp}{s:Shared}{a:Addr}(I:Inv X pins σ H s)(d:xA H a) :
  s.TypeIs (.ref a) "dict"/\(∀b,Value.ref a = .ref b->∃ob,s.heap.get? b=some ob/\ob.dict=none)/\(a == sysModules)=false:=by
 rcases d with⟨kvs,e⟩ | ⟨kvs,e⟩
 ·obtain⟨_,hd,vs,_,dd⟩:=oY I.aL e;refine⟨dd.typeIs,λb q=>?_,hd⟩;cases q;obtain⟨ob,_,_,h1,h2,_⟩:=dd;exact⟨ob,h1,h2.2.1⟩
 ·obtain⟨_,hd,xs,_,dd⟩:=oZ I.aL e;refine⟨dd.typeIs,λb q=>?_,hd⟩;cases q;obtain⟨ob,_,_,h1,h2,_⟩:=dd;exact⟨ob,h1,h2.2.1⟩
section
variable{X:Cx}{pins:List (Addr×Obj)}{σ:St}{H:Hp}{s:Shared}{a:Addr}{y d:V}{u r:Value}{o:Option V}{A:Around}{E:Value->Shared->Prop}
theorem aad{Q:Value->Shared->Prop}(hu:A.units+1<cLine)(I:Inv X pins σ H s)(g:fQ H a y o)(ry:RelV y u)(h:∀w' s',Inv X pins σ H s'->RelV (o.getD .aN) w'->Q w' s') :
  wpAny (model X.prog X.w) A (call (.builtin "dict.get") [.ref a,u]) Q E s:=by
 rcases g with⟨kvs,k,e,ey,l⟩ | ⟨kvs,k,b,e,ey,eb,l⟩
 ·subst ey;obtain⟨z,hd,vs,rel,dd⟩:=oY I.aL e;refine call_meetsIn PySem.F.slot_dict_get dd.typeIs PySem.F.entry_dict_get (PySem.F.args_dict_get_2 _ _) (meets_dict_get (eZ X.prog X.w) a (oX ry) hd) ⟨_,dd.mapOf,h _ _ (I.tok _) ?_⟩;rw[l];exact(rel.val k).getD rfl
 ·subst ey;cases (show u=Value.ref b from ry);obtain⟨z,hd,xs,rel,dd⟩:=oZ I.aL e;refine call_meetsIn PySem.F.slot_dict_get dd.typeIs PySem.F.entry_dict_get (PySem.F.args_dict_get_2 _ _) (meetsH_dict_get (tupleKind (eZ X.prog X.w)) a b hd) ⟨tupleKind_room_in1 hu,k,xs,qC I.aL eb,dd,h _ _ (I.tok _) ?_⟩;rw[l];exact(rel.val k).getD rfl
theorem aae{Q:Value->Shared->Prop}(hu:A.units+1<cLine)(I:Inv X pins σ H s)(g:fQ H a y o)(ry:RelV y u)(rd:RelV d r)(h:∀w' s',Inv X pins σ H s'->RelV (o.getD d) w'->Q w' s') :
  wpAny (model X.prog X.w) A (call (.builtin "dict.get") [.ref a,u,r]) Q E s:=by
 rcases g with⟨kvs,k,e,ey,l⟩ | ⟨kvs,k,b,e,ey,eb,l⟩
 ·subst ey;obtain⟨z,hd,vs,rel,dd⟩:=oY I.aL e;refine call_meetsIn PySem.F.slot_dict_get dd.typeIs PySem.F.entry_dict_get (PySem.F.args_dict_get_3 _ _ _) (meets_dict_get_default (eZ X.prog X.w) a (oX ry) hd r) ⟨_,dd.mapOf,h _ _ (I.tok _) ?_⟩;rw[l];exact(rel.val k).getD rd
 ·subst ey;cases (show u=Value.ref b from ry);obtain⟨z,hd,xs,rel,dd⟩:=oZ I.aL e;refine call_meetsIn PySem.F.slot_dict_get dd.typeIs PySem.F.entry_dict_get (PySem.F.args_dict_get_3 _ _ _) (meetsH_dict_get_default (tupleKind (eZ X.prog X.w)) a b hd r) ⟨tupleKind_room_in1 hu,k,xs,qC I.aL eb,dd,h _ _ (I.tok _) ?_⟩;rw[l];exact(rel.val k).getD rd
end
noncomputable def aaf(td ty:TE):TE:=λσ H Q=>td σ H λx H1=>∃a,x = .ref a/\xA H1 a/\ty σ H1 λy H2=>∃o,fQ H2 a y o/\Q (o.getD .aN) H2
noncomputable def Nd(td ty tx:TE):TE:=λσ H Q=>td σ H λx H1=>∃a,x = .ref a/\xA H1 a/\ty σ H1 λy H2=>tx σ H2 λz H3=>∃o,fQ H3 a y o/\Q (o.getD z) H3
noncomputable def Nf(td ty:TE):TE:=λσ H Q=>td σ H λx H1=>∃a,x = .ref a/\xA H1 a/\ty σ H1 λy H2=>∃kvs k v,H2 a=some (.dK kvs)/\y=kV k/\cC kvs k=some v/\Q v (upd H2 a (.dK (iD kvs k)))
section
variable{X:Cx}{o e f:Expr}{apos dR:Pos}{td ty tx:TE}
theorem aag(hu:X.A.units+1<cLine)(ho:PE X o td)(he:PE X e ty)(m:M1 X o "get" apos e dR):PE X (.Call (.Attribute o "get" apos) [e] [] dR) (aaf td ty):=by
 intro pins s σ H Q I h;refine wpAny_Call_method m.base m.xy m.line PySem.F.plainAttrs_dict PySem.F.slot_dict_get PySem.F.type_dict_get (aM (ho pins s σ H _ I h) λu s1 ⟨x,H1,I1,rx,a,ex,d,q1⟩=>?_);subst ex;obtain rfl:u=Value.ref a:=rx;obtain⟨t1,t2,_⟩:=Ec I1 d;refine⟨t1,t2,?_⟩;rw[m.trees];refine Calls.callWith_builtin rfl (Calls.evalArgs_plain (Calls.spliced_cons (aM (he pins s1 σ H1 _ I1 q1) λiv s2 ⟨y,H2,I2,ry,ov,g,q2⟩=>Calls.spliced_nil ?_)));exact aad hu I2 g ry λw' s3 I3 f_=>⟨_,H2,I3,f_,q2⟩
theorem aah(hu:X.A.units+1<cLine)(ho:PE X o td)(he:PE X e ty)(hf:PE X f tx)(m:M2 X o "get" apos e f dR):PE X (.Call (.Attribute o "get" apos) [e,f] [] dR) (Nd td ty tx):=by
 intro pins s σ H Q I h;refine wpAny_Call_method m.base m.xy m.line PySem.F.plainAttrs_dict PySem.F.slot_dict_get PySem.F.type_dict_get (aM (ho pins s σ H _ I h) λu s1 ⟨x,H1,I1,rx,a,ex,d,q1⟩=>?_);subst ex;obtain rfl:u=Value.ref a:=rx;obtain⟨t1,t2,_⟩:=Ec I1 d;refine⟨t1,t2,?_⟩;rw[m.trees];refine Calls.callWith_builtin rfl (Calls.evalArgs_plain (Calls.spliced_cons (aM (he pins s1 σ H1 _ I1 q1) λiv s2 ⟨y,H2,I2,ry,q2⟩ =>
  Calls.spliced_cons (aM (hf pins s2 σ H2 _ I2 q2) λfv s3 ⟨z,H3,I3,rz,ov,g,q3⟩=>Calls.spliced_nil ?_))))
 exact aae hu I3 g ry rz λw' s4 I4 f_=>⟨_,H3,I4,f_,q3⟩
theorem aai(ho:PE X o td)(he:PE X e ty)(m:M1 X o "pop" apos e dR):PE X (.Call (.Attribute o "pop" apos) [e] [] dR) (Nf td ty):=by
 intro pins s σ H Q I h;refine wpAny_Call_method m.base m.xy m.line PySem.F.plainAttrs_dict PySem.F.slot_dict_pop PySem.F.type_dict_pop (aM (ho pins s σ H _ I h) λu s1 ⟨x,H1,I1,rx,a,ex,d,q1⟩=>?_);subst ex;obtain rfl:u=Value.ref a:=rx;obtain⟨t1,t2,_⟩:=Ec I1 d;refine⟨t1,t2,?_⟩;rw[m.trees];refine Calls.callWith_builtin rfl (Calls.evalArgs_plain (Calls.spliced_cons (aM (he pins s1 σ H1 _ I1 q1) λiv s2 ⟨y,H2,I2,ry,kvs,k,v,ea,ey,l,q2⟩=>Calls.spliced_nil ?_)));subst ey;exact Z2 I2 ea ry l (.inl rfl) λw' s3 I3 f_=>⟨v,_,I3,f_,q2⟩
end
section
variable{X:Cx}{pins:List (Addr×Obj)}{σ:St}{H:Hp}{s:Shared}{a:Addr}{kvs:List (Key×V)}{A:Around}{E:Value->Shared->Prop}
end
section
variable{X:Cx}{pins:List (Addr×Obj)}{σ:St}{H:Hp}{s:Shared}{a:Addr}{y:V}{u:Value}{A:Around}{E:Value->Shared->Prop}
end
end _L
namespace Ef
open PySem PySem.W PySem.Calls PyProof.Rows
theorem aaj{P:Params}{h:Heap}:∀(ns:List Int) (vs:List Value),WellAll P h vs (ns.map WData.int)->IntsAre vs ns:=by
 intro ns
 induction ns with
 | nil =>
  intro vs w;rw[List.map_nil] at w;cases w;exact .nil
 | cons n ns ih =>
  intro vs w;rw[List.map_cons] at w;cases w with
  | cons a b =>
   cases a;exact .cons _ _ (ih _ b)
theorem aak{l:OpenLaw}{n:Nat}(hn:l.most=some n){P:Params}{h:Heap}{args:List WData}{vals:List Value}
  (xB:l.row.toRowW.claim.pre args=true) (Eg:WellAll P h vals args) :
  ∃a vs ns,vals = [Value.ref a]/\args = [WData.list (ns.map WData.int)]/\h.get? a=some { cls:=.type "list",data:=.seq vs.toArray }/\IntsAre vs ns/\ns.length<=n:=by
 have hsh:WShape.hasAll [] args [.list .int] = true:=(pre_splitW xB).1;have hc:l.pre.holds [] { args:=args }=true:=(pre_splitW xB).2;obtain⟨d,r,rfl,h1,h2⟩:=hasAllW_cons hsh;obtain rfl:=hasAllW_nil h2;obtain⟨xs,rfl,h3⟩:=hasW_list h1;obtain⟨ns,rfl⟩:=items_int h3;have hlen:ns.length<=n:=by
  unfold OpenLaw.pre at hc;have h4:(WTm.not (.lt (.lit (.int (n:Int))) (.len (.arg 0)))).holds [] { args:=[.list (ns.map .int)] }=true:=by
   have h4:=(holds_andW hc).1;rw[hn] at h4;exact h4
  have h5:=condW_of h4 (w_not (w_lt w_lit (w_len_list (w_arg rfl))));rw[List.length_map] at h5;refine Nat.le_of_not_lt λq=>?_
  have q':(n:Int)<((ns.length:Nat):Int):=by lia
  first
   | (rw[decide_eq_true q'] at h5;exact absurd h5 (by decide))
   | (simp at h5;lia)
 cases Eg with
 | cons w1 w2 =>
  cases w2;cases w1 with
  | list ho tG=>exact⟨_,_,ns,rfl,rfl,ho,aaj ns _ tG,hlen⟩
theorem aal(l:OpenLaw)(args:List WData):l.row.toRowW.claim.post args (.bool true) args=true :=
 postW_of (r:=l.row.toRowW) (X:=(true == true))
  (show WShape.has [] (.bool true) .bool=true by first | rfl | decide | simp[WShape.has,WShape.arms,WShape.armsAll])
  (show (WTm.eq .res (.lit (.bool true))).value [] { args:=args,res:=some (.bool true),after:=args }=some (.bool (true == true)) from w_eq_bool (w_res rfl) w_lit) rfl
theorem Ng{l:OpenLaw}{n:Nat}{q:Program}{loose:List Str}{XP:(Str->Option Value)->Heap->Prop}{YP:World->Heap->Prop}{d:DefRec}
  (hn:l.most=some n) (o8:d.params.defaults = [])
  (call:∀(w:World) (dh bg:Shared) (mg mb:Str->Option Value) (fa:Addr) (o:Obj) (pm cd doc:Value) (a:Addr) (vs:List Value) (ns:List Int),
   Ground q loose [] XP w dh mg mb bg.heap->YP w bg.heap->
   bg.heap.get? fa=some o->o.data = .func (docDef d.name d.params d.body d.scope pm cd doc)->bg.heap.CodeRec cd d.name->mg d.name=some (.ref fa)->
   bg.heap.get? a=some { cls:=.type "list",data:=.seq vs.toArray }->IntsAre vs ns->ns.length<=n->bg.gens = #[]->
   codeAny (model l.prog w) callerA (.call (.ref fa) ⟨[.ref a],[]⟩) (λr s'=>r = .ok (.ret (.bool true))/\OldK bg.heap s'.heap/\s'.os=bg.os/\AllBare s'.gens) bg) :
  WalkO q loose XP YP l.row.toRowW d [] (λf vs=>PySem.call f vs):=by
 intro w dh bg mg mb G Y fa o pm cd doc dV kV ho hd gm hD hmg hg args vals as xB aki hrd Eg hlo;obtain rfl:dV = .none:=Dflts.none hD o8;obtain rfl:kV = .none:=Dflts.noKw hD;obtain⟨a,vs,ns,rfl,rfl,tO,hints,hlen⟩:=aak hn xB Eg;refine enter_call (codeAny_mono (call w dh bg mg mb fa o pm cd doc a vs ns G Y ho (fd_plain hd) gm hmg tO hints hlen hg) λr s' hq=>?_);obtain⟨rfl,h2,h3,h4⟩:=hq;exact⟨.inl ⟨.bool true,.bool true,[],rfl,λ_=>rfl,.bool true,aal l _,λ_=>⟨List.Pairwise.nil,λ_ hm=>(nomatch hm)⟩⟩,h2,h3,h4⟩
section
variable{prog:Program}{w:World}{A:Around}{E:Value->Shared->Prop}{s:Shared}{K:Frag}
noncomputable def ledger(h:Heap)(L d:Addr):List (Addr×Obj):=(List.range h.objs.size).filterMap λa=>if a=L\/a=d then none else(h.get? a).map λo=>(a,o)
end
end Ef
namespace _L
open PySem PySem.Spec PyProof.Rows
theorem xC:∀ {vs:List Value} {ns:List Int},IntsAre vs ns->Vals (ns.map V.int) vs
 | _,_,.nil=>.nil
 | _,_,.cons n t h=>.cons ⟨t,rfl⟩ (xC h)
noncomputable def Eh(H:Hp):Prop:=∀b,H b=none\/∃o xs,H b=some (.cI o (.lst xs))
theorem aam{P:Program}{w:World}{K:PySem.W.Frag}{mg mb:Str->Option Value}{CX:e9}{k:Nat}{fa a:Addr}{fd:FuncData}{x:Str}{sp:Sp}{bg:Shared}{vs:List Value}{ns:List Int}
  (KX:K.In bg.heap) (j4:bg.heap.Ns mainGlobals mg) (hb:bg.heap.Ns builtinsNs mb) (Ei:∀x:Str,x≠"__name__"->mb x=bootBuiltins x) (Ej:bg.heap.NoLimit) (hg:bg.gens = #[])
  (ha:bg.heap.get? a=some { cls:=.type "list",data:=.seq vs.toArray }) (hi:IntsAre vs ns) (hl:ns.length<=sizeLine) (hr:cB k callerA)
  (F:∀base:Heap,K.In base->base.Ns mainGlobals mg->aW P w K mg base CX k fa fd [x] sp) (jC:∀(s:Shared) (u:Value),BindsTo s fd ⟨[u],[]⟩ [(x,u)])
  (g7:∀H:Hp,Eh H->aE K H a (ns.map V.int)->sp [.ref a] H (λv _=>v = .bl true) λ_ _ _=>False)
  (Ek:∀H e s',CX [] H bg (λ_ _ _=>False) e s'->False) :
  codeAny (model P w) callerA (.call (.ref fa) ⟨[.ref a],[]⟩) (λr s'=>r = .ok (.ret (.bool true))/\OldK bg.heap s'.heap/\s'.os=bg.os/\AllBare s'.gens) bg:=by
 have rv:=xC hi;have El:=hi.length
 -- from an abstract heap in which nothing but the script may be tracked
 have core:∀H:Hp,Eh H->aE K H a (ns.map V.int)->cX P w H bg.heap->(∀b,H b≠none->b=a)->(H a≠none->K.lookup a=none)->
   codeAny (model P w) callerA (.call (.ref fa) ⟨[.ref a],[]⟩) (λr s'=>r = .ok (.ret (.bool true))/\OldK bg.heap s'.heap/\s'.os=bg.os/\AllBare s'.gens) bg:=by
  intro H hO hS aL hA hK;have o9:∀ {b:Addr} {o:Obj},bg.heap.get? b=some o->H b=none->(iz bg.heap H).get? b=some o:=λe n=>LK e n;have tH:∀ {b:Addr} {o:Obj} {es:Array DictEntry} {ep:Nat},bg.heap.get? b=some o->o.data = .dict es ep->H b=none:=λ{b o es ep} e d=>by
   cases q:H b with
   | none=>rfl
   | some u =>
    have e':b=a:=hA b (by rw[q];simp)
    subst e';rw[ha] at e;cases e;have d':Data.seq vs.toArray _=Data.dict es ep:=d;cases d'
  have lY:∀ {b:Addr} {m:Str->Option Value},bg.heap.Ns b m->(iz bg.heap H).Ns b m:=λ{b m} ⟨o,es,ep,e,d,r⟩=>⟨o,es,ep,o9 e (tH e d),d,r⟩;have tQ:K.In (iz bg.heap H):=λb o e=>o9 (KX b o e) (by
   cases q:H b with
   | none=>rfl
   | some u =>
    have e':b=a:=hA b (by rw[q];simp)
    subst e';rw[hK (by rw[q];simp)] at e;cases e)
  have hM:Mod K mg (iz bg.heap H):=⟨tQ,lY j4,⟨mb,lY hb,Ei⟩,let ⟨mc,h1,h2⟩:=Ej;⟨mc,lY h1,h2⟩⟩
  have e0:nh P w K mg (iz bg.heap H) callerA [] bg H:=⟨rfl,hM,λb o e=>LL e,Nat.le_of_eq (LJ _ _),trivial,λb hb=>absurd (show b∈([]:List Addr) from hb) (by simp),aL,.of_eq hg⟩
  refine codeAny_mono ((F _ tQ (lY j4)).run callerA [] bg H ⟨[.ref a],[]⟩ [.ref a] [.ref a] _ _ hr e0 (jC bg (.ref a)) (.cons rfl .nil) (g7 H hO hS)) λr s' h=>?_;cases r with
  | error e=>exact(Ek H e s' h).elim
  | ok fl =>
   cases fl with
   | next=>exact False.elim h
   | brk=>exact False.elim h
   | cont=>exact False.elim h
   | ret u =>
    obtain⟨v,H',os,bare,un,xE,r',q⟩:=h;have q':v = .bl true:=q;subst q';obtain rfl:u=Value.bool true:=r';refine⟨rfl,OldK.of_keep λb o e=>?_,os,bare⟩;cases q:H b with
    | none=>exact un.keep b o e q (by intro z;exact absurd (show b∈([]:List Addr) from z) (by simp)) (by simp)
    | some u =>
     rcases hO b with z | ⟨ob,xs,z⟩
     ·rw[q] at z;cases z
     ·have z2:=un.jP b ob _ z;obtain⟨e1,_⟩:=aL b _ z;obtain⟨e2,_⟩:=xE b _ z2;rw[e] at e1;cases e1;exact e2
 cases hk:K.lookup a with
 | some o =>
  -- the script is one of the module's own objects
  have e:=KX a o hk;rw[ha] at e;cases e;refine core (λ_=>none) (λ_=>.inl rfl) (.inr ⟨_,vs.toArray,_,hk,rfl,rfl,rfl,by rw[List.size_toArray,El];exact hl,by simpa using rv⟩) (λb u z=>by have z':(none:Option HO)=some u:=z;cases z') (λb z=>absurd rfl z) λz=>absurd rfl z
 | none =>
  refine core (λb=>if b=a then some (.cI { cls:=.type "list",data:=.seq vs.toArray } (.lst (ns.map V.int))) else none) (λb=>?_) (.inl (.inr ⟨{ cls:=.type "list",data:=.seq vs.toArray },if_pos rfl⟩)) (λb u z=>?_) (λb z=>?_) λ_=>hk
  ·by_cases hb:b=a
   ·exact .inr ⟨_,_,if_pos hb⟩
   ·exact .inl (if_neg hb)
  ·by_cases hb:b=a
   ·have z':=(if_pos hb).symm.trans z;cases z';subst hb;exact⟨ha,by rw[List.length_map];exact hl,vs,_,rv,ha⟩
   ·have z':=(if_neg hb).symm.trans z;cases z'
  ·by_cases hb:b=a
   ·exact hb
   ·exact absurd (if_neg hb) z
noncomputable abbrev KOf{K:PySem.W.Frag}{h:Heap}(_:K.In h):PySem.W.Frag:=K
theorem akj{l:PySem.W.OpenLaw}{n k:Nat}{q:Program}{loose:List Str}{XP:(Str->Option Value)->Heap->Prop}{YP:World->Heap->Prop}{d:DefRec}{K:Params->PySem.W.Frag}{CX:World->e9}{sp:World->Sp}{x:Str}
  (hn:l.most=some n) (qx:n<=sizeLine) (o8:d.params.defaults = []) (hr:cB k callerA)
  (hY:∀(w:World) (h:Heap),YP w h->(K w.params).In h)
  (F:∀(w:World) (mg:Str->Option Value) (fa:Addr) (h:Heap),(K w.params).In h->h.Ns mainGlobals mg->mg d.name=some (.ref fa)->
   ∃fd:FuncData,(∀(s:Shared) (u:Value),BindsTo s fd ⟨[u],[]⟩ [(x,u)])/\
    ∀base:Heap,(K w.params).In base->base.Ns mainGlobals mg->aW l.prog w (K w.params) mg base (CX w) k fa fd [x] (sp w))
  (g7:∀(w:World) (H:Hp) (a:Addr) (ns:List Int),ns.length<=n->Eh H->aE (K w.params) H a (ns.map V.int)->sp w [.ref a] H (λv _=>v = .bl true) λ_ _ _=>False)
  (Ek:∀(w:World) (H:Hp) (s:Shared) (e:Value) (s':Shared),CX w [] H s (λ_ _ _=>False) e s'->False) :
  PySem.W.WalkO q loose XP YP l.row.toRowW d [] (λf vs=>PySem.call f vs):=by
 refine Ef.Ng hn o8 λw dh bg mg mb fa o pm cd doc a vs ns G Y ho hd gm hmg tO hints hlen hg=>?_;have KX:=hY w _ Y;obtain⟨fd,hb,hF⟩:=F w mg fa _ KX G.T.g hmg;exact aam KX G.T.g G.T.b G.T.builtins G.T.nolimit hg tO hints (Nat.le_trans hlen qx) hr hF hb (λH hO hS=>g7 w H a ns hlen hO hS) λH e s'=>Ek w H bg e s'
noncomputable def inClass(s:Stmt)(j:Nat):Stmt:=match s with
 | .ClassDef _ _ _ body _ _ _ _ _ _ _=>body.getD j (.Pass ⟨0,0,0,0⟩)
 | _=>.Pass ⟨0,0,0,0⟩
noncomputable def d_(s:Stmt):Arguments:=match s with
 | .FunctionDef _ a _ _ _ _ _ _ _ _=>a
 | _=>{ posonlyargs:=[],args:=[],vararg:=none,kwonlyargs:=[],kw_defaults:=[],kwarg:=none,defaults:=[] }
noncomputable def dD(s:Stmt):List Stmt:=match s with
 | .FunctionDef _ _ b _ _ _ _ _ _ _=>b
 | _=>[]
noncomputable def aP(s:Stmt):Scope:=match s with
 | .FunctionDef _ _ _ _ _ _ sc _ _ _=>sc
 | _=>{ kind:=.function,names:=[],isGenerator:=false,isCoroutine:=false }
noncomputable abbrev bu:e9:=λ_ _ _ _ _ _=>False
noncomputable abbrev E0:XK:=λ_ _ _=>False
theorem aO{X:Cx}:Passes bu X E0:=λ_ _ _ _ _ _ _ h=>h.elim
structure aJ(K:PySem.W.Frag)(x qual:Str)(st:Stmt)(f:Addr)(fd:FuncData):Prop where
 ex:∃(oc:Value) (od:Option Addr) (kV doc pm:Value) (an:Option Addr) (aR ct:Value) (iC:Array (Option Value)),
  fd=PySem.W.fnOf x qual (d_ st) (dD st) (aP st) .none kV doc pm an aR ct/\K.lookup f=some ⟨oc,od,.func fd,iC⟩/\PySem.W.codeIn K aR qual=true
 kp:PySem.W.keepIn K (.ref f)=true
section
variable{P:Program}{w:World}{K:PySem.W.Frag}{mg:Str->Option Value}{base:Heap}
theorem aJ.ok{x qual:Str}{st:Stmt}{f:Addr}{fd:FuncData}{N ps:List Str}{k:Nat}{sp:Sp}(F:aJ K x qual st f fd)(S:bw N ps (aP st))(len:∀vs H Q E,sp vs H Q E->vs.length=ps.length)
  (oW:∀(aR:Value) (A:Around) (outer:List Env) (s:Shared) (H:Hp) (vs:List V) (Q:VK) (E:XK),cB k (A.deeper (envOfC qual (aP st) s.heap.objs.size f aR))->sp vs H Q E->
   ∃t,gz (lV bu P w K mg base N qual (aP st) f aR A outer s H E).mS (dD st) t/\t { nx:=λ_ H'=>Q .aN H',rt:=Q } (start N vs) H):aW P w K mg base bu (k+1) f fd ps sp:=by
 obtain⟨oc,od,kV,doc,pm,an,aR,ct,iC,rfl,lk,gm⟩:=F.ex;refine DT lk gm S len λA outer s H vs Q E hr g7=>?_;obtain⟨t,h,q⟩:=oW aR A outer s H vs Q E hr g7;exact⟨t,h.mS,q⟩
theorem aJ.binds{x qual:Str}{st:Stmt}{f:Addr}{fd:FuncData}{ps:List Str}(F:aJ K x qual st f fd)
  (h:∀(kV doc pm:Value) (an:Option Addr) (aR ct:Value) (us:List Value),us.length=ps.length->bindArgs (PySem.W.fnOf x qual (d_ st) (dD st) (aP st) .none kV doc pm an aR ct) ⟨us,[]⟩=pure (ps.zip us)):Binds K fd ps []:=by
 obtain⟨oc,od,kV,doc,pm,an,aR,ct,iC,rfl,lk,gm⟩:=F.ex;exact .all (h kV doc pm an aR ct)
theorem fun_mk{x qual:Str}{st:Stmt}{f:Addr}{oc:Value}{od an:Option Addr}{iC:Array (Option Value)}{kV doc pm aR ct:Value}(l:K.lookup f=some ⟨oc,od,.func (PySem.W.fnOf x qual (d_ st) (dD st) (aP st) .none kV doc pm an aR ct),iC⟩)
  (c:PySem.W.codeIn K aR qual=true) (k:PySem.W.keepIn K (.ref f)=true):aJ K x qual st f (PySem.W.fnOf x qual (d_ st) (dD st) (aP st) .none kV doc pm an aR ct):=⟨⟨oc,od,kV,doc,pm,an,aR,ct,iC,rfl,l,c⟩,k⟩
end
theorem j5{A:Around}{k:Nat}(hr:cB k A):A.units+1<cLine:=Nat.lt_of_le_of_lt (Nat.add_le_add_left (by decide:1<=64) _) hr.units
theorem g9{n:Nat}(h:n<=1000):n<sizeLine:=Nat.lt_of_le_of_lt h (by decide)
section
variable{X:Cx}
theorem pv(i:Nat){x:Str}{pos:Pos}(hN:X.N[i]? = some x:=by rfl)(hv:Du X.env.scope x:=by first | exact Or.inl rfl | exact Or.inr (Or.inl rfl) | exact Or.inr (Or.inr rfl))(hd:(x == ("__debug__" : Str))=false:=by decide)
  (gm:(x == ("__classdict__" : Str))=false:=by decide):PE X (.Name x pos) (LX i):=X0 hN hv hd gm
end
theorem eo{c A B:Prop}[Decidable c](h1:c->A)(h2:¬ c->B):if c then A else B:=by
 by_cases h:c
 ·rw[if_pos h];exact h1 h
 ·rw[if_neg h];exact h2 h
noncomputable def ah(H H':Hp):Prop:=∀b o,H b=some o->H' b=some o
theorem ah.refl(H:Hp):ah H H:=λ_ _ h=>h
theorem ah.trans{H H1 H2:Hp}(a:ah H H1)(b:ah H1 H2):ah H H2:=λc o h=>b c o (a c o h)
theorem ah.free{H H':Hp}(e:ah H H'){l:Addr}(h:H' l=Option.none):H l=Option.none:=by
 cases q:H l with
 | none=>rfl
 | some o =>
  rw[e l o q] at h;cases h
theorem ah.seq{K:PySem.W.Frag}{H H':Hp}{a:Addr}{xs:List V}(e:ah H H')(h:aE K H a xs):aE K H' a xs:=by
 rcases h with(h | ⟨o,h⟩) | h
 ·exact .inl (.inl (e _ _ h))
 ·exact .inl (.inr ⟨o,e _ _ h⟩)
 ·exact .inr h
section
variable{κ:Type}[DecidableEq κ]
theorem aan{p:κ×V}{r:List (κ×V)}{k:κ}(e:p.1=k):iD (p::r) k=iD r k:=by
 unfold iD;rw[List.filter_cons,if_neg (by simp[e])]
theorem Nh{p:κ×V}{r:List (κ×V)}{k:κ}(e:¬ p.1=k):iD (p::r) k=p::iD r k:=by
 unfold iD;rw[List.filter_cons,if_pos (by simp[e])]
theorem Ni:∀ {kvs:List (κ×V)} {k:κ},¬ k∈kvs.map (·.1)->iD kvs k=kvs
 | [],_,_=>rfl
 | p::r,k,h=>by
  have h':¬ k∈r.map (·.1):=λm=>by
   obtain⟨q,hq,e⟩:=List.mem_map.mp m;exact h (List.mem_map.mpr ⟨q,List.mem_cons.mpr (Or.inr hq),e⟩)
  rw[Nh λe=>h (List.mem_map.mpr ⟨p,List.mem_cons.mpr (Or.inl rfl),e⟩),Ni h']
theorem Nj:∀ {kvs:List (κ×V)} {k:κ},(kvs.map (·.1)).Nodup->k∈kvs.map (·.1)->(iD kvs k).length+1=kvs.length
 | [],_,_,m=>by simp at m
 | p::r,k,h,m=>by
  have h:(p.1::r.map (·.1)).Nodup:=h;have m:k=p.1\/k∈r.map (·.1):=List.mem_cons.mp m;obtain⟨h1,h2⟩:=List.nodup_cons.mp h;by_cases e:p.1=k
  ·subst e;rw[aan rfl,Ni h1]
   all_goals rfl
  ·have m':k∈r.map (·.1):=m.resolve_left λz=>e z.symm;have q:=Nj h2 m';rw[Nh e,List.length_cons,List.length_cons];lia
end
end _L
set_option maxHeartbeats 4000000
namespace _L
open PySem PySem.Spec PyProof.Rows
section
variable{prog:Program}{w:World}{A:Around}{R:Result->Shared->Prop}{s:Shared}
theorem aao{elt target iter:Expr}{ifs:List Expr}{scope:Scope}{pos:Pos}{it acc:Value}{env:Env}(I:Nat->Shared->Prop)
  (turn:∀n s,I n s->wpAny (model prog w) A (pyNext it) (λr bg=>match r with
   | none=>R (.ok .next) bg
   | some v=>wpAny (model prog w) A (letOwnedTupleGo target it v) (λ_ Nk=>wpAny (model prog w) A (assign target env v) (λ_ jR =>
     wpAny (model prog w) A (forIn ifs true λc r=>if r=true then do let ok ← isTrue c env (eval c env);pure (ForInStep.yield ok) else pure (ForInStep.yield r)) (λok jB =>
      if ok=true then wpAny (model prog w) A (eval elt env) (λx xF =>
       wpAny (model prog w) A (call (.builtin "list.append") [acc,x]) (λ_ Nl=>∃m,m<n/\I m Nl) (λ_ _=>False) xF) (λ_ _=>False) jB
      else ∃m,m<n/\I m jB) (λ_ _=>False) jR) (λ_ _=>False) Nk) (λ_ _=>False) bg) (λ_ _=>False) s)
  (n:Nat) (h:I n s):codeAny (model prog w) A (.compLoop (.ListComp elt [⟨target,iter,ifs,0⟩] scope pos) 0 it acc env) R s:=by
 refine codeAny_loop rfl I (λn s hI=>?_) n h
 show wpAny _ A ((compTurn (.ListComp elt [⟨target,iter,ifs,0⟩] scope pos) 0 it acc env).onRaise (λx=>do noteFrame x env;theTreesLotGoes x)) _ _ s
 refine wpAny_noted ?_;rw[compTurn_list];refine wpAny_bind (wpAny_standAt (wpAny_bind (wpAny_mono (turn n s hI) (λr bg kX=>?_) λ_ _ h'=>h'.elim)));cases r with
 | none=>exact wpAny_pure kX
 | some v =>
  refine wpAny_bind (wpAny_mono kX (λ_ Nk aap=>?_) λ_ _ h'=>h'.elim);refine wpAny_bind (wpAny_mono aap (λ_ jR tM=>wpAny_bind (wpAny_mono tM (λok jB xu=>?_) λ_ _ h'=>h'.elim)) λ_ _ h'=>h'.elim);cases ok with
  | false=>exact wpAny_pure ⟨rfl,xu⟩
  | true =>
   exact wpAny_bind (wpAny_bind (wpAny_mono xu (λx xF aaq=>wpAny_bind (wpAny_mono aaq (λ_ Nl aar=>wpAny_pure (wpAny_pure ⟨rfl,aar⟩)) λ_ _ h'=>h'.elim)) λ_ _ h'=>h'.elim))
end
noncomputable def gr(X:Cx)(scope:Scope)(cl:List (Str×Addr))(N:List Str)(C:Addr)(s:Shared)(H:Hp)(fp:List Addr):Cx where
 prog:=X.prog
 w:=X.w
 K:=X.K
 mg:=X.mg
 base:=X.base
 A:=X.A
 N:=N
 dh:=s
 f9:=H
 env:=compEnvC scope cl C X.env
 outer:=X.stack
 stack:=X.stack
 ex:=fp
 fn:=λ_=>false
 calm:=X.calm
 pn:=[]
 xe:=λ_ _=>False
structure dw(X:Cx)(scope:Scope)(cl:List (Str×Addr))(N:List Str)(nt:Nat)(fv:List Nat):Prop where
 kY:closureFor scope X.env=pure cl
 kind:scope.kind = .function
 j6:∀y∈scope.names,y.2≠.cell
 names:∀y∈scope.names,y.2 = .local->scope.names.lookup y.1=some .local
 sub:∀p∈cl,X.env.cells.lookup p.1=some p.2
 has:∀y∈scope.names,y.2 = .free->∃c,cl.lookup y.1=some c
 free:fv.map (λj=>X.N[j]?)=(N.drop nt).map some
 fk:∀y∈N.drop nt,scope.names.lookup y=some .free/\X.env.scope.names.lookup y=some .cell
 le:nt<=N.length
 nd:N.Nodup
theorem xG{env:Env}:∀ {names:List (Str×NameKind)} {x:Str} {k:NameKind},
  (names.map λ(n,k)=>if (k == NameKind.free && env.scope.kind == .function && env.kindOf n == some .cell) then(n,NameKind.cell) else(n,k)).lookup x=some k->
  ∃k0,names.lookup x=some k0/\(k=k0\/(k0 = .free/\k = .cell))
 | [],_,_,h=>by simp at h
 | (n,k0)::r,x,k,h=>by
  have ih:=@xG env r x k;have h:List.lookup x ((if (k0 == NameKind.free && env.scope.kind == .function && env.kindOf n == some .cell)=true then(n,NameKind.cell) else(n,k0))::_)=_:=h
  cases hx:x == n with
  | true =>
   by_cases hc:(k0 == NameKind.free && env.scope.kind == .function && env.kindOf n == some .cell)=true
   ·rw[if_pos hc] at h;simp only[List.lookup_cons,hx,Option.some.injEq] at h;simp only[Bool.and_eq_true,beq_iff_eq] at hc;exact⟨k0,by simp[List.lookup_cons,hx],.inr ⟨hc.1.1,h.symm⟩⟩
   ·rw[if_neg hc] at h;simp only[List.lookup_cons,hx,Option.some.injEq] at h;exact⟨k0,by simp[List.lookup_cons,hx],.inl h.symm⟩
  | false =>
   have h':List.lookup x (r.map λ(n,k)=>if (k == NameKind.free && env.scope.kind == .function && env.kindOf n == some .cell) then(n,NameKind.cell) else(n,k))=some k:=by
    by_cases hc:(k0 == NameKind.free && env.scope.kind == .function && env.kindOf n == some .cell)=true
    ·rw[if_pos hc] at h;simpa only[List.lookup_cons,hx] using h
    ·rw[if_neg hc] at h;simpa only[List.lookup_cons,hx] using h
   obtain⟨q,e,z⟩:=ih h';exact⟨q,by simp only[List.lookup_cons,hx];exact e,z⟩
theorem nq{α:Type}{x:Str}{v:α}:∀ {l:List (Str×α)},l.lookup x=some v->(x,v)∈l:=λh=>PySem.mem_of_lookup h
section
variable{X:Cx}{pins:List (Addr×Obj)}{σ:St}{H:Hp}{s:Shared}{scope:Scope}{cl:List (Str×Addr)}{N:List Str}{nt:Nat}{fv:List Nat}{fp:List Addr}
theorem dw.cell(S:dw X scope cl N nt fv){x:Str}{c:Addr}(e:cl.lookup x=some c):X.env.cells.lookup x=some c:=S.sub (x,c) (nq e)
theorem dw.aas(S:dw X scope cl N nt fv){C:Addr}{x:Str}(h:(compEnvC scope cl C X.env).kindOf x=some .cell\/(compEnvC scope cl C X.env).kindOf x=some .free):scope.names.lookup x=some .free:=by
 have h:(scope.names.map λ(n,k)=>if (k == NameKind.free && X.env.scope.kind == .function && X.env.kindOf n == some .cell) then(n,NameKind.cell) else(n,k)).lookup x=some .cell\/
  (scope.names.map λ(n,k)=>if (k == NameKind.free && X.env.scope.kind == .function && X.env.kindOf n == some .cell) then(n,NameKind.cell) else(n,k)).lookup x=some .free:=h
 rcases h with h | h
 ·obtain⟨k0,e,z | ⟨z,_⟩⟩:=xG h
  ·exact absurd z.symm (S.j6 _ (nq e))
  ·rw[z] at e;exact e
 ·obtain⟨k0,e,z | ⟨z,_⟩⟩:=xG h
  ·rw[← z] at e;exact e
  ·rw[z] at e;exact e
theorem dw.ok(S:dw X scope cl N nt fv)(I:Inv X pins σ H s)(hf:∀b∈fp,kM X pins H b)(bT:∀b∈fp,b<s.heap.objs.size){C:Addr}(hC:s.heap.objs.size<=C) :
  (gr X scope cl N C s H fp).Ok where
 mod:=I.ok.mod
 kind:=S.kind
 glob:=I.ok.glob
 blt:=I.ok.blt
 above:=hC
 inj:=λx y c h1 h2=>I.ok.inj x y c (S.cell h1) (S.cell h2)
 has:=λx h=>by
  have e:=S.aas h;exact S.has _ (nq e) rfl
 qi:=λx c h _=>by cases (show false=true from h)
 hd:=I.ok.hd
 frames:=I.ok.frames
 sH:=.inl rfl
 sI:=λb hb=>⟨λz=>absurd (Nat.lt_of_lt_of_le (bT b hb) (by rw[z];exact hC)) (Nat.lt_irrefl _),λx c h=>(hf b hb).2.2.2.2.1 x c (S.cell h)⟩
 bs:=I.bs
 jt:=Nat.le_trans I.ok.jt I.sz
 qj:=λb o e hb=>by
  rcases(hf b hb).2.2.2.1 with z | z
  ·exact I.ok.qj b o e z
  ·exact absurd (Nat.lt_of_lt_of_le (Heap.lt_size e) (Nat.le_trans I.ok.jt z)) (Nat.lt_irrefl _)
 qk:=λb hb hm=>by
  rcases List.mem_cons.mp (I.Dw b hm) with z | z
  ·exact(hf b hb).2.1 z
  ·exact(hf b hb).2.2.1 z
 iZ:=I.stack
 mR:=I.Dy
noncomputable def jc(σ:St)(nt:Nat)(fv:List Nat):St:=List.replicate nt none++fv.map λj=>(σ[j]?).getD none
theorem dw.inv(S:dw X scope cl N nt fv)(I:Inv X pins σ H s)(hf:∀b∈fp,kM X pins H b)(bT:∀b∈fp,b<s.heap.objs.size){h1:Heap}{tk:Nat}{D C:Addr}
  (hD:s.heap.objs.size<=D) (hC:s.heap.objs.size<=C) (xH:D≠C) (old:∀b o,s.heap.get? b=some o->h1.get? b=some o) (qD:h1.get? D=some { cls:=.type "list",data:=.seq #[] }) (j4:h1.Ns C λ_=>none) :
  Inv (gr X scope cl N C s H fp) [] (jc σ nt fv) (upd H D (.lst [])) { s with heap:=h1,toks:=tk }:=by
 have I1:Inv X pins σ (upd H D (.lst [])) { s with heap:=h1,toks:=tk }:=I.laid old hD ⟨Nat.zero_le _,[],0,.nil,qD⟩;have hlen:fv.length=(N.drop nt).length:=by simpa using congrArg List.length S.free
 refine⟨S.ok I hf bT hC,rfl,I.bare,Un.laid old hD (I.aL.fresh hD),⟨_,j4,λi x v e1 e2 e3=>?_⟩,λx c e=>?_,?_,λx c e=>?_,λp hp=>absurd (show p∈([]:List (Addr×Obj)) from hp) (by simp),I1.aL,?_⟩
 ·unfold jc at e2;have hi:nt<=i:=by
   by_cases h:nt<=i
   ·exact h
   ·rw[List.getElem?_append_left (by simp;lia),List.getElem?_replicate] at e2
    split at e2 <;> cases e2
  rw[List.getElem?_append_right (by simpa using hi)] at e2
  simp only[List.length_replicate,List.getElem?_map] at e2;cases hj:fv[i - nt]? with
  | none=>rw[hj] at e2;simp at e2
  | some j =>
   rw[hj] at e2;simp only[Option.map_some,Option.some.injEq] at e2;have hN:X.N[j]? = some x:=by
    have q:=congrArg (λl=>l[i - nt]?) S.free;simp only[List.getElem?_map,hj,Option.map_some,List.getElem?_drop] at q;rw[show nt+(i - nt)=i by lia] at q
    have Nm:N[i]? = some x:=e1;rw[Nm] at q;exact(Option.some.inj q)
   have Em:σ[j]? = some (some v):=by
    cases z:σ[j]? with
    | none=>rw[z] at e2;simp at e2
    | some y=>rw[z] at e2;simp at e2;rw[e2]
   have aat:x∈N.drop nt:=by
    refine List.mem_of_getElem? (i:=i - nt) ?_;rw[List.getElem?_drop,show nt+(i - nt)=i by lia];exact e1
   obtain⟨f1,f2⟩:=S.fk x aat;obtain⟨m,hn,hl⟩:=I1.loc;obtain⟨u,ru,lk⟩:=hl j x v hN Em (.inr (.inl f2));refine⟨u,ru,?_⟩;rcases lk with⟨k,_⟩ | ⟨_,c,ec,hc⟩
   ·have k:X.env.scope.names.lookup x=some .local:=k;rw[f2] at k;cases k
   ·obtain⟨c',e'⟩:=S.has _ (nq f1) rfl;have:=S.cell e';rw[ec] at this;cases this;refine .inr ⟨?_,c,e',hc⟩;rcases e3 with z | z | z
    ·obtain⟨k0,ek,q | ⟨_,q⟩⟩:=xG (show (scope.names.map λ(n,k)=>if (k == NameKind.free && X.env.scope.kind == .function && X.env.kindOf n == some .cell) then(n,NameKind.cell) else(n,k)).lookup x=some .local from z)
     ·rw[f1] at ek;cases ek;cases q
     ·cases q
    ·exact .inl z
    ·exact .inr z
 ·obtain⟨v,z⟩:=I1.cell x c (S.cell e);exact⟨v,z⟩
 ·show upd H D (.lst []) C=none;rw[aD (Ne.symm xH)];exact I.aL.fresh hC
 ·exact I1.ju x c (S.cell e)
 ·unfold jc
  show _=N.length;have:=S.le;simp only[List.length_append,List.length_replicate,List.length_map,List.length_drop] at hlen ⊢;lia
end
noncomputable def qE(X:Cx)(ifs:List Expr)(t:TT):Prop :=
 ∀(pins:List (Addr×Obj)) (s:Shared) (σ:St) (H:Hp) (Q:Bool->Hp->Prop),Inv X pins σ H s->t σ H Q->
  wpAny (model X.prog X.w) X.A (forIn ifs true λc r=>if r=true then do let ok ← isTrue c X.env (eval c X.env);pure (ForInStep.yield ok) else pure (ForInStep.yield r)) (TP X pins σ Q) X.xe s
noncomputable def aau:TT:=λ_ H Q=>Q true H
theorem kZ{X:Cx}:qE X [] aau:=λpins s σ H Q I h=>wpAny_tests_nil ⟨H,I,h⟩
theorem nu{X:Cx}{c:Expr}{t:TT}(hc:PT X c t):qE X [c] t:=λpins s σ H Q I h=>wpAny_tests_one (hc pins s σ H Q I h)
noncomputable def jD(wi:TI)(g:TG)(tt:TT)(te:TE)(nt:Nat)(fv:List Nat):TE:=λσ H Q=>wi σ H λJ H1=>∀D,H1 D=none->∃W:Nat->Nat->List V->St->Hp->Prop,
 (∃m,W 0 m [] (jc σ nt fv) (upd H1 D (.lst [])))/\∀i m ys aq H2,W i m ys aq H2->H2 D=some (.lst ys)/\ys.length<sizeLine/\
  ((J.stop i H2/\Q (.ref D) H2)\/(J.go i H2/\∀x H3,J.kL i H2 x H3->g x aq H3 λbV H4=>tt bV H4 λb H5=>if b=true then te bV H5 λv H6=>H6 D=some (.lst ys)/\∃m',m' < m/\W (i+1) m' (ys++[v]) bV (upd H6 D (.lst (ys++[v])))
   else ∃m',m' < m/\W (i+1) m' ys bV H5))
section
variable{X:Cx}{tg iter elt:Expr}{ifs:List Expr}{scope:Scope}{cl:List (Str×Addr)}{N:List Str}{nt:Nat}{fv:List Nat}{pos:Pos}{wi:TI}{g:TG}{tt:TT}{te:TE}
theorem Nn{pins:List (Addr×Obj)}{σ:St}{s2:Shared}{H2:Hp}{it:Addr}{fp:List Addr}{tn:Nat->Heap->Prop}{J:It}{Q:VK}{RR:Value->Addr->Result->Shared->Prop}{E:Value->Shared->Prop}
  (S:dw X scope cl N nt fv) (hc:X.calm=true)
  (hg:∀C s H fp,PG (gr X scope cl N C s H fp) tg g) (ht:∀C s H fp,qE (gr X scope cl N C s H fp) ifs tt) (he:∀C s H fp,PE (gr X scope cl N C s H fp) elt te)
  (I2:Inv X pins σ H2 s2) (T:Turn X.prog X.w X.K tg J fp it tn) (eE:tn 0 s2.heap) (f2:∀b∈fp,kM X pins H2 b)
  (hq:∀D,H2 D=none->∃W:Nat->Nat->List V->St->Hp->Prop,
   (∃m,W 0 m [] (jc σ nt fv) (upd H2 D (.lst [])))/\∀i m ys aq H2,W i m ys aq H2->H2 D=some (.lst ys)/\ys.length<sizeLine/\
    ((J.stop i H2/\Q (.ref D) H2)\/(J.go i H2/\∀x H3,J.kL i H2 x H3->g x aq H3 λbV H4=>tt bV H4 λb H5=>if b=true then te bV H5 λv H6=>H6 D=some (.lst ys)/\∃m',m' < m/\W (i+1) m' (ys++[v]) bV (upd H6 D (.lst (ys++[v])))
     else ∃m',m' < m/\W (i+1) m' ys bV H5)))
  (hRR:∀(D C:Addr) (s':Shared) (H':Hp) (m':Str->Option Value),Inv X pins σ H' s'->s'.heap.Ns C m'->s2.heap.objs.size<=C->H' C=none->Q (.ref D) H'->RR (.ref D) C (.ok .next) s') :
  wpAny (model X.prog X.w) X.A (newList []) (λacc jB=>wpAny (model X.prog X.w) X.A (newFunctionEnv scope X.env.globals cl [] X.env.qual none .none (some X.env)) (λNp xF =>
   codeAny (model X.prog X.w) X.A (.compStart (.ListComp elt [⟨tg,iter,ifs,0⟩] scope pos) 0 (.ref it) acc { Np with scope:=relabel scope X.env }) (RR acc Np.locals) xF) E jB) E s2:=by
 refine wpAny_newObj_type (wpAny_newFunctionEnv S.j6 (by intro y hy;simp at hy) (λkX En xJ=>?_) S.kind)
 dsimp only at En xJ ⊢;generalize Eo:s2.heap.push { cls:=.type "list",dict:=none,data:=.seq ([]:List Value).toArray }=HH at En xJ ⊢;have hC:HH.objs.size=s2.heap.objs.size+1:=by rw[← Eo,Heap.size_push]
 have xH:s2.heap.objs.size≠HH.objs.size:=by rw[hC];exact Nat.ne_of_lt (Nat.lt_succ_self _)
 have Ep:s2.heap.objs.size<=HH.objs.size:=by rw[hC];exact Nat.le_succ _
 have old:∀b o,s2.heap.get? b=some o->kX.get? b=some o:=λb o e=>by
  have hb:b<s2.heap.objs.size:=Heap.lt_size e;exact xJ.extBut b o (by rw[hC];exact Nat.ne_of_lt (Nat.lt_succ_of_lt hb)) (Heap.get?_push_of_some _ (Eo▸Heap.get?_push_of_some _ e))
 have qD:kX.get? s2.heap.objs.size=some { cls:=.type "list",data:=.seq #[] }:=xJ.extBut _ _ xH (Heap.get?_push_of_some _ (Eo▸Heap.get?_push_size _ rfl));have bT:∀b∈fp,b<s2.heap.objs.size:=λb hb=>by
  obtain⟨o,e,_⟩:=T.obj 0 _ eE b hb;exact Heap.lt_size e
 have hD:H2 s2.heap.objs.size=none:=I2.aL.fresh (Nat.le_refl _);obtain⟨W,⟨m0,w0⟩,turn⟩:=hq _ hD;have sZ:tn 0 kX:=T.keep _ _ _ eE λb _ o e=>old b o e;have I3:=S.inv I2 f2 bT (h1:=kX) (tk:=s2.toks+([]:List (Str×Value)).length) (D:=s2.heap.objs.size) (C:=HH.objs.size) (Nat.le_refl _) Ep xH old qD (by simpa using En)
 -- what stays true of the iterator's objects
 have nD:∀b∈fp,b≠s2.heap.objs.size:=λb hb=>Nat.ne_of_lt (bT b hb);have oO:∀ {H':Hp},(∀b∈fp,H' b=none)->∀b∈fp,kM (gr X scope cl N HH.objs.size s2 H2 fp) [] H' b:=λ{H'} hn b hb=>by
  have ok:=S.ok I2 f2 bT Ep;refine⟨hn b hb,(ok.sI b hb).1,ok.qk b hb,.inl hb,(ok.sI b hb).2,λp hp=>absurd (show p∈([]:List (Addr×Obj)) from hp) (by simp)⟩
 have loop:∀jB:Shared,jB = { s2 with heap:=kX,toks:=s2.toks+([]:List (Str×Value)).length }->
   codeAny (model X.prog X.w) X.A (.compLoop (.ListComp elt [⟨tg,iter,ifs,0⟩] scope pos) 0 (.ref it) (.ref s2.heap.objs.size) (compEnvC scope cl HH.objs.size X.env)) (RR (.ref s2.heap.objs.size) HH.objs.size) jB:=by
  rintro jB rfl;refine aao (λn s'=>∃i ys bz H',Inv (gr X scope cl N HH.objs.size s2 H2 fp) [] bz H' s'/\tn i s'.heap/\(∀b∈fp,H' b=none)/\W i n ys bz H') ?_ m0
   ⟨0,[],_,_,I3,sZ,λb hb=>by rw[aD (nD b hb)];exact(f2 b hb).1,w0⟩
  rintro n s3 ⟨i,ys,gX,H3,J3,t3,oR,w3⟩;obtain⟨eD,hys,aav⟩:=turn i n ys gX H3 w3;rcases aav with⟨stop,qn⟩ | ⟨go,step⟩
  ·refine aM (T.done (gr X scope cl N HH.objs.size s2 H2 fp) rfl rfl rfl hc i [] s3 gX H3 (λ_ _=>False) J3 (oO oR) t3 stop) λr s4 ⟨hr,I4⟩=>?_;subst hr;have I5:Inv X pins σ H3 s4:=I2.LW (ch:=fp) I4.os I4.base I4.aL I4.bare λb hb=>⟨(f2 b hb).2.2.2.1,(f2 b hb).2.1,(f2 b hb).2.2.2.2.1,(f2 b hb).2.2.2.2.2⟩;obtain⟨m,hn,_⟩:=I4.loc;exact hRR _ _ s4 H3 m I5 hn Ep I4.free qn
  ·refine aM (T.item (gr X scope cl N HH.objs.size s2 H2 fp) rfl rfl rfl hc i [] s3 gX H3 (λ_ _=>False) J3 (oO oR) t3 go) λr s4 ⟨u,hr,h4⟩=>?_;subst hr;refine aM h4 λ_ s5 ⟨x,H5,I5,r5,y5,jT,DJ⟩=>?_;have DK:=I5.pinned (oO DJ) (T.obj _ _ jT);refine aM (hg _ _ _ _ _ s5 gX H5 x u _ DK r5 (step x H5 y5)) λ_ s6 ⟨mX,H6,I6,q6⟩=>?_;have Nq:∀ {iN:St} {H7:Hp} {s7:Shared},Inv (gr X scope cl N HH.objs.size s2 H2 fp) ([]++sX fp s5.heap) iN H7 s7->tn (i+1) s7.heap/\∀b∈fp,H7 b=none:=λ{iN H7 s7} I7=>by
    refine⟨T.keep _ _ _ jT λb hb o e=>(I7.pin (b,o) (List.mem_append_right _ (List.mem_append_right _ (wW hb e)))).1,λb hb=>?_⟩;obtain⟨o,e,d⟩:=T.obj _ _ jT b hb;exact(I7.pin (b,o) (List.mem_append_right _ (List.mem_append_right _ (wW hb e)))).2.1
   refine aM (ht _ _ _ _ _ s6 mX H6 _ I6 q6) λb s7 ⟨H7,I7,q7⟩=>?_;cases b with
   | false =>
    obtain⟨m',hm,w7⟩:=q7;obtain⟨t7,n7⟩:=Nq I7;exact⟨m',hm,i+1,ys,mX,H7,I7.sY,t7,n7,w7⟩
   | true =>
    refine aM (he _ _ _ _ _ s7 mX H7 _ I7 q7) λu8 s8 ⟨v8,H8,I8,r8,eD8,m',hm,w8⟩=>?_;refine aM (kU (X:=gr X scope cl N HH.objs.size s2 H2 fp) _ s8 mX H8 (.ref s2.heap.objs.size) [v8] (.ref s2.heap.objs.size) [u8] (λ_ H9=>∃m',m' < n/\W (i+1) m' (ys++[v8]) mX H9) I8 rfl (.cons r8 .nil)
     ⟨s2.heap.objs.size,ys,v8,rfl,rfl,eD8,hys,m',hm,w8⟩) λ_ s9 ⟨_,H9,I9,_,m9,hm9,w9⟩=>?_
    obtain⟨t9,n9⟩:=Nq I9;exact⟨m9,hm9,i+1,ys++[v8],mX,H9,I9.sY,t9,n9,w9⟩
 exact codeAny_compStart_list (loop _ rfl) (T.self _ 0 _ _ _ sZ (loop _ rfl))
theorem iP(S:dw X scope cl N nt fv)(hc:X.calm=true)(hi:PI X tg iter wi)
  (hg:∀C s H fp,PG (gr X scope cl N C s H fp) tg g) (ht:∀C s H fp,qE (gr X scope cl N C s H fp) ifs tt) (he:∀C s H fp,PE (gr X scope cl N C s H fp) elt te)
  (hs:∀x,foldedSetIterable iter X.env x=pure x:=by intro _;rfl):PE X (.ListComp elt [⟨tg,iter,ifs,0⟩] scope pos) (jD wi g tt te nt fv):=by
 intro pins s σ H Q I h;rw[eval_ListComp];refine wpAny_comprehension_free (use:=none) rfl hs S.kY S.kind S.names (aM (hi pins s σ H _ I h) λxv s1 h1=>aM h1 λwV s2 h2=>?_);obtain⟨it,fp,tn,J,H2,rfl,I2,T,eE,f2,hq⟩:=h2;refine Nn (RR:=λacc C=>compPost (model X.prog X.w) X.A X.xe none (EP X pins σ Q) acc C) S hc hg ht he I2 T eE f2 hq λD C s' H' m' I' hn hC fC q=>?_;refine⟨m',hn,λh' g_=>⟨.ref D,H',?_,rfl,q⟩⟩;have j7:=I2.lQ hC fC;exact I'.turned (t':=s'.toks) (it:=C) (λb o hb e=>g_.extBut b o hb e) fC j7.2.1 j7.2.2.2.1 j7.2.2.2.2.1 j7.2.2.2.2.2
theorem xK{i:Nat}{y:Str}{py Nr:Pos}(hN:X.N.Nodup)(h_:X.N[i]? = some y)(hy:Loc X.env.scope y)(S:dw X scope cl N nt fv)(hc:X.calm=true)(hi:PI X tg iter wi)
  (hg:∀C s H fp,PG (gr X scope cl N C s H fp) tg g) (ht:∀C s H fp,qE (gr X scope cl N C s H fp) ifs tt) (he:∀C s H fp,PE (gr X scope cl N C s H fp) elt te)
  (Er:swapsWith (.ListComp elt [⟨tg,iter,ifs,0⟩] scope pos) (some (.Name y py)) Nr.line X.env=pure true:=by rfl)
  (hs:∀x,foldedSetIterable iter X.env x=pure x:=by intro _;rfl) (hf:X.fn y=true\/X.env.scope.names.lookup y=some .local:=by first | exact .inl rfl | exact .inr rfl | assumption) :
  PS X (.Assign [.Name y py] (.ListComp elt [⟨tg,iter,ifs,0⟩] scope pos) Nr) (wU (jD wi g tt te nt fv) (mV i)):=by
 intro pins s σ H D' I h;rw[exec_Assign_Name_used _ _ _ _ Er];refine wpAny_bind (wpAny_standAt (wpAny_bind ?_))
 show wpAny _ _ (do let _ ← comprehension (.ListComp elt [⟨tg,iter,ifs,0⟩] scope pos) scope X.env _ (newList []) false (eval iter X.env) (some (assign (.Name y py) X.env))) _ _ s
 refine wpAny_bind (wpAny_mono (wpAny_comprehension_free (use:=some (assign (.Name y py) X.env)) (Q:=λ_ s'=>SP X pins D' .next s') rfl hs S.kY S.kind S.names
  (aM (hi pins s σ H _ I h) λxv s1 h1=>aM h1 λwV s2 h2=>?_)) (λ_ s' hq=>wpAny_pure (wpAny_pure hq)) λ_ _ e=>e)
 obtain⟨it,fp,tn,J,H2,rfl,I2,T,eE,f2,hq⟩:=h2;refine Nn (RR:=λacc C=>compPost (model X.prog X.w) X.A X.xe (some (assign (.Name y py) X.env)) (λ_ s'=>SP X pins D' .next s') acc C) (Q:=λx H1=>mV i x σ H1 D'.nx) S hc hg ht he I2 T eE f2 hq λD C s' H' m' I' hn hC fC q=>?_;have j7:=I2.lQ hC fC
 show wpAny _ _ (assign (.Name y py) X.env (.ref D)) _ _ _;refine wpAny_assign_Name (LR I' hN h_ hy (v:=.ref D) rfl (λg6 I'' ⟨a,hsa,ha⟩=>?_) hf);have hCa:C≠a:=by
  rcases ha with z | z
  ·rw[z];exact j7.2.1
  ·exact λe=>j7.2.2.2.2.1 y a z e.symm
 refine⟨m',hn.sameBut hsa hCa,λh' g_=>⟨_,H',?_,q⟩⟩;exact I''.turned (t':=g6.toks) (it:=C) (λb o hb e=>g_.extBut b o hb e) fC j7.2.1 j7.2.2.2.1 j7.2.2.2.2.1 j7.2.2.2.2.2
end
noncomputable def tR(K:PySem.W.Frag)(a:Addr):It :=
 ⟨λi H=>∃xs x,aE K H a xs/\xs[i]? = some x,λi H v H'=>∃T x,H T=none/\v = .ref T/\(∀xs,aE K H a xs->xs[i]? = some x)/\H' = upd H T (.tup [.int i,x]),λi H=>∃xs,aE K H a xs/\xs.length<=i⟩
theorem aaw{P:Program}{w:World}{K:PySem.W.Frag}{elts:List Expr}{x1}{tp:Pos}(a e it:Addr)(Es:e≠it) :
  Turn P w K (.Tuple elts x1 tp) (tR K a) [e,it] e (λi h=>(∃old,IsEnum h e it (i:Nat) old)/\h.IsListIter it a i) where
 mem:=by simp
 obj:=λi h st b hb=>by
  obtain⟨⟨old,he⟩,o,e1,c,d⟩:=st;rcases List.mem_cons.mp hb with z | hb
  ·rw[z];exact⟨_,he,λv z=>by
    have z':Data.fields _=Data.cell v:=z;cases z'⟩
  ·have e2:b=it:=by simpa using hb
   rw[e2];exact⟨o,e1,λv z=>by rw[d] at z;cases z⟩
 keep:=λi h h' st k=>by
  obtain⟨⟨old,he⟩,hi⟩:=st;exact⟨⟨old,k e (by simp) _ he⟩,hi.at λo q=>k it (by simp) o q⟩
 item:=by
  intro X hP hw hK hc i pins s σ H E I hf st hg;subst hP hw hK;obtain⟨xs,x,hq,hx⟩:=hg;obtain⟨aC,rv,p,hz⟩:=I.list hq;obtain⟨u,hu,ru⟩:=rv.get hx;obtain⟨⟨old,he⟩,hit⟩:=st;obtain⟨f0,f1,f2,f3,f4,f5⟩:=hf e (by simp)
  obtain⟨g0,g1,g2,g3,g4,g5⟩:=hf it (by simp)
  have Nt:e<s.heap.objs.size:=Heap.lt_size he;have aax:it<s.heap.objs.size:=by obtain⟨_,z,_⟩:=hit;exact Heap.lt_size z
  refine wpAny_pyNext_enum_item he hit p.isList (x:=u) (by simpa using hu) Es λh' ho qF hT hsz hk=>?_
  refine⟨_,rfl,?_⟩;refine wpAny_letOwnedTupleGo_enum ho λqG tU g_=>?_
  replace g_:Heap.SameBut e h' qG:=g_
  -- two records have turned,a tuple is new
  have I1:Inv X pins σ H { s with heap:=(s.heap),toks:=s.toks+1 }:=I.tok _;have kk:∀b o,b∉[e,it]->s.heap.get? b=some o->qG.get? b=some o:=λb o hb q=>by
   have h1:b≠e:=λz=>hb (by simp[z])
   have h2:b≠it:=λz=>hb (by simp[z])
   exact g_.extBut b o h1 (hk b o h1 h2 q)
  have sN:∀b v,H b=some v->b∉[e,it]:=λb v q hb=>by
   rcases List.mem_cons.mp hb with z | hb
   ·rw[z,f0] at q;cases q
   ·have e2:b=it:=by simpa using hb
    rw[e2,g0] at q;cases q
  have Nu:H s.heap.objs.size=none:=I.aL.fresh (Nat.le_refl _);have tV:∀b v,H b=some v->b≠s.heap.objs.size:=λb v q z=>by rw[z,Nu] at q;cases q
  have aay:qG.get? s.heap.objs.size=some { cls:=.type "tuple",data:=.seq #[.int (i:Nat) s.toks,u] }:=g_.extBut _ _ (Nat.ne_of_gt Nt) hT;have akk:∃o,qG.get? e=some o:=⟨_,tU⟩;have akl:∃o,qG.get? it=some o:=by
   obtain⟨o,q,_⟩:=qF;exact⟨o,g_.extBut _ _ (Ne.symm Es) q⟩
  have I2:Inv X pins σ (upd H s.heap.objs.size (.tup [.int i,x])) { s with heap:=qG,toks:=s.toks+1 }:=by
   refine I.step (g':=s.gens) (d':=s.drawn) (ch:=[e,it]) (λb hb=>?_) (λb o _ _ hc q _=>kk b o hc q) (λb o _ _ hc q _=>⟨o.slots,kk b o hc q⟩) (λb o _ q n=>?_) (λb o hc q=>⟨o,kk b o hc q⟩)
    (λb ys q=>by rw[aD (tV b _ q)];exact q) (λb o v q=>by rw[aD (tV b _ q)];exact q) (λb ps q=>⟨#[],by rw[aD (tV b _ q),q];simp⟩) (λm hm=>?_) (λb v q=>?_) I.bare
   ·rcases List.mem_cons.mp hb with z | hb
    ·rw[z];exact⟨f3,f1,f4,f5⟩
    ·have e2:b=it:=by simpa using hb
     rw[e2];exact⟨g3,g1,g4,g5⟩
   ·rw[aD (Nat.ne_of_lt (Heap.lt_size q))];exact n
   ·obtain⟨o,es,ep,q,r⟩:=hm;exact⟨o,es,ep,kk _ o (by
     intro hb;rcases List.mem_cons.mp hb with z | hb
     ·exact f1 z.symm
     ·exact g1 (by simpa using hb:X.env.locals=it).symm) q,r⟩
   ·by_cases hb:b=s.heap.objs.size
    ·subst hb;rw[aI] at q;cases q;refine⟨by show 2<=sizeLine;decide,[.int (i:Nat) s.toks,u],.cons ⟨_,rfl⟩ (.cons ru .nil),_,aay,rfl,_,rfl⟩
    ·rw[aD hb] at q;refine(I.aL b v q).iy (λc o wM z=>kk c o ?_ z) (λc z=>by rw[aD (tV c _ z)];exact z) (λc ys z=>by rw[aD (tV c _ z)];exact z)
     rcases wM with z2 | z2
     ·rw[z2];exact sN b v q
     ·exact sN c _ z2
  refine⟨.ref s.heap.objs.size,_,I2,rfl,⟨_,x,Nu,rfl,λys hy=>by rw[I.L6 hy hq];exact hx,rfl⟩,⟨⟨u,?_⟩,?_⟩,λb hb=>?_⟩
  ·have z:((i+1:Nat):Int)=(i:Int)+1:=by lia
   rw[z];exact tU
  ·exact qF.at λo q=>g_.extBut _ _ (Ne.symm Es) q
  ·have bT:b<s.heap.objs.size:=by
    rcases List.mem_cons.mp hb with z | hb
    ·rw[z];exact Nt
    ·rw[show b=it by simpa using hb];exact aax
   rw[aD (Nat.ne_of_lt bT)];exact(hf b hb).1
 done:=by
  intro X hP hw hK hc i pins s σ H E I hf st hg;subst hP hw hK;obtain⟨xs,hq,hx⟩:=hg;obtain⟨aC,rv,p,hz⟩:=I.list hq;obtain⟨⟨old,he⟩,hit⟩:=st;obtain⟨g0,g1,g2,g3,g4,g5⟩:=hf it (by simp)
  have hl:=rv.length;exact wpAny_pyNext_enum_end (I.ok.hd hc) he hit p.isList (by simp;lia) λh' eb=>⟨rfl,I.turned (t':=s.toks) (λb o hb e=>eb b o hb e) g0 g1 g3 g4 g5⟩
 self:=λ_ _ _ _ _ st h=>by
  obtain⟨⟨old,he⟩,_⟩:=st;exact wpAny_pyIter_enum he h
section
variable{X:Cx}
noncomputable def Et(K:PySem.W.Frag)(ta:TA):TI:=λσ H R=>ta σ H λvs H1=>∃a,vs = [.ref a]/\(∃xs,aE K H1 a xs)/\R (tR K a) H1
theorem tW{l:Expr}{ta:TA}{p pos tp:Pos}{elts:List Expr}{x1}(hg:Gl X "enumerate")(hm:X.mg "enumerate" = none)(hl:PA X [l] ta)(hs:starEach [l] X.env = [(false,eval l X.env)]:=by rfl) :
  PI X (.Tuple elts x1 tp) (.Call (.Name "enumerate" p) [l] [] pos) (Et X.K ta):=by
 intro pins s σ H R I h;refine Call_ (jQ I hg hm boot_enumerate (PyProof.Rows.callWith_type1 (aM (hl pos pins s σ H _ I h) λus s1 ⟨vs,H1,I1,r1,q1⟩=>?_) hs rfl));obtain⟨a,e,⟨xs,hq⟩,q⟩:=q1;subst e;obtain⟨u,rfl,ru⟩:=vals1 r1;cases ru;obtain⟨aC,rv,p,hz⟩:=I1.list hq;refine call_enumerate_list p.isList λh' he hit hsz hk=>?_;have I2:Inv X pins σ H1 { s1 with heap:=h' }:=I1.kept (t':=s1.toks) hk;refine wpAny_pyIter_enum he ?_;have n1:H1 (s1.heap.objs.size+1)=none:=I1.aL.fresh (Nat.le_succ _);have n0:H1 s1.heap.objs.size=none:=I1.aL.fresh (Nat.le_refl _);refine⟨s1.heap.objs.size+1,[s1.heap.objs.size+1,s1.heap.objs.size],_,_,H1,rfl,I2,aaw a _ _ (Nat.succ_ne_self _),⟨⟨_,he⟩,hit⟩,λb hb=>?_,q⟩;rcases List.mem_cons.mp hb with z | hb
 ·rw[z];exact I1.lQ (Nat.le_succ _) n1
 ·rw[show b=s1.heap.objs.size by simpa using hb];exact I1.lQ (Nat.le_refl _) n0
theorem aaz{K:PySem.W.Frag}{a:Addr}{xs:List V}{g:TG}{tb:TS}{D:Ends}{σ:St}{H:Hp}(Pv:Nat->St->Hp->Prop)(h0:Pv 0 σ H)(hl:∀i σ H,i<=xs.length->Pv i σ H->aE K H a xs)
  (hs:∀i x σ H T,xs[i]? = some x->Pv i σ H->H T=none->g (.ref T) σ (upd H T (.tup [.int i,x])) λaq H2=>tb { D with nx:=Pv (i+1),ct:=Pv (i+1),bk:=D.nx } aq H2) (hd:∀σ H,Pv xs.length σ H->D.nx σ H) :
  ∃W:Nat->Nat->St->Hp->Prop,(∃m,W 0 m σ H)/\∀i m σ H,W i m σ H->
   ((tR K a).stop i H/\D.nx σ H)\/((tR K a).go i H/\∃N:St->Hp->Prop,(∀bz H',N bz H'->∃m',m' < m/\W (i+1) m' bz H')/\∀x H',(tR K a).kL i H x H'->g x σ H' λaq H2=>tb { D with nx:=N,ct:=N,bk:=D.nx } aq H2):=by
 refine⟨λi m σ H=>m=xs.length - i/\i<=xs.length/\Pv i σ H,⟨xs.length,by simp,Nat.zero_le _,h0⟩,?_⟩
 rintro i m σ H ⟨rfl,hi,p⟩;have q:=hl i σ H hi p;by_cases bT:i<xs.length
 ·refine .inr ⟨⟨xs,xs[i],q,by simp[bT]⟩,Pv (i+1),λbz H' p'=>⟨xs.length - (i+1),by lia,rfl,bT,p'⟩,λx H' y=>?_⟩
  obtain⟨T,z,hT,e,y,e2⟩:=y;subst e e2;exact hs i z σ H T (y xs q) p hT
 ·have e:i=xs.length:=by lia
  subst e;exact .inl ⟨⟨xs,q,Nat.le_refl _⟩,hd σ H p⟩
theorem aaA(hc:X.calm=true):iB X (.builtin "sum") (λxs H Q=>∃(p:Addr) (ns:List Int),xs = [.ref p]/\aE X.K H p (ns.map V.int)/\Q (.int ns.sum) H):=by
 intro pins s σ H xs us Q I r h;obtain⟨p,ns,rfl,hq,q⟩:=h;obtain⟨u,rfl,ru⟩:=vals1 r;cases ru;obtain⟨aC,rv,pl,hz⟩:=I.list hq;have hi:IntsAre aC ns:=intsAre_of rv;obtain⟨xs,hx⟩:=hi.allInts.items;have hl':s.heap.IsList p (intItems xs):=hx▸pl.isList;refine sum_intListG (I.ok.hd hc) hl' λh' tk t' hk=>?_;have e1:ns=xs.toList.map (·.1):=by
  rw[← nums_intItems,← hx];exact(show numsOf aC.toArray.toList=ns from hi.numsOf).symm
 have e2:preSum (numAt xs) xs.size=ns.sum:=by
  rw[preSum_eq,List.take_of_length_le (by simp),e1]
 rw[e2];exact⟨.int ns.sum,H,I.kept hk,⟨t',rfl⟩,q⟩
theorem aaB:iB X (.builtin "sorted") (λxs H Q=>∃(p:Addr) (ns:List Int),xs = [.ref p]/\aE X.K H p (ns.map V.int)/\ns.length<64/\
  ∀(l:Addr) (g8:List Int),H l=none->g8.Perm ns->g8.Pairwise (·<=·)->Q (.ref l) (upd H l (.lst (g8.map V.int)))):=by
 intro pins s σ H xs us Q I r h;obtain⟨p,ns,rfl,hq,h64,q⟩:=h;obtain⟨u,rfl,ru⟩:=vals1 r;cases ru;obtain⟨aC,rv,pl,hz⟩:=I.list hq;have hi:IntsAre aC ns:=intsAre_of rv;have hlen:=hi.length;refine sorted_ints pl.isList hi (by lia) λout g8 a1 a2 a3=>?_
 obtain⟨e,he⟩:=sortedAll_at s.heap aC out;have hn:H (s.heap.objs.size+1)=none:=I.aL.fresh (Nat.le_succ _);refine⟨.ref (s.heap.objs.size+1),upd H (s.heap.objs.size+1) (.lst (g8.map V.int)),I.laid (t':=s.toks) (λb o q=>sortedAll_old q) (Nat.le_succ _) ?_,rfl,q _ g8 hn a2 a3⟩;refine⟨?_,out.toList,e,xC a1,by simpa using he⟩
 rw[List.length_map,a2.length_eq];exact Nat.le_trans (Nat.le_of_lt h64) (by decide)
theorem aaC(hc:X.calm=true):iB X (.builtin "min") (λxs H Q=>∃(p:Addr) (ns:List Int),xs = [.ref p]/\aE X.K H p (ns.map V.int)/\0<ns.length/\∀M,M∈ns->(∀a,a∈ns->M<=a)->Q (.int M) H):=by
 intro pins s σ H xs us Q I r h;obtain⟨p,ns,rfl,hq,h0,q⟩:=h;obtain⟨u,rfl,ru⟩:=vals1 r;cases ru;obtain⟨aC,rv,pl,hz⟩:=I.list hq;have hi:IntsAre aC ns:=intsAre_of rv;obtain⟨m,F⟩:=I.fr;refine min_list_N (I.ok.hd hc) F (LN (h:=s.heap)) pl.isList hi h0 λh' M t tk F' N' h1 h2=>?_;have kk:∀b o,b≠X.env.locals->s.heap.get? b=some o->h'.get? b=some o:=λb o hb e=>by
  cases q:X.base.get? b with
  | some z =>
   have:=F.keep b z q;rw[e] at this;cases this;exact F'.keep b _ q
  | none=>exact(N' (b,o) (LM hb q e)).1
 have nl:∀b v,H b=some v->b≠X.env.locals:=λb v e z=>by rw[z,I.free] at e;cases e
 have I':Inv X pins σ H { s with heap:=h',toks:=tk }:=by
  refine I.step (g':=s.gens) (d':=s.drawn) (ch:=[]) (λ_ z=>nomatch z) (λb o hb _ _ e _=>kk b o hb e) (λb o hb _ _ e _=>⟨o.slots,kk b o hb e⟩) (λ_ _ _ _ n=>n) (λb o _ e=>?_) (λ_ _ e=>e) (λ_ _ _ e=>e)
   (λb ps e=>⟨#[],by rw[e];simp⟩) (λm' hm=>?_) (λb v e=>(I.aL b v e).iy (λc o hc e'=>kk c o ?_ e') (λ_ e=>e) (λ_ _ e=>e)) I.bare
  ·by_cases hb:b=X.env.locals
   ·obtain⟨o',_,_,z,_⟩:=F'.ns;exact⟨o',by rw[hb];exact z⟩
   ·exact⟨o,kk b o hb e⟩
  ·have:m' = m:=by
    obtain⟨o1,Eu,Nv,g1,d1,k1,z1⟩:=hm;obtain⟨o2,xM,Ew,g2,d2,k2,z2⟩:=F.ns;rw[g1] at g2;cases g2;rw[d1] at d2;cases d2
    funext x
    rw[← z1 x,← z2 x]
   rw[this];exact F'.ns
  ·rcases hc with z | z
   ·rw[z];exact nl b v e
   ·exact nl c _ z
 exact⟨.int M,H,I',⟨t,rfl⟩,q M h1 h2⟩
theorem xN:iB X (.builtin "isinstance") (λxs H Q=>∃x T t b,xs = [x,.ty T]/\gD X.K H x t/\PySem.W.kitOne X.K t (.type T)=some b/\Q (.bl b) H):=by
 intro pins s σ H xs us Q I r h;obtain⟨x,T,t,b,rfl,ty,e,q⟩:=h;obtain⟨u,v,rfl,ru,rv⟩:=vals2 r;cases (show v=Value.type T from rv);exact YV I ru ty e λtk=>⟨.bl b,H,I.tok _,rfl,q⟩
end
noncomputable def AllP{α:Type}(P:α->Prop):List α->Prop
 | []=>True
 | a::r=>P a/\AllP P r
theorem AllP.mem{α:Type}{P:α->Prop}:∀ {l:List α},AllP P l->∀a∈l,P a
 | _::_,h,a,hm=>by
  rcases List.mem_cons.mp hm with rfl | hm
  ·exact h.1
  ·exact AllP.mem h.2 a hm
theorem dw.of{X:Cx}{scope:Scope}{cl:List (Str×Addr)}{N:List Str}{nt:Nat}{fv:List Nat}(kY:closureFor scope X.env=pure cl)(kind:scope.kind = .function)
  (j6:(scope.names.all λy=>y.2 != .cell)=true) (names:(scope.names.all λy=>y.2 != .local || scope.names.lookup y.1 == some .local)=true)
  (sub:AllP (λp:Str×Addr=>X.env.cells.lookup p.1=some p.2) cl) (has:(scope.names.all λy=>y.2 != .free || (cl.lookup y.1).isSome)=true)
  (free:fv.map (λj=>X.N[j]?)=(N.drop nt).map some) (fk:((N.drop nt).all λy=>scope.names.lookup y == some .free && X.env.scope.names.lookup y == some .cell)=true) (le:nt<=N.length) (nd:N.Nodup) :
  dw X scope cl N nt fv where
 kY:=kY
 kind:=kind
 j6:=λy hy=>by have:=List.all_eq_true.mp j6 y hy;simpa using this
 names:=λy hy hl=>by have:=List.all_eq_true.mp names y hy;simp[hl] at this;exact this
 sub:=sub.mem
 has:=λy hy hl=>by
  have:=List.all_eq_true.mp has y hy;rw[hl] at this;exact Option.isSome_iff_exists.mp (by simpa only[bne_self_eq_false,Bool.false_or] using this)
 free:=free
 fk:=λy hy=>by have:=List.all_eq_true.mp fk y hy;simpa using this
 le:=le
 nd:=nd
theorem akm{CX:e9}{P:Program}{w:World}{K:PySem.W.Frag}{mg:Str->Option Value}{base:Heap}{N:List Str}{qual:Str}{scope:Scope}{f:Addr}{cd:Value}{A:Around}{outer:List Env}{s:Shared}{H:Hp}{E:XK} :
  (lV CX P w K mg base N qual scope f cd A outer s H E).K=K:=rfl
theorem akn{X:Cx}{E:Value->Shared->Prop}:(X.jS E).K=X.K:=rfl
theorem ako{X:Cx}{scope:Scope}{cl:List (Str×Addr)}{N:List Str}{C:Addr}{s:Shared}{H:Hp}{fp:List Addr}:(gr X scope cl N C s H fp).K=X.K:=rfl
structure Zn(H:Hp)(a:Addr)(ts:List Addr)(z:List (Int×Int)):Prop where
 l:H a=some (.lst (ts.map V.ref))
 n:ts.length=z.length
 t:∀(i:Nat) (t:Addr) (p:Int×Int),ts[i]? = some t->z[i]? = some p->H t=some (.tup [.int p.1,.int p.2])
theorem Zn.same{H H':Hp}{a:Addr}{ts:List Addr}{z:List (Int×Int)}(h:Zn H a ts z)(e:ah H H'):Zn H' a ts z:=⟨e _ _ h.l,h.n,λi t p h1 h2=>e _ _ (h.t i t p h1 h2)⟩
theorem Zn.at{H:Hp}{a:Addr}{ts:List Addr}{z:List (Int×Int)}(h:Zn H a ts z){i:Nat}{x:V}(e:(ts.map V.ref)[i]? = some x):∃t p,x = .ref t/\z[i]? = some p/\H t=some (.tup [.int p.1,.int p.2]):=by
 rw[List.getElem?_map] at e;cases q:ts[i]? with
 | none=>rw[q] at e;cases e
 | some t =>
  rw[q] at e;have hi:i<z.length:=by rw[← h.n];exact(List.getElem?_eq_some_iff.mp q).1
  exact⟨t,z[i],(Option.some.inj e).symm,List.getElem?_eq_getElem hi,h.t i t _ q (List.getElem?_eq_getElem hi)⟩
noncomputable def Ex(ns:List Int)(k:Int):Int:=ns.getD k.toNat 0
section
variable{K:PySem.W.Frag}{ta:TA}{tl:TE}{g:TG}{tb:TS}{D:Ends}{σ:St}{H:Hp}
theorem aaD(n:Nat)(dU:∀Q:List V->Hp->Prop,Q [.int (n:Int)] H->ta σ H Q)(hn:n<1000000000)(Pv:Nat->St->Hp->Prop)(h0:Pv 0 σ H)
  (hs:∀i σ H,i<n->Pv i σ H->g (.int (i:Int)) σ H λaq H2=>tb { D with nx:=Pv (i+1),ct:=Pv (i+1),bk:=D.nx } aq H2) (hd:∀σ H,Pv n σ H->D.nx σ H):iM (qp ta) g tb D σ H:=by
 refine dU _ ⟨n,rfl,by lia,by lia,?_⟩
 have e:((n:Int)).toNat=n:=by lia
 rw[e];refine DL Pv h0 (λi σ H hi p=>?_) hd;have e2:(0:Int)+(i:Int)=i:=by lia
 rw[e2];exact hs i σ H hi p
theorem aaE(lo hi:Int)(dU:∀Q:List V->Hp->Prop,Q [.int lo,.int hi] H->ta σ H Q)(b1 : -1000000000000<lo)(b2:lo<1000000000000)(b3 : -1000000000000<hi)(b4:hi<1000000000000)(Pv:Nat->St->Hp->Prop)(h0:Pv 0 σ H)
  (hs:∀i σ H,i<(hi - lo).toNat->Pv i σ H->g (.int (lo+(i:Int))) σ H λaq H2=>tb { D with nx:=Pv (i+1),ct:=Pv (i+1),bk:=D.nx } aq H2) (hd:∀σ H,Pv (hi - lo).toNat σ H->D.nx σ H):iM (sU ta) g tb D σ H :=
 dU _ ⟨lo,hi,rfl,⟨by lia,by lia,by lia,by lia⟩,DL Pv h0 hs hd⟩
theorem aaF(a:Addr)(xs:List V)(j8:∀Q:VK,Q (.ref a) H->tl σ H Q)(e_:aE K H a xs)(Pv:Nat->St->Hp->Prop)(h0:Pv 0 σ H)(hl:∀i σ H,i<=xs.length->Pv i σ H->aE K H a xs)
  (hs:∀i x σ H,xs[i]? = some x->Pv i σ H->g x σ H λaq H2=>tb { D with nx:=Pv (i+1),ct:=Pv (i+1),bk:=D.nx } aq H2) (hd:∀σ H,Pv xs.length σ H->D.nx σ H):iM (oN K tl) g tb D σ H :=
 j8 _ ⟨a,rfl,⟨xs,e_⟩,Yq Pv h0 hl hs hd⟩
theorem aaG(a:Addr)(xs:List V)(dU:∀Q:List V->Hp->Prop,Q [.ref a] H->ta σ H Q)(e_:aE K H a xs)(Pv:Nat->St->Hp->Prop)(h0:Pv 0 σ H)(hl:∀i σ H,i<=xs.length->Pv i σ H->aE K H a xs)
  (hs:∀i x σ H T,xs[i]? = some x->Pv i σ H->H T=none->g (.ref T) σ (upd H T (.tup [.int i,x])) λaq H2=>tb { D with nx:=Pv (i+1),ct:=Pv (i+1),bk:=D.nx } aq H2) (hd:∀σ H,Pv xs.length σ H->D.nx σ H):iM (Et K ta) g tb D σ H :=
 dU _ ⟨a,rfl,⟨xs,e_⟩,aaz Pv h0 hl hs hd⟩
variable{tt:TT}{te:TE}{nt:Nat}{fv:List Nat}{Q:VK}
noncomputable def NX(n i:Nat)(P:Prop):Prop:=∃m',m' < n - i/\m' = n - (i+1)/\i+1<=n/\P
theorem NX.of{n i:Nat}{P:Prop}(hi:i<n)(p:P):NX n i P:=⟨n - (i+1),by lia,rfl,hi,p⟩
theorem aaH(lo hi:Int)(dU:∀Q:List V->Hp->Prop,Q [.int lo,.int hi] H->ta σ H Q)(b1 : -1000000000000<lo)(b2:lo<1000000000000)(b3 : -1000000000000<hi)(b4:hi<1000000000000)
  (Pv:Addr->Nat->List V->St->Hp->Prop) (h0:∀D,H D=none->Pv D 0 [] (jc σ nt fv) (upd H D (.lst []))) (hD:∀D i ys σ H,Pv D i ys σ H->H D=some (.lst ys)/\ys.length<sizeLine)
  (hs:∀D i ys aq H2,i<(hi - lo).toNat->Pv D i ys aq H2->g (.int (lo+(i:Int))) aq H2 λbV H4=>tt bV H4 λb H5=>if b=true then te bV H5 λv H6=>H6 D=some (.lst ys)/\NX (hi - lo).toNat i (Pv D (i+1) (ys++[v]) bV (upd H6 D (.lst (ys++[v])))) else NX (hi - lo).toNat i (Pv D (i+1) ys bV H5))
  (hd:∀D ys aq H2,Pv D (hi - lo).toNat ys aq H2->Q (.ref D) H2):jD (sU ta) g tt te nt fv σ H Q:=by
 refine dU _ ⟨lo,hi,rfl,⟨by lia,by lia,by lia,by lia⟩,λD fU=>?_⟩
 refine⟨λi m ys aq H2=>m=(hi - lo).toNat - i/\i<=(hi - lo).toNat/\Pv D i ys aq H2,⟨_,rfl,Nat.zero_le _,h0 D fU⟩,?_⟩;rintro i m ys aq H2 ⟨rfl,h_,p⟩;obtain⟨d1,d2⟩:=hD D i ys aq H2 p;refine⟨d1,d2,?_⟩;by_cases bT:i<(hi - lo).toNat
 ·refine .inr ⟨bT,λx H3 y=>?_⟩;obtain⟨e1,e2⟩:=y;subst e1 e2;exact hs D i ys aq _ bT p
 ·have e:i=(hi - lo).toNat:=by lia
  subst e;exact .inl ⟨Nat.le_refl _,hd D ys aq H2 p⟩
theorem aaI(a:Addr)(xs:List V)(j8:∀Q:VK,Q (.ref a) H->tl σ H Q)(e_:aE K H a xs)
  (Pv:Addr->Nat->List V->St->Hp->Prop) (h0:∀D,H D=none->Pv D 0 [] (jc σ nt fv) (upd H D (.lst []))) (hD:∀D i ys σ H,Pv D i ys σ H->H D=some (.lst ys)/\ys.length<sizeLine/\aE K H a xs)
  (hs:∀D i x ys aq H2,xs[i]? = some x->Pv D i ys aq H2->g x aq H2 λbV H4=>tt bV H4 λb H5=>if b=true then te bV H5 λv H6=>H6 D=some (.lst ys)/\NX xs.length i (Pv D (i+1) (ys++[v]) bV (upd H6 D (.lst (ys++[v])))) else NX xs.length i (Pv D (i+1) ys bV H5))
  (hd:∀D ys aq H2,Pv D xs.length ys aq H2->Q (.ref D) H2):jD (oN K tl) g tt te nt fv σ H Q:=by
 refine j8 _ ⟨a,rfl,⟨xs,e_⟩,λD fU=>?_⟩;refine⟨λi m ys aq H2=>m=xs.length - i/\i<=xs.length/\Pv D i ys aq H2,⟨_,rfl,Nat.zero_le _,h0 D fU⟩,?_⟩;rintro i m ys aq H2 ⟨rfl,h_,p⟩;obtain⟨d1,d2,d3⟩:=hD D i ys aq H2 p;refine⟨d1,d2,?_⟩;by_cases bT:i<xs.length
 ·refine .inr ⟨⟨xs,xs[i],d3,by simp[bT]⟩,λx H3 y=>?_⟩
  obtain⟨e1,e2⟩:=y;subst e1;exact hs D i x ys aq _ (e2 xs d3) p
 ·have e:i=xs.length:=by lia
  subst e;exact .inl ⟨⟨xs,d3,Nat.le_refl _⟩,hd D ys aq H2 p⟩
end
theorem jd{ns:List Int}{k:Int}(h0:0<=k)(h:k<(ns.length:Int)):gq (ns.map V.int) k=some (.int (ns.getD k.toNat 0)):=by
 have hk:k.toNat<ns.length:=by lia
 unfold gq i8;rw[if_pos h0,if_pos (by simpa using h)]
 simp[List.getD_eq_getElem?_getD,List.getElem?_eq_getElem hk]
theorem aaJ{ns:List Int}(h:0<ns.length):gq (ns.map V.int) (-1)=some (.int (ns.getD (ns.length - 1) 0)):=by
 have hk:ns.length - 1<ns.length:=by lia
 unfold gq i8;rw[if_neg (by decide),if_pos (by simp;lia)]
 have e:(-1+((ns.map V.int).length:Int)).toNat=ns.length - 1:=by simp;lia
 rw[e];simp[List.getD_eq_getElem?_getD,List.getElem?_eq_getElem hk]
theorem Ey(a b:String):(Str.ofString a=Str.ofString b)=(a=b):=by
 refine propext ⟨λh=>?_,λh=>by rw[h]⟩
 rw[Str.ofString_eq_toList,Str.ofString_eq_toList] at h;have h:a.toList.map Char.toNat=b.toList.map Char.toNat:=by
  injection h with h;exact Array.toList_inj.mpr h |> λz=>by simpa using h
 have inj:∀(x y:List Char),x.map Char.toNat=y.map Char.toNat->x=y:=by
  intro x
  induction x with
  | nil=>intro y h;cases y with | nil=>rfl | cons c r=>simp at h
  | cons c r ih =>
   intro y h;cases y with
   | nil=>simp at h
   | cons d q =>
    simp only[List.map_cons,List.cons.injEq] at h;rw[ih q h.2,Char.toNat_inj.mp h.1]
 exact String.ext (inj _ _ h)
theorem fc(a b:String):(Str.ofString a == Str.ofString b)=(a == b):=by
 by_cases h:a=b
 ·subst h;simp
 ·have h2:¬ Str.ofString a=Str.ofString b:=by rw[Ey];exact h
  rw[beq_eq_false_iff_ne.mpr h,beq_eq_false_iff_ne.mpr h2]
structure qH(z:List (Int×Int)):Prop where
 l1:1<=z.length
 l5:z.length<=5
 r:∀p∈z,1<=p.1/\p.1<=40/\1<=p.2/\p.2<=60
 s2:2<=(z.map (·.1)).sum
 Ez:(z.map (·.1)).sum<=120
noncomputable def counts(z:List (Int×Int)):List Int:=z.flatMap λp=>List.replicate p.1.toNat p.2
structure SwOk(sw:List Int)(n:Int):Prop where
 len:(sw.length:Int)=n
 two:2<=n
 z:sw.getD 0 0=0
 pos:∀i:Nat,1<=i->i<sw.length->1<=sw.getD i 0/\sw.getD i 0<=1000000000
 up:∀i:Nat,1<=i->i<sw.length->sw.getD (i - 1) 0<=sw.getD i 0
 no:∀a b:Nat,1<=a->1<=b->a+b<sw.length->sw.getD (a+b) 0<=sw.getD a 0+sw.getD b 0
noncomputable def eF(s:Int):Nat->List Int->List (Int×Int)
 | _,[]=>[]
 | r,c::cs=>(List.range (c - s).toNat).map (λ(k:Nat)=>((r:Int),(k:Int)))++eF s (r+1) cs
noncomputable def jE(rc:List Int)(s:Int):List (Int×Int):=eF s 0 rc
noncomputable def kT(p:Int×Int):List Key:=[.inl p.1,.inl p.2]
noncomputable def gG:Nat->List (Int×Int)->List (List Key×V)->List (List Key×V)
 | _,[],acc=>acc
 | i,p::r,acc=>gG (i+1) r (putK acc (kT p) (.int i))
noncomputable def qI(z:List (Int×Int)):List (List Key×V):=gG 0 z []
theorem Nx(s:Int):∀(xs ys:List Int) (r:Nat),eF s r (xs++ys)=eF s r xs++eF s (r+xs.length) ys
 | [],ys,r=>by simp[eF]
 | x::xs,ys,r=>by
  rw[List.cons_append,eF,eF,Nx s xs ys (r+1),List.append_assoc,List.length_cons];congr 3;lia
theorem Ny:∀(xs ys:List (Int×Int)) (i:Nat) (acc:List (List Key×V)),gG i (xs++ys) acc=gG (i+xs.length) ys (gG i xs acc)
 | [],ys,i,acc=>by simp[gG]
 | x::xs,ys,i,acc=>by
  rw[List.cons_append,gG,gG,Ny xs ys (i+1),List.length_cons];congr 1;lia
theorem Nz:∀(xs:List (Int×Int)) (i:Nat) (acc:List (List Key×V)),(gG i xs acc).length<=acc.length+xs.length
 | [],i,acc=>by simp[gG]
 | x::xs,i,acc=>by
  rw[gG];have h1:=Nz xs (i+1) (putK acc (kT x) (.int i));have h2:=D7 acc (kT x) (.int i);rw[List.length_cons];lia
theorem NB(x y:List (Int×Int)):counts (x++y)=counts x++counts y:=by simp[counts]
theorem nA:∀(z:List (Int×Int)),(∀p∈z,1<=p.1)->((counts z).length:Int)=(z.map (·.1)).sum
 | [],_=>rfl
 | p::z,h=>by
  have ih:=nA z λp hp=>h p (List.mem_cons_of_mem _ hp);have h1:=h p List.mem_cons_self;simp only[counts,List.flatMap_cons,List.length_append,List.length_replicate,List.map_cons,List.sum_cons] at ih ⊢;lia
theorem NC{z:List (Int×Int)}(ok:qH z)(i:Nat):(counts (z.take i)).length<=120:=by
 have h0:=nA z λp hp=>(ok.r p hp).1;have e:z=z.take i++z.drop i:=(List.take_append_drop i z).symm;have e2:(counts z).length=(counts (z.take i)).length+(counts (z.drop i)).length:=by
  rw[← List.length_append,← NB,List.take_append_drop]
 have:=ok.Ez;lia
theorem o_{z:List (Int×Int)}{c:Int}(h:c∈counts z):∃p∈z,c=p.2:=by
 obtain⟨p,hp,hc⟩:=List.mem_flatMap.mp h;exact⟨p,hp,(List.mem_replicate.mp hc).2⟩
theorem xO{s:Int}(hs:0<=s):∀(rc:List Int) (r:Nat),(∀c∈rc,0<=c/\c<=1000)->(eF s r rc).length<=1000*rc.length
 | [],_,_=>by simp[eF]
 | c::rc,r,h=>by
  have ih:=xO hs rc (r+1) λc hc=>h c (List.mem_cons_of_mem _ hc);have h1:=h c List.mem_cons_self;simp only[eF,List.length_append,List.length_map,List.length_range,List.length_cons];lia
theorem aaK{s:Int}(hs:0<=s){rc:List Int}(h:∀c∈rc,0<=c/\c<=1000)(i:Nat):(eF s 0 (rc.take i)).length<=1000*rc.length:=by
 have h1:=xO hs (rc.take i) 0 λc hc=>h c (List.mem_of_mem_take hc);rw[List.length_take] at h1;have h2:1000*min i rc.length<=1000*rc.length:=Nat.mul_le_mul_left _ (Nat.min_le_right _ _);exact Nat.le_trans h1 h2
theorem pe:sizeLine=16777216:=by decide
theorem ND(n:Nat)(c:Int):(List.replicate n [V.int c]).flatten=(List.replicate n c).map V.int:=by
 induction n with
 | zero=>rfl
 | succ n ih=>rw[List.replicate_succ,List.flatten_cons,ih,List.replicate_succ,List.map_cons];rfl
theorem NF{α:Type}{l:List α}{i:Nat}{x:α}(h:l[i]? = some x):i<l.length:=(List.getElem?_eq_some_iff.mp h).1
theorem take_succ_get{α:Type}{l:List α}{i:Nat}{x:α}(h:l[i]? = some x):l.take (i+1)=l.take i++[x]:=by
 rw[List.take_add_one,h];rfl
theorem xP(l:List Int){i:Nat}(h:i<l.length):l[i]? = some (l.getD i 0):=by
 simp[List.getD_eq_getElem?_getD,List.getElem?_eq_getElem h]
theorem ff{α β:Type}{f:α->β}{l:List α}{i:Nat}{y:β}(h:(l.map f)[i]? = some y):∃x,l[i]? = some x/\y=f x:=by
 rw[List.getElem?_map] at h;cases e:l[i]? with
 | none=>rw[e] at h;cases h
 | some x=>rw[e] at h;exact⟨x,rfl,(Option.some.inj h).symm⟩
theorem get_mem{α:Type}{l:List α}{i:Nat}{x:α}(h:l[i]? = some x):x∈l:=List.mem_of_getElem? h
theorem d7{α:Type}{l:List α}{i:Nat}{x:α}(h:l[i]? = some x):i<l.length:=(List.getElem?_eq_some_iff.mp h).1
theorem ah.put{H:Hp}{a:Addr}{o:HO}(h:H a=none):ah H (upd H a o):=λb u e=>by rw[aD (bX e h)];exact e
theorem ah.put2{H H':Hp}{a:Addr}{o:HO}(s:ah H H')(h:H a=none):ah H (upd H' a o):=λb u e=>by rw[aD (bX e h)];exact s b u e
theorem Zn.sq{K:PySem.W.Frag}{H:Hp}{a:Addr}{ts:List Addr}{z:List (Int×Int)}(h:Zn H a ts z):aE K H a (ts.map V.ref):=aE.of h.l
section
variable{X:Cx}{K:PySem.W.Frag}
theorem aaL(h:X.K=K):tK X (MT K):=h▸gF
theorem EA(h:X.K=K):tK X (MS K):=h▸cS
end
section
variable{K:PySem.W.Frag}{ta:TA}{tl:TE}{g:TG}{tb:TS}{D:Ends}{σ:St}{H:Hp}
theorem rl(a:Addr)(xs:List V)(Pv:Nat->St->Hp->Prop)(j8:∀Q:VK,Q (.ref a) H->tl σ H Q)(e_:aE K H a xs)(h0:Pv 0 σ H)(hl:∀i σ H,i<=xs.length->Pv i σ H->aE K H a xs)
  (hs:∀i x σ H (N:St->Hp->Prop),(∀σ H,Pv (i+1) σ H->N σ H)->xs[i]? = some x->Pv i σ H->g x σ H λaq H2=>tb { D with nx:=N,ct:=N,bk:=D.nx } aq H2) (hd:∀σ H,Pv xs.length σ H->D.nx σ H):iM (oN K tl) g tb D σ H :=
 aaF a xs j8 e_ Pv h0 hl (λi x σ H hx p=>hs i x σ H _ (λ_ _ z=>z) hx p) hd
theorem EB(n:Nat)(Pv:Nat->St->Hp->Prop)(dU:∀Q:List V->Hp->Prop,Q [.int (n:Int)] H->ta σ H Q)(hn:n<1000000000)(h0:Pv 0 σ H)
  (hs:∀i σ H (N:St->Hp->Prop),(∀σ H,Pv (i+1) σ H->N σ H)->i<n->Pv i σ H->g (.int (i:Int)) σ H λaq H2=>tb { D with nx:=N,ct:=N,bk:=D.nx } aq H2) (hd:∀σ H,Pv n σ H->D.nx σ H):iM (qp ta) g tb D σ H :=
 aaD n dU hn Pv h0 (λi σ H hx p=>hs i σ H _ (λ_ _ z=>z) hx p) hd
theorem xQ(lo hi:Int)(Pv:Nat->St->Hp->Prop)(dU:∀Q:List V->Hp->Prop,Q [.int lo,.int hi] H->ta σ H Q)(b1 : -1000000000000<lo)(b2:lo<1000000000000)(b3 : -1000000000000<hi)(b4:hi<1000000000000)(h0:Pv 0 σ H)
  (hs:∀i σ H (N:St->Hp->Prop),(∀σ H,Pv (i+1) σ H->N σ H)->i<(hi - lo).toNat->Pv i σ H->g (.int (lo+(i:Int))) σ H λaq H2=>tb { D with nx:=N,ct:=N,bk:=D.nx } aq H2) (hd:∀σ H,Pv (hi - lo).toNat σ H->D.nx σ H):iM (sU ta) g tb D σ H :=
 aaE lo hi dU b1 b2 b3 b4 Pv h0 (λi σ H hx p=>hs i σ H _ (λ_ _ z=>z) hx p) hd
theorem NG(n:Int)(Pv:Nat->St->Hp->Prop)(dU:∀Q:List V->Hp->Prop,Q [.int n] H->ta σ H Q)(NH : -1000000000000<n)(hn:n<1000000000000)(h0:Pv 0 σ H)
  (hs:∀i σ H (N:St->Hp->Prop),(∀σ H,Pv (i+1) σ H->N σ H)->i<n.toNat->Pv i σ H->g (.int (i:Int)) σ H λaq H2=>tb { D with nx:=N,ct:=N,bk:=D.nx } aq H2) (hd:∀σ H,Pv n.toNat σ H->D.nx σ H):iM (qp ta) g tb D σ H:=by
 refine dU _ ⟨n,rfl,by lia,by lia,?_⟩
 refine DL Pv h0 (λi σ H hi p=>?_) hd;have e2:(0:Int)+(i:Int)=i:=by lia
 rw[e2];exact hs i σ H _ (λ_ _ z=>z) hi p
theorem re(a:Addr)(xs:List V)(Pv:Nat->St->Hp->Prop)(dU:∀Q:List V->Hp->Prop,Q [.ref a] H->ta σ H Q)(e_:aE K H a xs)(h0:Pv 0 σ H)(hl:∀i σ H,i<=xs.length->Pv i σ H->aE K H a xs)
  (hs:∀i x σ H T (N:St->Hp->Prop),(∀σ H,Pv (i+1) σ H->N σ H)->xs[i]? = some x->Pv i σ H->H T=none->g (.ref T) σ (upd H T (.tup [.int i,x])) λaq H2=>tb { D with nx:=N,ct:=N,bk:=D.nx } aq H2) (hd:∀σ H,Pv xs.length σ H->D.nx σ H):iM (Et K ta) g tb D σ H :=
 aaG a xs dU e_ Pv h0 hl (λi x σ H T hx p hT=>hs i x σ H T _ (λ_ _ z=>z) hx p hT) hd
variable{tt:TT}{te:TE}{nt:Nat}{fv:List Nat}{Q:VK}
theorem aaM(lo hi:Int)(Pv:Addr->Nat->List V->St->Hp->Prop)(dU:∀Q:List V->Hp->Prop,Q [.int lo,.int hi] H->ta σ H Q)(b1 : -1000000000000<lo)(b2:lo<1000000000000)(b3 : -1000000000000<hi)(b4:hi<1000000000000)
  (h0:∀D,H D=none->Pv D 0 [] (jc σ nt fv) (upd H D (.lst []))) (hD:∀D i ys σ H,Pv D i ys σ H->H D=some (.lst ys)/\ys.length<sizeLine)
  (hs:∀D i ys aq H2 (N:List V->St->Hp->Prop),(∀ys σ H,Pv D (i+1) ys σ H->N ys σ H)->i<(hi - lo).toNat->Pv D i ys aq H2->g (.int (lo+(i:Int))) aq H2 λbV H4=>tt bV H4 λb H5=>if b=true then te bV H5 λv H6=>H6 D=some (.lst ys)/\N (ys++[v]) bV (upd H6 D (.lst (ys++[v]))) else N ys bV H5)
  (hd:∀D ys aq H2,Pv D (hi - lo).toNat ys aq H2->Q (.ref D) H2):jD (sU ta) g tt te nt fv σ H Q :=
 aaH lo hi dU b1 b2 b3 b4 Pv h0 hD (λD i ys aq H2 hi p=>hs D i ys aq H2 _ (λ_ _ _ z=>NX.of hi z) hi p) hd
theorem j9(a:Addr)(xs:List V)(Pv:Addr->Nat->List V->St->Hp->Prop)(j8:∀Q:VK,Q (.ref a) H->tl σ H Q)(e_:aE K H a xs)
  (h0:∀D,H D=none->Pv D 0 [] (jc σ nt fv) (upd H D (.lst []))) (hD:∀D i ys σ H,Pv D i ys σ H->H D=some (.lst ys)/\ys.length<sizeLine/\aE K H a xs)
  (hs:∀D i x ys aq H2 (N:List V->St->Hp->Prop),(∀ys σ H,Pv D (i+1) ys σ H->N ys σ H)->xs[i]? = some x->Pv D i ys aq H2->g x aq H2 λbV H4=>tt bV H4 λb H5=>if b=true then te bV H5 λv H6=>H6 D=some (.lst ys)/\N (ys++[v]) bV (upd H6 D (.lst (ys++[v]))) else N ys bV H5)
  (hd:∀D ys aq H2,Pv D xs.length ys aq H2->Q (.ref D) H2):jD (oN K tl) g tt te nt fv σ H Q :=
 aaI a xs j8 e_ Pv h0 hD (λD i x ys aq H2 hx p=>hs D i x ys aq H2 _ (λ_ _ _ z=>NX.of (List.getElem?_eq_some_iff.mp hx).1 z) hx p) hd
end
theorem k6{K:PySem.W.Frag}{H:Hp}{σ:St}{t:Addr}{x y:V}{n i j:Nat}{Q:St->Hp->Prop}(h:bE K H t [x,y])(hn:2=n)(q:Q ((σ.set i (some x)).set j (some y)) H):DF K n (DE (mV i) (DE (mV j) Ma)) (.ref t) σ H Q :=
 ⟨t,[x,y],rfl,h,hn,x,[y],rfl,y,[],rfl,rfl,q⟩
theorem lenZ{ts:List Addr}{z:List (Int×Int)}(h:ts.length=z.length):(ts.map V.ref).length=z.length:=by simpa using h
theorem Zn.snoc{H:Hp}{l p:Addr}{ts:List Addr}{z:List (Int×Int)}(h:Zn H l ts z)(hp:H p=none)(a b:Int):Zn (upd (upd H p (.tup [.int a,.int b])) l (.lst (ts.map V.ref++[V.ref p]))) l (ts++[p]) (z++[(a,b)]):=by
 have EC:l≠p:=bX h.l hp;refine⟨by rw[aI,List.map_append];rfl,by simp[h.n],λi t q e1 e2=>?_⟩
 have hn:=h.n;by_cases hi:i<ts.length
 ·rw[List.getElem?_append_left hi] at e1;rw[List.getElem?_append_left (by lia)] at e2
  have ht:=h.t i t q e1 e2;rw[aD (qg ht h.l (by intro z;cases z)),aD (bX ht hp)]
  exact ht
 ·rw[List.getElem?_append_right (by lia)] at e1
  rw[List.getElem?_append_right (by lia)] at e2
  have gH:i - ts.length=0:=by
   have:=NF e1;simp at this;lia
  rw[gH] at e1;rw[← hn,gH] at e2;simp at e1 e2;subst e1 e2;rw[aD EC.symm,aI]
noncomputable def aaN(t:TS):TS:=λD σ H=>∃M:St->Hp->Prop,t { D with nx:=M } σ H/\∀eN H1,M eN H1->D.nx eN H1
theorem aaO{X:Cx}{st:Stmt}{t:TS}(h:PS X st t):PS X st (aaN t):=by
 rintro pins s σ H D I ⟨M,hM,k⟩;refine aM (h pins s σ H _ I hM) λf s1 q=>?_;cases f with
 | next=>obtain⟨eN,H1,I1,q⟩:=q;exact⟨eN,H1,I1,k _ _ q⟩
 | brk=>exact q
 | cont=>exact q
 | ret u=>exact q
noncomputable def aaP(K:PySem.W.Frag):Sp:=λvs H Q _=>∃(a:Addr) (ts:List Addr) (z:List (Int×Int)),vs = [.ref a]/\Zn H a ts z/\qH z/\∀H',ah H H'->Q .aN H'
noncomputable def aaQ(K:PySem.W.Frag):Sp:=λvs H Q _=>∃(a:Addr) (ts:List Addr) (z:List (Int×Int)) (aG dF:Int),vs = [.ref a,.int aG,.int dF]/\Zn H a ts z/\qH z/\1<=aG/\aG<=1000000000/\0<=dF/\dF<aG/\
 (∀p∈z,aG % p.2=0)/\Q .aN H
noncomputable def aaR(K:PySem.W.Frag):Sp:=λvs H Q _=>∃(a:Addr) (sw:List Int) (n:Int),vs = [.ref a,.int n]/\aE K H a (sw.map V.int)/\SwOk sw n/\n<=1000/\Q .aN H
noncomputable def aaS(K:PySem.W.Frag):Sp:=λvs H Q _=>∃(a:Addr) (sw:List Int) (n:Int),vs = [.ref a]/\aE K H a (sw.map V.int)/\SwOk sw n/\n<=1000/\Q .aN H
noncomputable def aaT(K:PySem.W.Frag):Sp:=λvs H Q _=>∃(a:Addr) (ts:List Addr) (z:List (Int×Int)),vs = [.ref a]/\Zn H a ts z/\qH z/\
 ∀l H',ah H H'->H l=none->H' l=some (.lst ((counts z).map V.int))->Q (.ref l) H'
noncomputable def aaU(K:PySem.W.Frag):Sp:=λvs H Q _=>∃(a:Addr) (rc:List Int) (s:Int),vs = [.ref a,.int s]/\aE K H a (rc.map V.int)/\rc.length<=1000/\(∀c∈rc,0<=c/\c<=1000)/\0<=s/\s<=1000/\
 ∀l ts H',ah H H'->H l=none->(∀t∈ts,H t=none)->Zn H' l ts (jE rc s)->Q (.ref l) H'
noncomputable def aaV(K:PySem.W.Frag):Sp:=λvs H Q _=>∃(a:Addr) (ts:List Addr) (z:List (Int×Int)),vs = [.ref a]/\Zn H a ts z/\z.length<=1000000/\
 ∀d H',ah H H'->H d=none->H' d=some (.dT (qI z))->Q (.ref d) H'
structure Pl where
 rc:List Int
 aG:Int
 dF:Int
 sw:List Int
 nc:List (Int×Int)
structure CP(K:PySem.W.Frag)(C:Addr):Prop where
 cl:bZ K C
 n1:bU K C "ring_cells"
 n2:bU K C "lap"
 n3:bU K C "skew"
 n4:bU K C "swing"
 n5:bU K C "number_cells"
 n6:bU K C "cell_numbers"
noncomputable def tX(a1:Addr)(aG dF:Int)(a2 a3 a4:Addr):List (Str×V):=[("ring_cells",.ref a1),("lap",.int aG),("skew",.int dF),("swing",.ref a2),("number_cells",.ref a3),("cell_numbers",.ref a4)]
structure nC(K:PySem.W.Frag)(C:Addr)(H:Hp)(p:Addr)(P:Pl)(dx a1 a2 a3 a4:Addr)(ts:List Addr)(fs:List (Str×V)):Prop where
 cp:CP K C
 o:H p=some (.ins C dx fs)
 f1:fs.lookup ("ring_cells" : Str)=some (.ref a1)
 f2:fs.lookup ("lap" : Str)=some (.int P.aG)
 f3:fs.lookup ("skew" : Str)=some (.int P.dF)
 f4:fs.lookup ("swing" : Str)=some (.ref a2)
 f5:fs.lookup ("number_cells" : Str)=some (.ref a3)
 f6:fs.lookup ("cell_numbers" : Str)=some (.ref a4)
 m1:fs.lookup ("rings" : Str)=none
 m2:fs.lookup ("total" : Str)=none
 m3:fs.lookup ("cells_of" : Str)=none
 m4:fs.lookup ("beats_of" : Str)=none
 m5:fs.lookup ("lap_beats" : Str)=none
 m6:fs.lookup ("begins" : Str)=none
 m7:fs.lookup ("swing_of" : Str)=none
 m8:fs.lookup ("has_cell" : Str)=none
 m9:fs.lookup ("cell_at" : Str)=none
 gJ:fs.lookup ("number_of" : Str)=none
 ia:fs.lookup ("laid" : Str)=none
 rc:H a1=some (.lst (P.rc.map V.int))
 sw:H a2=some (.lst (P.sw.map V.int))
 nc:Zn H a3 ts P.nc
 cn:H a4=some (.dT (qI P.nc))
theorem nC.lit{K:PySem.W.Frag}{C:Addr}{H:Hp}{p:Addr}{P:Pl}{dx a1 a2 a3 a4:Addr}{ts:List Addr}(cp:CP K C)(o:H p=some (.ins C dx (tX a1 P.aG P.dF a2 a3 a4)))(rc:H a1=some (.lst (P.rc.map V.int)))(sw:H a2=some (.lst (P.sw.map V.int)))
  (nc:Zn H a3 ts P.nc) (cn:H a4=some (.dT (qI P.nc))):nC K C H p P dx a1 a2 a3 a4 ts (tX a1 P.aG P.dF a2 a3 a4):=by
 refine⟨cp,o,?_,?_,?_,?_,?_,?_,?_,?_,?_,?_,?_,?_,?_,?_,?_,?_,?_,rc,sw,nc,cn⟩ <;> simp[tX,List.lookup_cons,fc]
noncomputable def bY(K:PySem.W.Frag)(C:Addr)(H:Hp)(p:Addr)(P:Pl)(fp:List Addr):Prop:=∃dx a1 a2 a3 a4 ts fs,fp=a1::a2::a3::a4::ts/\nC K C H p P dx a1 a2 a3 a4 ts fs
theorem Zn.keep{H H':Hp}{a:Addr}{ts:List Addr}{z:List (Int×Int)}(h:Zn H a ts z)(ha:H' a=H a)(ht:∀t∈ts,H' t=H t):Zn H' a ts z :=
 ⟨ha.trans h.l,h.n,λi t p e1 e2=>(ht t (List.mem_of_getElem? e1)).trans (h.t i t p e1 e2)⟩
theorem Zn.has{H:Hp}{a:Addr}{ts:List Addr}{z:List (Int×Int)}(h:Zn H a ts z){t:Addr}(ht:t∈ts):∃o,H t=some o:=by
 obtain⟨i,hi,rfl⟩:=List.mem_iff_getElem.mp ht;have hz:i<z.length:=by rw[← h.n];exact hi
 exact⟨_,h.t i _ _ (List.getElem?_eq_getElem hi) (List.getElem?_eq_getElem hz)⟩
section
variable{K:PySem.W.Frag}{C:Addr}{H H':Hp}{p x:Addr}{P:Pl}{fp:List Addr}
theorem nC.move{dx a1 a2 a3 a4:Addr}{ts:List Addr}{fs:List (Str×V)}(h:nC K C H p P dx a1 a2 a3 a4 ts fs)(ho:H' p=H p)(h1:H' a1=H a1)(h2:H' a2=H a2)(h3:H' a3=H a3)(h4:H' a4=H a4)(ht:∀t∈ts,H' t=H t):nC K C H' p P dx a1 a2 a3 a4 ts fs :=
 { h with o:=ho.trans h.o,rc:=h1.trans h.rc,sw:=h2.trans h.sw,nc:=h.nc.keep h3 ht,cn:=h4.trans h.cn }
theorem bY.keep(h:bY K C H p P fp)(hp:H' p=H p)(e:∀b∈fp,H' b=H b):bY K C H' p P fp:=by
 obtain⟨dx,a1,a2,a3,a4,ts,fs,rfl,h⟩:=h;exact⟨dx,a1,a2,a3,a4,ts,fs,rfl,h.move hp (e a1 (by simp)) (e a2 (by simp)) (e a3 (by simp)) (e a4 (by simp)) λt ht=>e t (by simp[ht])⟩
theorem bY.has(h:bY K C H p P fp){b:Addr}(hb:b∈fp):∃o,H b=some o:=by
 obtain⟨eu,a1,a2,a3,a4,ts,fs,rfl,h⟩:=h;simp only[List.mem_cons] at hb;rcases hb with rfl | rfl | rfl | rfl | hb
 ·exact⟨_,h.rc⟩
 ·exact⟨_,h.sw⟩
 ·exact⟨_,h.nc.l⟩
 ·exact⟨_,h.cn⟩
 ·exact h.nc.has hb
theorem bY.here(h:bY K C H p P fp):∃o,H p=some o:=by
 obtain⟨eu,a1,a2,a3,a4,ts,fs,rfl,h⟩:=h;exact⟨_,h.o⟩
theorem bY.same(h:bY K C H p P fp)(s:ah H H'):bY K C H' p P fp:=by
 refine h.keep ?_ λb hb=>?_
 ·obtain⟨o,e⟩:=h.here;rw[e];exact s _ _ e
 ·obtain⟨o,e⟩:=h.has hb;rw[e];exact s _ _ e
noncomputable def SameBut(x:Addr)(H H':Hp):Prop:=∀b o,H b=some o->b≠x->H' b=some o
theorem SameBut.put{o:HO}(s:SameBut x H H'):SameBut x H (upd H' x o):=λb u e h=>by rw[aD h];exact s b u e h
theorem SameBut.step{H1 H2:Hp}(s:SameBut x H H1)(t:ah H1 H2):SameBut x H H2:=λb u e h=>t _ _ (s b u e h)
theorem SameBut.of(s:ah H H'):SameBut x H H':=λb u e _=>s _ _ e
end
noncomputable def aaW(K:PySem.W.Frag):Sp:=λvs H Q _=>∃(C p dx za sa:Addr) (qJ:List Addr) (z:List (Int×Int)) (aG dF:Int) (sw:List Int),vs = [.ref p,.ref za,.int aG,.int dF,.ref sa]/\CP K C/\H p=some (.ins C dx [])/\Zn H za qJ z/\qH z/\
 1<=aG/\aG<=1000000000/\0<=dF/\dF<aG/\(∀p∈z,aG % p.2=0)/\aE K H sa (sw.map V.int)/\SwOk sw (z.map (·.1)).sum/\
 ∀H' dx a1 a2 a3 a4 ts,SameBut p H H'->(∀b∈a1::a2::a3::a4::ts,H b=none)->H' p=some (.ins C dx (tX a1 aG dF a2 a3 a4))->nC K C H' p ⟨counts z,aG,dF,sw,jE (counts z) 0⟩ dx a1 a2 a3 a4 ts (tX a1 aG dF a2 a3 a4)->Q .aN H'
noncomputable def aaX(K:PySem.W.Frag):Sp:=λvs H Q _=>∃(C p:Addr) (P:Pl) (fp:List Addr) (i j:Int),vs = [.ref p,.int i,.int j]/\bY K C H p P fp/\(i - j).natAbs<P.sw.length/\Q (.int (P.sw.getD (i - j).natAbs 0)) H
noncomputable def aaY(K:PySem.W.Frag):Sp:=λvs H Q _=>∃(C p:Addr) (P:Pl) (fp:List Addr),vs = [.ref p]/\bY K C H p P fp/\Q (.int P.rc.length) H
noncomputable def aaZ(K:PySem.W.Frag):Sp:=λvs H Q _=>∃(C p:Addr) (P:Pl) (fp:List Addr),vs = [.ref p]/\bY K C H p P fp/\Q (.int P.aG) H
noncomputable def aa0(K:PySem.W.Frag):Sp:=λvs H Q _=>∃(C p:Addr) (P:Pl) (fp:List Addr) (r:Int),vs = [.ref p,.int r]/\bY K C H p P fp/\0<=r/\r<P.rc.length/\Q (.int (P.rc.getD r.toNat 0)) H
noncomputable def aa1(K:PySem.W.Frag):Sp:=λvs H Q _=>∃(C p:Addr) (P:Pl) (fp:List Addr) (r:Int),vs = [.ref p,.int r]/\bY K C H p P fp/\0<=r/\r<P.rc.length/\0<P.rc.getD r.toNat 0/\P.rc.getD r.toNat 0<=1000/\Q (.int (P.aG / P.rc.getD r.toNat 0)) H
noncomputable def aa2(K:PySem.W.Frag)(cs:List Addr):Sp:=λvs H Q _=>∃(C p:Addr) (P:Pl) (fp:List Addr) (r c:Int),vs = [.ref p,.int r,.int c]/\C∈cs/\bY K C H p P fp/\0<=r/\r<P.rc.length/\P.rc.length<=1000/\0<P.rc.getD r.toNat 0/\P.rc.getD r.toNat 0<=1000/\
 0<=c/\c<=1000/\0<P.aG/\Q (.int ((c*(P.aG / P.rc.getD r.toNat 0)+r*P.dF) % P.aG)) H
noncomputable def aa3(K:PySem.W.Frag):Sp:=λvs H Q _=>∃(C p:Addr) (P:Pl) (fp:List Addr) (r c:Int),vs = [.ref p,.int r,.int c]/\bY K C H p P fp/\Q (.bl (decide (0<=r/\r<P.rc.length/\0<=c/\c<P.rc.getD r.toNat 0))) H
noncomputable def aa4(K:PySem.W.Frag):Sp:=λvs H Q _=>∃(C p:Addr) (P:Pl) (fp:List Addr) (k:Int),vs = [.ref p,.int k]/\bY K C H p P fp/\0<=k/\k<P.nc.length/\∀t q,P.nc[k.toNat]? = some q->H t=some (.tup [.int q.1,.int q.2])->Q (.ref t) H
noncomputable def aa5(K:PySem.W.Frag)(cs:List Addr):Sp:=λvs H Q _=>∃(C p:Addr) (P:Pl) (fp:List Addr) (r c:Int),vs = [.ref p,.int r,.int c]/\C∈cs/\bY K C H p P fp/\0<=r/\r<P.rc.length/\0<=c/\c<P.rc.getD r.toNat 0/\
 ∀H',ah H H'->Q ((cC (qI P.nc) (kT (r,c))).getD .aN) H'
noncomputable def dM(z:List (Int×Int)):Int:=z.foldl (λp x=>p*x.2) 1
theorem range_getD{f:Nat->Int}{n i:Nat}(h:i<n):((List.range n).map f).getD i 0=f i:=by
 simp[List.getD_eq_getElem?_getD,h]
theorem aa6{L:Int}(h:1<=L)(h8:L<=100000000){ns:List Int}(hb:∀x∈ns,L<=x/\x<=2*L)(hp:ns.Pairwise (·<=·))(h1:1<=ns.length):SwOk (0::ns) ((ns.length+1:Nat):Int):=by
 have at_:∀i:Nat,1<=i->i<(0::ns).length->∃hi:i - 1<ns.length,(0::ns).getD i 0=ns[i - 1]:=λi h1 hi=>by
  obtain⟨j,rfl⟩:∃j,i=j+1:=⟨i - 1,by lia⟩
  have hj:j<ns.length:=by simpa using hi
  exact⟨hj,by simp[List.getD_eq_getElem?_getD,List.getElem?_eq_getElem hj]⟩
 refine⟨by simp,by lia,rfl,λi h1 hi=>?_,λi h1 hi=>?_,λa b ha kR xR=>?_⟩
 ·obtain⟨hj,e⟩:=at_ i h1 hi;have:=hb _ (List.getElem_mem hj);rw[e];lia
 ·obtain⟨hj,e⟩:=at_ i h1 hi;rw[e];by_cases h2:i=1
  ·subst h2;have:=hb _ (List.getElem_mem hj)
   show (0:Int)<=_;lia
  ·obtain⟨hj2,e2⟩:=at_ (i - 1) (by lia) (by lia)
   rw[e2];exact List.pairwise_iff_getElem.mp hp _ _ hj2 hj (by lia)
 ·obtain⟨h1,e1⟩:=at_ (a+b) (by lia) xR
  obtain⟨h2,e2⟩:=at_ a ha (by lia)
  obtain⟨h3,e3⟩:=at_ b kR (by lia)
  have:=hb _ (List.getElem_mem h1);have:=hb _ (List.getElem_mem h2);have:=hb _ (List.getElem_mem h3);rw[e1,e2,e3];lia
structure ZL(z:List (Int×Int)):Prop where
 ok:qH z
 pr:dM z<=32768
 sm:(z.map (·.1)).sum<=15
theorem prodF(z:List (Int×Int)):∀p:Int,z.foldl (λp x=>p*x.2) p=p*dM z:=by
 induction z with
 | nil=>intro p;simp[dM]
 | cons x z ih =>
  intro p;rw[dM,List.foldl_cons,List.foldl_cons,ih,ih (1*x.2),Int.one_mul,Int.mul_assoc]
theorem ED(x:Int×Int)(z:List (Int×Int)):dM (x::z)=x.2*dM z:=by
 rw[dM,List.foldl_cons,prodF,Int.one_mul]
theorem aa7(x:Int×Int)(z:List (Int×Int)):dM (z++[x])=dM z*x.2:=by
 rw[dM,List.foldl_append];rfl
theorem xS{m:Int}(hm:1<=m):∀z:List (Int×Int),(∀p∈z,1<=p.2/\p.2<=m)->1<=dM z/\dM z<=m ^ z.length
 | [],_=>by simp[dM]
 | x::z,h=>by
  have ih:=xS hm z λp hp=>h p (List.mem_cons_of_mem _ hp);have hx:=h x List.mem_cons_self;rw[ED,List.length_cons,Int.pow_succ,Int.mul_comm (m ^ z.length)];constructor
  ·have:=Int.mul_le_mul hx.1 ih.1 (by decide) (by lia)
   lia
  ·exact Int.mul_le_mul hx.2 ih.2 (by lia) (by lia)
theorem NI{x:Int×Int}:∀ {z:List (Int×Int)},x∈z->x.2 ∣ dM z
 | y::z,h=>by
  rw[ED];rcases List.mem_cons.mp h with rfl | h
  ·exact Int.dvd_mul_right _ _
  ·exact Int.dvd_trans (NI h) (Int.dvd_mul_left _ _)
theorem NJ{m:Int}(hm:1<=m){a b:Nat}(h:a<=b):m ^ a<=m ^ b:=by
 induction h with
 | refl=>exact Int.le_refl _
 | @step b h ih =>
  rw[Int.pow_succ];have h1:1<=m ^ b:=by
   clear ih h
   induction b with
   | zero=>simp
   | succ b ih =>
    rw[Int.pow_succ];have:=Int.mul_le_mul ih hm (by decide) (by lia)
    lia
  have:=Int.mul_le_mul (Int.le_refl (m ^ b)) hm (by decide) (by lia)
  lia
theorem ite_no{c A B:Prop}[Decidable c](h:¬ c)(b:B):if c then A else B:=by rw[if_neg h];exact b
theorem ite_yes{c A B:Prop}[Decidable c](h:c)(a:A):if c then A else B:=by rw[if_pos h];exact a
section
variable{X:Cx}{CX:e9}{k:Nat}{f C:Addr}{fd:FuncData}{ps:List Str}{sp:Sp}{c8:List V}{ds:List Value}{E:XK}{x m:Str}{p pos apos:Pos}{e:Expr}{es:List Expr}{t:TA}
end
section
variable{X:Cx}
end
section
variable{X:Cx}{pins:List (Addr×Obj)}{σ:St}{H:Hp}{s:Shared}
end
section
variable{X:Cx}
end
section
variable{K:PySem.W.Frag}{ta:TA}{g:TG}{D:Ends}{σ:St}{H:Hp}{tt:TT}{te:TE}{nt:Nat}{fv:List Nat}{Q:VK}
end
theorem aa8{X:Cx}{K:PySem.W.Frag}{pos:Pos}{es:List Expr}{k n:Nat}{t:mU}(hK:X.K=K)(hc:X.calm=true)(h:qo X es t)(hn:(assignEach es X.env).length=n:=by rfl)(gW:(assignEach es X.env).findIdx? (·.1)=none:=by rfl):PG X (.Tuple es k pos) (DF K n t):=hK▸jy hc h hn gW
noncomputable def NK(cs:List Addr)(m:Str)(sp:Sp)(c8:List V)(E:XK)(ta:TE)(t:TA):TE:=λσ H Q=>ta σ H λx H1=>∃C a dx fs,x = .ref a/\H1 a=some (.ins C dx fs)/\C∈cs/\fs.lookup m=none/\t σ H1 λvs H2=>sp (x::(vs++c8)) H2 Q E
section
variable{X:Cx}{CX:e9}{k:Nat}{f:Addr}{cs:List Addr}{fd:FuncData}{ps:List Str}{sp:Sp}{c8:List V}{ds:List Value}{E:XK}{m:Str}{pos apos:Pos}{o e:Expr}{es:List Expr}{ta:TE}{t:TA}
theorem k7{pl:Sem Bool}(ho:PE X o ta)(hc:∀C∈cs,bZ X.K C/\Meth X.K C m f)(F:aW X.prog X.w X.K X.mg X.base CX k f fd ps sp)(hr:cB k X.A)(hb:Binds X.K fd ps ds)(hd:Vals c8 ds)(hx:Passes CX X E)(ha:PA X (e::es) t)
  (gW:starEach (e::es) X.env=(false,eval e X.env)::starEach es X.env:=by rfl) (fF:(backTo pos (starEach es X.env)).any (·.1)=false:=by rfl)
  (lZ:eval (.Call (.Attribute o m apos) (e::es) [] pos) X.env=(do
   let ov ← eval o X.env
   standAt apos.atName
   let (f,first) ← holding [ov] (getMethod ov m pl)
   callWith pos f first (backTo pos (starEach (e::es) X.env)) (backToKw pos (keywordEach [] X.env))):=by rfl):PE X (.Call (.Attribute o m apos) (e::es) [] pos) (NK cs m sp c8 E ta t):=by
 intro pins s σ H Q I h;refine PySem.W.methodCall_KW (pl:=pl) (aM (ho pins s σ H _ I h) λu s1 hz=>?_) lZ;obtain⟨x,H1,I1,rx,C,a,dx,fs,ex,ea,hC,hl,q⟩:=hz;subst ex;cases (show u=Value.ref a from rx);obtain⟨c1,c2⟩:=hc C hC;refine ng I1 ea c1 c2 hl (PySem.W.callWith_K (first:=[.ref a]) (h₀:=X.base) I.ok.mod.kI c2.kp (aM (ha pos pins s1 σ H1 _ I1 q) λus s2 hw=>?_) gW fF)
 obtain⟨vs,H2,I2,r,q2⟩:=hw;exact⟨I2.cK,lU (us:=.ref a::us) (vs:=.ref a::vs) F hr hb hd hx I2 (.cons rfl r) q2⟩
theorem EE{pl:Sem Bool}(ho:PE X o ta)(hc:∀C∈cs,bZ X.K C/\Meth X.K C m f)(F:aW X.prog X.w X.K X.mg X.base CX k f fd ps sp)(hr:cB k X.A)(hb:Binds X.K fd ps ds)(hd:Vals c8 ds)(hx:Passes CX X E)
  (lZ:eval (.Call (.Attribute o m apos) [] [] pos) X.env=(do
   let ov ← eval o X.env
   standAt apos.atName
   let (f,first) ← holding [ov] (getMethod ov m pl)
   callWith pos f first (backTo pos (starEach [] X.env)) (backToKw pos (keywordEach [] X.env))):=by rfl):PE X (.Call (.Attribute o m apos) [] [] pos) (NK cs m sp c8 E ta qy):=by
 intro pins s σ H Q I h;refine PySem.W.methodCall_KW (pl:=pl) (aM (ho pins s σ H _ I h) λu s1 hz=>?_) lZ;obtain⟨x,H1,I1,rx,C,a,dx,fs,ex,ea,hC,hl,q⟩:=hz;subst ex;cases (show u=Value.ref a from rx);obtain⟨c1,c2⟩:=hc C hC;refine ng I1 ea c1 c2 hl (PySem.W.callWith_K0 (first:=[.ref a]) I1.cK c2.kp ?_)
 exact lU (us:=[.ref a]) (vs:=[.ref a]) F hr hb hd hx I1 (.cons rfl .nil) q
end
theorem aa9{p q:Int×Int}(h:kT p=kT q):p=q:=by
 unfold kT at h;simp only[List.cons.injEq,Sum.inl.injEq,and_true] at h;exact Prod.ext h.1 h.2
theorem NL:∀(z:List (Int×Int)) (i:Nat) (acc:List (List Key×V)) (q:Int×Int),z.Nodup->(∀j:Nat,z[j]? = some q->cC (gG i z acc) (kT q)=some (.int ((i+j:Nat):Int)))/\(q∉z->cC (gG i z acc) (kT q)=cC acc (kT q))
 | [],i,acc,q,_=>⟨λj h=>by simp at h,λ_=>rfl⟩
 | x::z,i,acc,q,nd=>by
  obtain⟨hx,nd⟩:=List.nodup_cons.mp nd;have ih:=NL z (i+1) (putK acc (kT x) (.int i)) q nd;constructor
  ·intro j h;rw[gG];cases j with
   | zero =>
    simp at h;subst h;rw[ih.2 hx,xr,if_pos rfl];rfl
   | succ j =>
    rw[ih.1 j (by simpa using h)]
    congr 2;lia
  ·intro h;rw[gG,ih.2 λz=>h (List.mem_cons_of_mem _ z),xr,if_neg];intro e;exact h (aa9 e▸List.mem_cons_self)
theorem aa_{z:List (Int×Int)}(nd:z.Nodup){j:Nat}{q:Int×Int}(h:z[j]? = some q):cC (qI z) (kT q)=some (.int (j:Int)):=by
 have:=(NL z 0 [] q nd).1 j h;rwa [Nat.zero_add] at this
theorem NN{s:Int}:∀ {rc:List Int} {r:Nat} {q:Int×Int},q∈eF s r rc↔∃j:Nat,j<rc.length/\q.1=((r+j:Nat):Int)/\0<=q.2/\q.2<rc.getD j 0 - s
 | [],r,q=>by simp[eF]
 | c::rc,r,q=>by
  rw[eF,List.mem_append,NN (rc:=rc) (r:=r+1)];constructor
  ·rintro(h | ⟨j,h1,h2,h3,h4⟩)
   ·obtain⟨k,hk,rfl⟩:=List.mem_map.mp h;rw[List.mem_range] at hk;exact⟨0,by simp,by simp,by dsimp only;lia,by simp only[List.getD_cons_zero];lia⟩
   ·exact⟨j+1,by simpa using h1,by rw[h2];congr 1;lia,h3,by simpa using h4⟩
  ·rintro⟨j,h1,h2,h3,h4⟩;cases j with
   | zero =>
    left;refine List.mem_map.mpr ⟨q.2.toNat,List.mem_range.mpr ?_,?_⟩
    ·simp only[List.getD_cons_zero] at h4;lia
    ·refine Prod.ext ?_ ?_
     ·rw[h2];simp
     ·dsimp only;lia
   | succ j =>
    right;exact⟨j,by simpa using h1,by rw[h2];congr 1;lia,h3,by simpa using h4⟩
theorem NO{s:Int}:∀(rc:List Int) (r:Nat),(eF s r rc).Nodup
 | [],r=>List.nodup_nil
 | c::rc,r=>by
  rw[eF,List.nodup_append];refine⟨?_,NO rc (r+1),?_⟩
  ·rw[List.nodup_iff_pairwise_ne,List.pairwise_map];refine List.Pairwise.imp ?_ (List.nodup_iff_pairwise_ne.mp List.nodup_range);intro a b h e;simp at e;lia
  ·intro x hx y hy e;subst e;obtain⟨k,_,rfl⟩:=List.mem_map.mp hx;obtain⟨j,_,h2,_⟩:=NN.mp hy;simp at h2;lia
section
variable{K:PySem.W.Frag}{C:Addr}{H H':Hp}{p:Addr}{P:Pl}{fp:List Addr}{mv:Addr}{ms:List V}
end
structure Zt(H:Hp)(a:Addr)(ts:List Addr)(z:List (List Int)):Prop where
 l:H a=some (.lst (ts.map V.ref))
 n:ts.length=z.length
 t:∀(i:Nat) (t:Addr) (r:List Int),ts[i]? = some t->z[i]? = some r->H t=some (.tup (r.map V.int))
section
variable{H H':Hp}{a:Addr}{ts:List Addr}{z:List (List Int)}
theorem Zt.same(h:Zt H a ts z)(e:ah H H'):Zt H' a ts z:=⟨e _ _ h.l,h.n,λi t p h1 h2=>e _ _ (h.t i t p h1 h2)⟩
theorem Zt.at(h:Zt H a ts z){i:Nat}(hi:i<z.length):∃t,(ts.map V.ref)[i]? = some (.ref t)/\H t=some (.tup ((z.getD i []).map V.int)):=by
 have ht:i<ts.length:=by rw[h.n];exact hi
 refine⟨ts[i],by simp[ht],h.t i _ _ (List.getElem?_eq_getElem ht) ?_⟩
 simp[List.getD_eq_getElem?_getD,List.getElem?_eq_getElem hi]
theorem Zt.start{l:Addr}:Zt (upd H l (.lst [])) l [] []:=⟨aI,rfl,λi t r e=>by simp at e⟩
theorem Zt.snoc{l p:Addr}(h:Zt H l ts z)(hp:H p=none)(r:List Int):Zt (upd (upd H p (.tup (r.map V.int))) l (.lst (ts.map V.ref++[V.ref p]))) l (ts++[p]) (z++[r]):=by
 have EC:l≠p:=bX h.l hp;refine⟨by rw[aI,List.map_append];rfl,by simp[h.n],λi t q e1 e2=>?_⟩
 have hn:=h.n;by_cases hi:i<ts.length
 ·rw[List.getElem?_append_left hi] at e1;rw[List.getElem?_append_left (by lia)] at e2
  have ht:=h.t i t q e1 e2;rw[aD (qg ht h.l (by intro z;cases z)),aD (bX ht hp)]
  exact ht
 ·rw[List.getElem?_append_right (by lia)] at e1
  rw[List.getElem?_append_right (by lia)] at e2
  have gH:i - ts.length=0:=by
   have:=NF e1;simp at this;lia
  rw[gH] at e1;rw[← hn,gH] at e2;simp at e1 e2;subst e1 e2;rw[aD EC.symm,aI]
theorem Zn.start{l:Addr}:Zn (upd H l (.lst [])) l [] []:=⟨aI,rfl,λi t r e=>by simp at e⟩
end
section
variable{ta:TA}{g:TG}{tt:TT}{te:TE}{nt:Nat}{fv:List Nat}{Q:VK}{σ:St}{H:Hp}
theorem EF(n:Int)(Pv:Addr->Nat->List V->St->Hp->Prop)(dU:∀Q:List V->Hp->Prop,Q [.int n] H->ta σ H Q)(b1 : -1000000000000<n)(b2:n<1000000000000)
  (h0:∀D,H D=none->Pv D 0 [] (jc σ nt fv) (upd H D (.lst []))) (hD:∀D i ys σ H,Pv D i ys σ H->H D=some (.lst ys)/\ys.length<sizeLine)
  (hs:∀D i ys aq H2 (N:List V->St->Hp->Prop),(∀ys σ H,Pv D (i+1) ys σ H->N ys σ H)->i<n.toNat->Pv D i ys aq H2->g (.int (i:Int)) aq H2 λbV H4=>tt bV H4 λb H5=>if b=true then te bV H5 λv H6=>H6 D=some (.lst ys)/\N (ys++[v]) bV (upd H6 D (.lst (ys++[v]))) else N ys bV H5)
  (hd:∀D ys aq H2,Pv D n.toNat ys aq H2->Q (.ref D) H2):jD (qp ta) g tt te nt fv σ H Q:=by
 refine dU _ ⟨n,rfl,by lia,by lia,λD fU=>?_⟩
 refine⟨λi m ys aq H2=>m=n.toNat - i/\i<=n.toNat/\Pv D i ys aq H2,⟨_,rfl,Nat.zero_le _,h0 D fU⟩,?_⟩;rintro i m ys aq H2 ⟨rfl,h_,p⟩;obtain⟨d1,d2⟩:=hD D i ys aq H2 p;refine⟨d1,d2,?_⟩;by_cases bT:i<n.toNat
 ·refine .inr ⟨bT,λx H3 y=>?_⟩;obtain⟨e1,e2⟩:=y;subst e1 e2;have e2:(0:Int)+(i:Int)=i:=by lia
  rw[e2];exact hs D i ys aq _ _ (λ_ _ _ z=>NX.of bT z) bT p
 ·have e:i=n.toNat:=by lia
  subst e;exact .inl ⟨Nat.le_refl _,hd D ys aq H2 p⟩
end
structure jF(P:Pl):Prop where
 n2:2<=P.rc.length
 n1:P.rc.length<=1000
 c:∀i:Nat,i<P.rc.length->1<=P.rc.getD i 0/\P.rc.getD i 0<=1000
 aG:1<=P.aG
 sw:SwOk P.sw P.rc.length
noncomputable def tY(P:Pl)(r c:Int):Int:=(c*(P.aG / P.rc.getD r.toNat 0)+r*P.dF) % P.aG
noncomputable def tZ(P:Pl)(r c b:Int):Int:=b+(tY P r c - b) % P.aG
noncomputable def ie(P:Pl)(s q:Int×Int):Int:=tZ P q.1 q.2 (s.2+P.sw.getD (s.1 - q.1).natAbs 0)
noncomputable def j_(P:Pl)(s q:Int×Int):Int×Int:=(q.1,ie P s q+P.aG / P.rc.getD q.1.toNat 0)
noncomputable def xT(P:Pl)(s q:Int×Int):List Int:=[q.1,q.2,ie P s q,(j_ P s q).2]
noncomputable def c9(P:Pl):Int×Int->List (Int×Int)->Int×Int
 | s,[]=>s
 | s,q::r=>c9 P (j_ P s q) r
noncomputable def gc(P:Pl):Int×Int->List (Int×Int)->List (List Int)
 | _,[]=>[]
 | s,q::r=>xT P s q::gc P (j_ P s q) r
theorem EG(P:Pl)(q:Int×Int):∀(xs:List (Int×Int)) (s:Int×Int),c9 P s (xs++[q])=j_ P (c9 P s xs) q
 | [],s=>rfl
 | x::xs,s=>EG P q xs (j_ P s x)
theorem EH(P:Pl)(q:Int×Int):∀(xs:List (Int×Int)) (s:Int×Int),gc P s (xs++[q])=gc P s xs++[xT P (c9 P s xs) q]
 | [],s=>rfl
 | x::xs,s=>by rw[List.cons_append,gc,EH P q xs,gc];rfl
theorem t_(P:Pl):∀(xs:List (Int×Int)) (s:Int×Int),(gc P s xs).length=xs.length
 | [],s=>rfl
 | x::xs,s=>by rw[gc,List.length_cons,t_ P xs,List.length_cons]
theorem EI(P:Pl):∀(xs:List (Int×Int)) (s:Int×Int) (r:List Int),r∈gc P s xs->r.length=4
 | [],s,r,h=>by cases h
 | x::xs,s,r,h=>by
  rcases List.mem_cons.mp h with rfl | hr
  ·rfl
  ·exact EI P xs _ r hr
theorem EJ(P:Pl){n:Int}:∀(xs:List (Int×Int)) (s:Int×Int),0<=s.1->s.1<n->(∀q∈xs,0<=q.1/\q.1<n)->0<=(c9 P s xs).1/\(c9 P s xs).1<n
 | [],s,h0,h1,_=>⟨h0,h1⟩
 | x::xs,s,h0,h1,h=>EJ P xs (j_ P s x) (h x List.mem_cons_self).1 (h x List.mem_cons_self).2 λq hq=>h q (List.mem_cons_of_mem _ hq)
noncomputable def k8(P:Pl)(z:List (Int×Int)):Prop:=∀q∈z,0<=q.1/\q.1<P.rc.length/\0<=q.2/\q.2<=1000
noncomputable def aba(K:PySem.W.Frag)(cs:List Addr):Sp:=λvs H Q _=>∃(C p:Addr) (P:Pl) (fp:List Addr) (r c b:Int),vs = [.ref p,.int r,.int c,.int b]/\C∈cs/\bY K C H p P fp/\jF P/\0<=r/\r<P.rc.length/\0<=c/\c<=1000/\Q (.int (tZ P r c b)) H
noncomputable def abb(K:PySem.W.Frag)(cs:List Addr):Sp:=λvs H Q _=>∃(C p:Addr) (P:Pl) (fp:List Addr) (r b:Int) (ca:Addr) (xU:List Addr) (cz:List (Int×Int)),vs = [.ref p,.int r,.int b,.ref ca]/\C∈cs/\bY K C H p P fp/\jF P/\0<=r/\r<P.rc.length/\
 Zn H ca xU cz/\k8 P cz/\cz.length<=1000/\∀l ts H',ah H H'->H l=none->(∀t∈ts,H t=none)->Zt H' l ts (gc P (r,b) cz)->Q (.ref l) H'
theorem abd{z:List (Int×Int)}(zl:ZL z){aG sk:Int}{sw:List Int}{nc:List (Int×Int)}(l1:1<=aG)(so:SwOk sw (z.map (·.1)).sum):jF ⟨counts z,aG,sk,sw,nc⟩:=by
 have cl:=nA z λp hp=>(zl.ok.r p hp).1;have NP:=zl.sm;have c2:=zl.ok.s2;refine⟨by dsimp only;lia,by dsimp only;lia,λi hi=>?_,l1,by dsimp only;rw[cl];exact so⟩
 obtain⟨y,hy,e⟩:=o_ (get_mem (xP (counts z) hi));have:=zl.ok.r y hy;dsimp only;lia
section
variable{α:Type}{lt:α->α->Prop}
noncomputable def par(i:Nat):Nat:=(i - 1) / 2
noncomputable def put(f:Nat->α)(k:Nat)(x:α):Nat->α:=λi=>if i=k then x else f i
end
theorem xV:∀a:List Int,¬ _H.lexLt a a=true
 | []=>by simp[_H.lexLt]
 | x::a=>by simpa[_H.lexLt] using xV a
theorem EK:∀a b c:List Int,_H.lexLt a b=true->_H.lexLt b c=true->_H.lexLt a c=true
 | [],b,[],h1,h2=>by cases b <;> simp[_H.lexLt] at h1 h2
 | [],b,z::c,h1,h2=>by simp[_H.lexLt]
 | x::a,[],c,h1,h2=>by simp[_H.lexLt] at h1
 | x::a,y::b,[],h1,h2=>by simp[_H.lexLt] at h2
 | x::a,y::b,z::c,h1,h2=>by
  simp only[_H.lexLt] at h1 h2 ⊢;by_cases e1:x=y
  ·rw[if_pos e1] at h1;by_cases e2:y=z
   ·rw[if_pos e2] at h2;rw[if_pos (by lia)];exact EK a b c h1 h2
   ·rw[if_neg e2] at h2;simp at h2;rw[if_neg (by lia)];simp;lia
  ·rw[if_neg e1] at h1;simp at h1;by_cases e2:y=z
   ·rw[if_neg (by lia)];simp;lia
   ·rw[if_neg e2] at h2;simp at h2;rw[if_neg (by lia)];simp;lia
theorem NQ:∀a b:List Int,_H.lexLt a b=true\/a=b\/_H.lexLt b a=true
 | [],[]=>.inr (.inl rfl)
 | [],_::_=>.inl rfl
 | _::_,[]=>.inr (.inr rfl)
 | x::a,y::b=>by
  simp only[_H.lexLt,List.cons.injEq];by_cases e:x=y
  ·subst e;simpa using NQ a b
  ·rw[if_neg e,if_neg (λz=>e z.symm)];simp;lia
noncomputable abbrev Th:=Int×List Int×Int
noncomputable def uc(a b:Th):Prop:=a.1<b.1\/(a.1=b.1/\(_H.lexLt a.2.1 b.2.1=true\/(a.2.1=b.2.1/\a.2.2<b.2.2)))
section
open PySem.SeqAt PySem.MeetsSeq PySem.MeetsSeq2 PySem.MeetsSeq3
open PySem.AutoSeq1 (wpAny_loadPart')
end
section
variable{prog:Program}{w:World}{A:Around}{E:Value->Shared->Prop}{s:Shared}
end
noncomputable def NR(H:Hp)(a:Addr)(t:Th):Prop:=∃p,H a=some (.tup [.int t.1,.ref p,.int t.2.2])/\H p=some (.tup (t.2.1.map V.int))
noncomputable instance (a b:Th):Decidable (uc a b):=by unfold uc;infer_instance
section
variable{X:Cx}{pins:List (Addr×Obj)}{σ:St}{H:Hp}{s:Shared}
end
section
variable{X:Cx}
noncomputable abbrev Zs:=List (Addr×Th)
noncomputable def zV(zs:Zs):List V:=zs.map λz=>V.ref z.1
noncomputable def abe(H:Hp)(zs:Zs):Prop:=∀z,z∈zs->NR H z.1 z.2
noncomputable def akp:V->List V->Hp->VK->Prop:=λx vs H Q=>∃l a zs t,x = .ref l/\vs = [.ref a]/\H l=some (.lst (zV zs))/\abe H zs/\NR H a t/\t∈zs.map (·.2)/\
 ∀(k:Nat) (h:k<zs.length),zs[k].2=t->Q .aN (upd H l (.lst (zV (zs.eraseIdx k))))
end
noncomputable def NS(a b:Addr×Th):Prop:=uc a.2 b.2
noncomputable instance (a b:Addr×Th):Decidable (NS a b):=by unfold NS;infer_instance
section
variable{H H':Hp}{l a:Addr}{zs ys:Zs}{t:Th}{k:Nat}
end
structure qK(K:PySem.W.Frag)(x qual:Str)(st:Stmt)(f:Addr)(fd:FuncData):Prop where
 ex:∃(oc:Value) (od:Option Addr) (dV kV doc pm:Value) (an:Option Addr) (aR ct:Value) (iC:Array (Option Value)),
  fd=PySem.W.fnOf x qual (d_ st) (dD st) (aP st) dV kV doc pm an aR ct/\K.lookup f=some ⟨oc,od,.func fd,iC⟩/\PySem.W.codeIn K aR qual=true
 kp:PySem.W.keepIn K (.ref f)=true
section
variable{P:Program}{w:World}{K:PySem.W.Frag}{mg:Str->Option Value}{base:Heap}
theorem qK.ok{x qual:Str}{st:Stmt}{f:Addr}{fd:FuncData}{N ps:List Str}{k:Nat}{sp:Sp}(F:qK K x qual st f fd)(S:bw N ps (aP st))(len:∀vs H Q E,sp vs H Q E->vs.length=ps.length)
  (oW:∀(aR:Value) (A:Around) (outer:List Env) (s:Shared) (H:Hp) (vs:List V) (Q:VK) (E:XK),cB k (A.deeper (envOfC qual (aP st) s.heap.objs.size f aR))->sp vs H Q E->
   ∃t,gz (lV bu P w K mg base N qual (aP st) f aR A outer s H E).mS (dD st) t/\t { nx:=λ_ H'=>Q .aN H',rt:=Q } (start N vs) H):aW P w K mg base bu (k+1) f fd ps sp:=by
 obtain⟨oc,od,dV,kV,doc,pm,an,aR,ct,iC,rfl,lk,gm⟩:=F.ex;refine DT lk gm S len λA outer s H vs Q E hr g7=>?_;obtain⟨t,h,q⟩:=oW aR A outer s H vs Q E hr g7;exact⟨t,h.mS,q⟩
theorem EL{x qual:Str}{st:Stmt}{f:Addr}{oc:Value}{od an:Option Addr}{iC:Array (Option Value)}{dV kV doc pm aR ct:Value}(l:K.lookup f=some ⟨oc,od,.func (PySem.W.fnOf x qual (d_ st) (dD st) (aP st) dV kV doc pm an aR ct),iC⟩)
  (c:PySem.W.codeIn K aR qual=true) (k:PySem.W.keepIn K (.ref f)=true):qK K x qual st f (PySem.W.fnOf x qual (d_ st) (dD st) (aP st) dV kV doc pm an aR ct):=⟨⟨oc,od,dV,kV,doc,pm,an,aR,ct,iC,rfl,l,c⟩,k⟩
end
section
variable{X:Cx}
theorem NT{xs:List Bool}{aC:List Value}(r:Vals (xs.map V.bl) aC):aC=xs.map Value.bool:=by
 induction xs generalizing aC with
 | nil=>cases r;rfl
 | cons b xs ih =>
  cases r with
  | cons r1 r2=>cases (show _=Value.bool b from r1);rw[ih r2];rfl
theorem NU(hc:X.calm=true):iB X (.builtin "any") (λxs H Q=>∃(p:Addr) (bs:List Bool),xs = [.ref p]/\aE X.K H p (bs.map V.bl)/\Q (.bl (bs.any id)) H):=by
 intro pins s σ H xs us Q I r h;obtain⟨p,bs,rfl,hq,q⟩:=h;obtain⟨u,rfl,ru⟩:=vals1 r;cases ru;obtain⟨aC,rv,pl,hz⟩:=I.list hq;have eb:=NT rv;subst eb;have EM:p<s.heap.objs.size:=by obtain⟨_,q1,_⟩:=pl.isList;exact Heap.lt_size q1
 refine call_any_walk (wpAny_pyIter_list pl.isList ?_);refine⟨s.heap.objs.size,[s.heap.objs.size,p],[s.heap.objs.size],(bs.map Value.bool).toArray.size,_,_,λi=>(bs[i]?).getD false,rfl,Walks.list (A:=X.A.in1) (I.ok.hd hc) _ p (Nat.ne_of_lt EM) (bs.map Value.bool).toArray,
  ⟨⟨_,Heap.get?_push_size _ rfl,rfl,rfl⟩,pl.isList.push _⟩,λi v s2 Q2 E2 EN hw=>?_,λh' tk hk=>?_⟩
 ·have EO:(bs.map Value.bool)[i]? = some v:=by simpa using EN
  obtain⟨b,eb,rfl⟩:=ff EO;simp only[eb,Option.getD_some] at hw;exact wpAny_truthy_bool hw
 ·have e:((List.range (bs.map Value.bool).toArray.size).any λi=>(bs[i]?).getD false)=bs.any id:=by
   rw[List.size_toArray,List.length_map];exact LSm.range_any bs
  rw[e];exact⟨.bl (bs.any id),H,I.kept (LSm.kept_iter hk),rfl,q⟩
theorem abf(hc:X.calm=true):iB X (.builtin "all") (λxs H Q=>∃(p:Addr) (bs:List Bool),xs = [.ref p]/\aE X.K H p (bs.map V.bl)/\Q (.bl (bs.all id)) H):=by
 intro pins s σ H xs us Q I r h;obtain⟨p,bs,rfl,hq,q⟩:=h;obtain⟨u,rfl,ru⟩:=vals1 r;cases ru;obtain⟨aC,rv,pl,hz⟩:=I.list hq;have eb:=NT rv;subst eb;have EM:p<s.heap.objs.size:=by obtain⟨_,q1,_⟩:=pl.isList;exact Heap.lt_size q1
 refine call_all_walk (wpAny_pyIter_list pl.isList ?_);refine⟨s.heap.objs.size,[s.heap.objs.size,p],[s.heap.objs.size],(bs.map Value.bool).toArray.size,_,_,λi=>(bs[i]?).getD true,rfl,Walks.list (A:=X.A.in1) (I.ok.hd hc) _ p (Nat.ne_of_lt EM) (bs.map Value.bool).toArray,
  ⟨⟨_,Heap.get?_push_size _ rfl,rfl,rfl⟩,pl.isList.push _⟩,λi v s2 Q2 E2 EN hw=>?_,λh' tk hk=>?_⟩
 ·have EO:(bs.map Value.bool)[i]? = some v:=by simpa using EN
  obtain⟨b,eb,rfl⟩:=ff EO;simp only[eb,Option.getD_some] at hw;exact wpAny_truthy_bool hw
 ·have e:((List.range (bs.map Value.bool).toArray.size).all λi=>(bs[i]?).getD true)=bs.all id:=by
   rw[List.size_toArray,List.length_map];exact LSm.range_all bs
  rw[e];exact⟨.bl (bs.all id),H,I.kept (LSm.kept_iter hk),rfl,q⟩
noncomputable def abg(ta:TA):TE:=λσ H Q=>ta σ H λvs H1=>∃i j:Int,vs = [.int i,.int j]/\(-1000000000000<i/\i<1000000000000/\-1000000000000<j/\j<1000000000000)/\(j - i).toNat<=1000000/\
 ∀l,H1 l=none->Q (.ref l) (upd H1 l (.lst ((List.range (j - i).toNat).map λ(k:Nat)=>V.int (i+(k:Int)))))
theorem abh{F:Nat->V}{acc:Array Value}{n:Nat}(h:ItemsOf (λi v=>RelV (F i) v) acc n):Vals ((List.range n).map F) acc.toList:=by
 obtain⟨h1,h2⟩:=h;have:∀(m:Nat) (l:List Value) (k:Nat),l.length=m->(∀j v,l[j]? = some v->RelV (F (k+j)) v)->Vals ((List.range' k m).map F) l:=by
  intro m
  induction m with
  | zero=>intro l k hl _;rw[List.eq_nil_of_length_eq_zero hl];exact .nil
  | succ m ih =>
   intro l k hl hh;cases l with
   | nil=>cases hl
   | cons v l =>
    rw[List.range'_succ,List.map_cons];refine .cons (hh 0 v rfl) (ih l (k+1) (by simpa using hl) λj w hj=>?_)
    have:=hh (j+1) w (by simpa using hj)
    rwa [show k+(j+1)=k+1+j by lia] at this
 have e:=this n acc.toList 0 (by simpa using h1) λj v hj=>by rw[Nat.zero_add];exact h2 j v (by simpa using hj)
 rwa [← List.range_eq_range'] at e
theorem abi{a b:Expr}{ta:TA}{p p0 pos abj:Pos}(hgL:Gl X "list")(hmL:X.mg "list" = none)(hg:Gl X "range")(hm:X.mg "range" = none)(hc:X.calm=true)(ha:PA X [a,b] ta)
  (hs:starEach [a,b] X.env = [(false,eval a X.env),(false,eval b X.env)]:=by rfl) (gY:starEach [b] X.env = [(false,eval b X.env)]:=by rfl)
  (xW:starEach [.Call (.Name "range" p) [a,b] [] pos] X.env = [(false,eval (.Call (.Name "range" p) [a,b] [] pos) X.env)]:=by rfl) :
  PE X (.Call (.Name "list" p0) [.Call (.Name "range" p) [a,b] [] pos] [] abj) (abg ta):=by
 intro pins s σ H Q I h;refine Call_ (jQ I hgL hmL boot_list (PyProof.Rows.callWith_type1 ?_ xW rfl));rw[xW];refine Calls.spliced_cons ?_;refine Call_ (jQ I hg hm boot_range (PyProof.Rows.callWith_type1 (aM (ha pos pins s σ H _ I h) λus s1 ⟨vs,H1,I1,r1,q1⟩=>?_) (by rw[hs,gY]) (by rw[gY];rfl)))
 obtain⟨i,j,e,⟨b1,b2,b3,b4⟩,hn,q⟩:=q1;subst e;obtain⟨u,v,rfl,ru,rv⟩:=vals2 r1;obtain⟨t,rfl⟩:=ru;obtain⟨t',rfl⟩:=rv;refine call_range_2 ?_;refine Calls.spliced_nil ?_;have hr:=IsRange.new s1.heap i j 1 t t' s1.toks;have en:Builtin.Range.rangeSize i j 1=(((j - i).toNat:Nat):Int):=by rw[rangeSize_one];split <;> lia
 refine call_list_range (I.ok.hd hc) hr (small_one (by lia) (by lia) (by lia) (by lia)) en (by lia) λh' tk acc c hk hS qD=>?_
 have k2:∀b o,s1.heap.get? b=some o->h'.get? b=some o:=λb o e=>hk b o (Heap.get?_push_of_some _ e);have sz:(s1.heap.push { cls:=.type "range",data:=.fields #[.int i t,.int j t',.int 1 s1.toks] }).objs.size=s1.heap.objs.size+1:=by simp[Heap.push]
 rw[sz] at hS ⊢;have vl:Vals ((List.range (j - i).toNat).map λ(k:Nat)=>V.int (i+(k:Int))) acc.toList:=abh (F:=λ(k:Nat)=>V.int (i+(k:Int))) ⟨qD.1,λj' v hj=>by
  obtain⟨t,e⟩:=qD.2 j' v hj;exact⟨t,by rw[e];congr 1;lia⟩⟩
 refine⟨.ref (s1.heap.objs.size+1),upd H1 (s1.heap.objs.size+1) (.lst ((List.range (j - i).toNat).map λ(k:Nat)=>V.int (i+(k:Int)))),I1.laid k2 (Nat.le_succ _) ?_,rfl,q _ (I1.aL.fresh (Nat.le_succ _))⟩;refine⟨by rw[List.length_map,List.length_range,pe];lia,acc.toList,c,vl,by simpa using hS⟩
end
section
variable{X:Cx}
noncomputable def akq(K:PySem.W.Frag):R2:=λx y H Q=>∃l k xs,x = .ref l/\y = .int k/\H l=some (.tup xs)/\xs≠[]/\xs.length<=1000/\1<=k/\k<=1000/\∀p H',ah H H'->H' p=some (.tup (List.replicate k.toNat xs).flatten)->Q (.ref p) H'
end
structure Ak where
 kind:Str
 first:Int
 many:Int
 marks:List Int
 at_:Int
 k9:Int
 gK:Option Int
 behind:List Int
 early:Bool
noncomputable def k_:Option Int->V
 | none=>.aN
 | some i=>.int i
noncomputable def fh(q:Ak)(m b:Addr):List (Str×V):=[("kind",.str q.kind),("first",.int q.first),("many",.int q.many),("marks",.ref m),("at",.int q.at_),("asker",.int q.k9),("latest",k_ q.gK),("behind",.ref b),("early",.bl q.early)]
structure dN(K:PySem.W.Frag)(C:Addr)(H:Hp)(p:Addr)(q:Ak)(m b dx:Addr):Prop where
 o:H p=some (.ins C dx (fh q m b))
 ms:H m=some (.tup (q.marks.map V.int))
 bh:H b=some (.tup (q.behind.map V.int))
theorem dN.same{K:PySem.W.Frag}{C:Addr}{H H':Hp}{p:Addr}{q:Ak}{m b dx:Addr}(h:dN K C H p q m b dx)(s:ah H H'):dN K C H' p q m b dx:=⟨s _ _ h.o,s _ _ h.ms,s _ _ h.bh⟩
theorem abk{K:PySem.W.Frag}{C:Addr}{H H1:Hp}{x dx m b:Addr}{q:Ak}(s:ah H H1)(nx:H1 x=none)(ud:H1 dx=none)(fV:dx≠x)(hm:H1 m=some (.tup (q.marks.map V.int)))(hb:H1 b=some (.tup (q.behind.map V.int))) :
  ah H (upd (upd (upd H1 dx (.own x)) x (.ins C dx [])) x (.ins C dx (fh q m b)))/\H x=none/\dN K C (upd (upd (upd H1 dx (.own x)) x (.ins C dx [])) x (.ins C dx (fh q m b))) x q m b dx:=by
 have s1:=ah.put (o:=.own x) ud;have qL:upd H1 dx (.own x) x=none:=by rw[aD (Ne.symm fV)];exact nx
 have s2:ah H1 (upd (upd (upd H1 dx (.own x)) x (.ins C dx [])) x (.ins C dx (fh q m b))):=ah.put2 (s1.trans (ah.put qL)) nx;exact⟨s.trans s2,s.free nx,⟨aI,s2 _ _ hm,s2 _ _ hb⟩⟩
structure kg(ns:List Int):Prop where
 up:ns.Pairwise (· < ·)
 lo:∀n∈ns,0<=n
 hi:∀n∈ns,n<=99
theorem kg.nil:kg []:=⟨.nil,(λ_ h=>nomatch h),λ_ h=>nomatch h⟩
noncomputable def ue(x:Int)(ns:List Int)(i:Nat):Int:=if i=0 then x else ns.getD (i - 1) 0
theorem kg.step{ns:List Int}(h:kg ns){i:Nat}{n:Int}(e:ns[i]? = some n):ue (-1) ns i+1<=n/\n<=99:=by
 refine⟨?_,h.hi n (get_mem e)⟩;unfold ue;split
 ·have:=h.lo n (get_mem e);lia
 ·have hi:=d7 e;obtain⟨h1,e1⟩:=List.getElem?_eq_some_iff.mp e;have e2:ns.getD (i - 1) 0=ns[i - 1]:=by simp[List.getD_eq_getElem?_getD,List.getElem?_eq_getElem (show i - 1<ns.length by lia)]
  have:=List.pairwise_iff_getElem.mp h.up (i - 1) i (by lia) h1 (by lia)
  rw[e2];lia
theorem abl{x:Int}{ns:List Int}{i:Nat}{n:Int}(e:ns[i]? = some n):ue x ns (i+1)=n:=by
 simp[ue,List.getD_eq_getElem?_getD,e]
noncomputable def NV(K:PySem.W.Frag)(H:Hp)(v:V)(ns:List Int):Prop:=(v = .aN/\ns = [])\/∃a,v = .ref a/\(aE K H a (ns.map V.int)\/H a=some (.tup (ns.map V.int)))
structure xX(first many at_ k9:Int)(lat:Option Int):Prop where
 f0:0<=first
 f1:first<=1000000
 m0:1<=many
 m1:many<=16
 a0:0<=at_
 a1:at_<=1000000000000
 s0:0<=k9
 s1:k9<=20
 l:∀x,lat=some x->0<=x/\x<=10000000000000
noncomputable def abm:Sp:=λvs H Q _=>∃(n lo hi:Int) (w:Str),vs = [.int n,.int lo,.int hi,.str w]/\lo<=n/\n<=hi/\Q .aN H
noncomputable def abn(K:PySem.W.Frag):Sp:=λvs H Q _=>∃(b:Addr) (ns:List Int),vs = [.ref b]/\bE K H b (ns.map V.int)/\kg ns/\Q .aN H
noncomputable def abo(K:PySem.W.Frag):Sp:=λvs H Q _=>∃(f m a s:Int) (l:Option Int) (b:Addr) (ns:List Int),vs = [.int f,.int m,.int a,.int s,k_ l,.ref b]/\xX f m a s l/\bE K H b (ns.map V.int)/\kg ns/\Q .aN H
noncomputable def abp(K:PySem.W.Frag):Sp:=λvs H Q _=>∃(v:V) (ns:List Int),vs = [v]/\NV K H v ns/\∀b H',ah H H'->H' b=some (.tup (ns.map V.int))->Q (.ref b) H'
noncomputable def abq(C:Addr):Sp:=λvs H Q _=>∃(p dx:Addr) (v1 v2 v3 v4 v5 v6 v7 v8 v9:V),vs = [.ref p,v1,v2,v3,v4,v5,v6,v7,v8,v9]/\H p=some (.ins C dx [])/\
 Q .aN (upd H p (.ins C dx [("kind",v1),("first",v2),("many",v3),("marks",v4),("at",v5),("asker",v6),("latest",v7),("behind",v8),("early",v9)]))
noncomputable def abr(K:PySem.W.Frag)(C:Addr):Sp:=λvs H Q _=>∃(f m a s:Int) (l:Option Int) (bv:V) (ns:List Int),vs = [.int f,.int m,.int a,.int s,k_ l,bv]/\xX f m a s l/\NV K H bv ns/\kg ns/\
 ∀p mk b dx H',ah H H'->H p=none->dN K C H' p ⟨"read",f,m,[],a,s,l,ns,false⟩ mk b dx->Q (.ref p) H'
noncomputable def qM(x y:Ak):Bool:=decide ((x.kind = "write"\/y.kind = "write")/\x.first<y.first+y.many/\y.first<x.first+x.many)
noncomputable def abt(K:PySem.W.Frag)(C:Addr):Sp:=λvs H Q _=>∃(p r:Addr) (x y:Ak) (m b dx m' b' eu:Addr),vs = [.ref p,.ref r]/\dN K C H p x m b dx/\dN K C H r y m' b' eu/\Q (.bl (qM x y)) H
theorem NW(n:Int):∀ms:List Int,qA (.int n) (ms.map V.int)=decide (n∈ms)
 | []=>rfl
 | m::ms=>by
  have ih:=NW n ms;unfold qA at ih ⊢;rw[List.map_cons,List.any_cons,ih,Bool.eq_iff_iff];simp only[jX,Bool.or_eq_true,beq_iff_eq,decide_eq_true_eq,List.mem_cons];constructor
  ·rintro(h | h)
   ·exact .inl h.symm
   ·exact .inr h
  ·rintro(h | h)
   ·exact .inl h.symm
   ·exact .inr h
theorem abu(ms:List Int):(ms.map V.int).all jW=true:=by simp[jW]
theorem abv{X:Cx}{K:PySem.W.Frag}(h:X.K=K):dZ X (compareOp .In) (MV K false):=h▸D0
section
variable{K:PySem.W.Frag}{tl:TE}{g:TG}{tb:TS}{D:Ends}{σ:St}{H:Hp}
theorem rt(a:Addr)(xs:List V)(Pv:Nat->St->Hp->Prop)(j8:∀Q:VK,Q (.ref a) H->tl σ H Q)(e_:bE K H a xs)(h0:Pv 0 σ H)(hl:∀i σ H,i<=xs.length->Pv i σ H->bE K H a xs)
  (hs:∀i x σ H (N:St->Hp->Prop),(∀σ H,Pv (i+1) σ H->N σ H)->xs[i]? = some x->Pv i σ H->g x σ H λaq H2=>tb { D with nx:=N,ct:=N,bk:=D.nx } aq H2) (hd:∀σ H,Pv xs.length σ H->D.nx σ H):iM (DH K tl) g tb D σ H :=
 j8 _ ⟨a,rfl,⟨xs,e_⟩,Yr Pv h0 hl (λi x σ H hx p=>hs i x σ H _ (λ_ _ z=>z) hx p) hd⟩
end
noncomputable def f2(o:Obj):Option Value:=match o.data with
 | .fields vs=>vs[2]?
 | _=>none
noncomputable def abw(h:Heap)(a:Addr)(od:Option Addr):Prop:=∃oe,h.get? a=some oe/\oe.dict=od.map (· / 2)/\(od.getD 0 % 2=0->f2 oe=some .none)
section
variable{M:Model}{A:Around}{E:Value->Shared->Prop}{s:Shared}{base:Heap}{env:Env}{l outer:List Env}{L e:Addr}{cls a0:Value}{od:Option Addr}{Q:Unit->Shared->Prop}
end
structure Cut(base B:Heap)(outer:List Env)(H H':Hp)(h:Heap):Prop where
 stays:base.StaysIn B
 k1:∀b o,h.get? b=some o->H b=none->b∉gT outer->B.get? b=some o
 k2:∀b u,H' b=some u->∃o,B.get? b=some o
 k3:∀b o,h.get? b=some o->b∉gT outer->∃o',B.get? b=some o'
noncomputable def CX1(P:Program)(w:World)(base:Heap):e9:=λouter H s E e s' =>
 ∃a C a0 H' B od,e = .ref a/\s'.os=s.os/\AllBare s'.gens/\Un (gT outer) [] H H' s.heap s'.heap/\cX P w H' s'.heap/\H' a=none/\s.heap.get? a=none/\
  Cut base B outer H H' s.heap/\Heap.FlyingW B outer a (.ref C) a0 s'.heap/\abw s'.heap a od/\E (.ref C) od H'
section
variable{P:Program}{w:World}{K:PySem.W.Frag}{mg:Str->Option Value}{base B:Heap}{N:List Str}{qual:Str}{scope:Scope}{f:Addr}{cd:Value}{A:Around}{outer:List Env}{dh sc s':Shared}{f9 Hc H':Hp}{E:XK}
 {pins:List (Addr×Obj)} {σ:St} {a C:Addr} {a0:Value} {h':Heap} {od:Option Addr}
end
section
variable{X:Cx}{E:XK}{x:Str}{C:Addr}{bm:List Value}{newId akr B:String}{np dR pos:Pos}{akt:Expr}{rest:List Expr}{t:TA}
end
section
variable{X:Cx}{pins:List (Addr×Obj)}{σ:St}{H H':Hp}{s s':Shared}{a C:Addr}{h':Heap}{E:XK}
end
noncomputable def XP(P:Program)(w:World)(base:Heap)(X:Cx)(pins:List (Addr×Obj))(σ:St)(E:XK)(e:Value)(s':Shared):Prop:=∃H1 s1,Inv X pins σ H1 s1/\CX1 P w base X.stack H1 s1 E e s'
section
variable{X:Cx}{k:Nat}{f C:Addr}{fd:FuncData}{ps:List Str}{sp:Sp}{c8:List V}{ds:List Value}{E:XK}{x m:Str}{p pos apos:Pos}{e o:Expr}{es:List Expr}{ta:TE}{t:TA}
end
section
variable{X:Cx}{E:XK}{e:Expr}{te:TE}{pos:Pos}
end
section
variable{X:Cx}{pins:List (Addr×Obj)}{σ:St}{a C:Addr}{a0:Value}{H1 H':Hp}{s1 s':Shared}{B h':Heap}{od:Option Addr}
end
section
variable{X:Cx}{pins:List (Addr×Obj)}{σ:St}{H:Hp}{s:Shared}
end
noncomputable def mroIn(K:PySem.W.Frag)(C:Addr):List Value:=match K.lookup C with
 | some ⟨_,_,.cls cd,_⟩=>cd.mro
 | _=>[]
noncomputable def ER(K:PySem.W.Frag)(C:Addr)(xY:List Value)(newId:String):Bool:=match K.lookup C with
 | some ⟨.type "type",_,.cls cd,sl⟩=>(match cd.mro,sl.toList with
  | .ref C'::bm,[_,_,_,_,some (.builtin n),_]=>C' == C && n == newId && !cd.hasDel && PySem.W.tailIn K xY bm && PySem.W.nsOkIn K cd.ns
  | _,_=>false)
 | _=>false
theorem abx{K:PySem.W.Frag}{C:Addr}{xY:List Value}{newId:String}(q:PySem.W.excIn K C xY newId=true):ER K C xY newId=true:=by
 unfold PySem.W.excIn at q;unfold ER;cases e:K.lookup C with
 | none=>rw[e] at q;cases q
 | some o =>
  rw[e] at q;split at q
  ·rename_i dd cd sl ho;cases ho;split at q
   ·rename_i C' bm k0 k1 k2 k3 n k5 hm hs;simp only[Bool.and_eq_true] at q;simp only[hm,hs,Bool.and_eq_true];exact q.1
   ·cases q
  ·cases q
structure NY(K:PySem.W.Frag)(C:Addr):Prop where
 ex:∃bm id,ER K C bm id=true/\bm.contains (.type "BaseException")=true
theorem NY.of{K:PySem.W.Frag}{C:Addr}{bm:List Value}{id:String}(q:PySem.W.excIn K C bm id=true)(h:bm.contains (.type "BaseException")=true):NY K C:=⟨bm,id,abx q,h⟩
end _L
namespace _L
open PySem PySem.Spec PyProof.Rows PySem.W PySem.Builtin.ObjectAttr PySem.Builtin.Getset_descriptor
section
variable{prog:Program}{w:World}{A:Around}{E:Value->Shared->Prop}{s:Shared}{K:Frag}{x D:Addr}{ox:Obj}{name:Str}
end
section
variable{X:Cx}
end
end _L
namespace _L
open PySem PySem.Spec PyProof.Rows PySem.W
section
variable(key:Nat->Int)
noncomputable def kk(p:Array Nat)(i:Nat):Int:=key (p.getD i 0)
variable{key}{p:Array Nat}
end
section
variable{prog:Program}{w:World}{A:Around}{E:Value->Shared->Prop}{s:Shared}
end
section
variable{n:Nat}{p q:Array Nat}
end
end _L
namespace _L
open PySem PySem.Spec PyProof.Rows
theorem ES{a b:String}(h:a≠b):(a:Str)≠(b:Str):=λe=>h (by rw[Ey] at e;exact e)
theorem aby{X:Cx}{st:Stmt}{h₀:ExceptHandler}{hs:List ExceptHandler}{pos:Pos}{t:TS}(hx:X.xe=λ_ _=>False)(hb:PS X st t):PS X (.Try [st] (h₀::hs) [] [] pos) t:=by
 intro pins s σ H D I h;refine wpAny_Try_except (wpAny_execs_cons (wpAny_mono (hb pins s σ H D I h) (λf s1 q=>?_) λe s' z=>?_))
 ·cases f with
  | next=>exact wpAny_execs_nil (wpAny_execs_nil q)
  | ret v=>exact q
  | brk=>exact q
  | cont=>exact q
 ·rw[hx] at z;exact False.elim z
theorem eV{X:Cx}{K:PySem.W.Frag}{e:Expr}{f:Str}{pos:Pos}{ta:TE}(h:X.K=K)(he:PE X e ta)(hb:attributeBase e f X.env (eval e X.env)=eval e X.env):PE X (.Attribute e f pos) (Mw K ta f):=h▸bF he hb
structure cW(K:PySem.W.Frag)(C:Addr)(H:Hp)(l:Addr)(ps:List Addr)(qs:List Ak):Prop where
 l:H l=some (.lst (ps.map V.ref))
 n:ps.length=qs.length
 t:∀(i:Nat) (p:Addr) (q:Ak),ps[i]? = some p->qs[i]? = some q->∃m b dx,dN K C H p q m b dx
section
variable{K:PySem.W.Frag}{C:Addr}{H H':Hp}{l:Addr}{ps:List Addr}{qs:List Ak}
theorem cW.same(h:cW K C H l ps qs)(s:ah H H'):cW K C H' l ps qs:=⟨s _ _ h.l,h.n,λi p q e1 e2=>let ⟨m,b,dx,z⟩:=h.t i p q e1 e2;⟨m,b,dx,z.same s⟩⟩
theorem cW.at(h:cW K C H l ps qs){i:Nat}{q:Ak}(e:qs[i]? = some q):∃p m b dx,(ps.map V.ref)[i]? = some (.ref p)/\dN K C H p q m b dx:=by
 have hi:i<ps.length:=by rw[h.n];exact(List.getElem?_eq_some_iff.mp e).1
 obtain⟨m,b,dx,z⟩:=h.t i ps[i] q (List.getElem?_eq_getElem hi) e;exact⟨ps[i],m,b,dx,by rw[List.getElem?_map,List.getElem?_eq_getElem hi];rfl,z⟩
theorem Zt.abz{H:Hp}{l p:Addr}{ts:List Addr}{z:List (List Int)}(h:Zt H l ts z){r:List Int}(hp:H p=some (.tup (r.map V.int))):Zt (upd H l (.lst (ts.map V.ref++[V.ref p]))) l (ts++[p]) (z++[r]):=by
 have ne:∀ {t:Addr} {xs:List V},H t=some (.tup xs)->t≠l:=λe q=>by rw[q,h.l] at e;cases e
 refine⟨by rw[aI,List.map_append];rfl,by simp[h.n],λi t x e1 e2=>?_⟩
 by_cases hi:i<ts.length
 ·rw[List.getElem?_append_left hi] at e1;rw[List.getElem?_append_left (by rw[← h.n];exact hi)] at e2
  have:=h.t i t x e1 e2;rw[aD (ne this)];exact this
 ·rw[List.getElem?_append_right (by lia)] at e1
  rw[List.getElem?_append_right (by rw[← h.n];lia),← h.n] at e2
  have hj:i - ts.length=0:=by
   have:=(List.getElem?_eq_some_iff.mp e1).1;simp at this;lia
  rw[hj] at e1 e2;cases e1;cases e2;rw[aD (ne hp)];exact hp
structure xZ(T:Int)(q:Ak):Prop where
 f0:0<=q.first
 m0:0<=q.many
 m1:q.many<=16
 fit:q.first+q.many<=T
noncomputable def abA(K:PySem.W.Frag)(CA:Addr):Sp:=λvs H Q _=>∃(la:Addr) (ps:List Addr) (qs:List Ak) (k:Nat) (q:Ak),vs = [.ref la,.int (k:Int)]/\cW K CA H la ps qs/\qs[k]? = some q/\(∀q0,0<k->qs[k - 1]? = some q0->q0.at_<=q.at_)/\Q .aN H
noncomputable def abB(K:PySem.W.Frag)(CA:Addr):Sp:=λvs H Q _=>∃(la:Addr) (ps:List Addr) (qs:List Ak) (k:Nat) (q:Ak),vs = [.ref la,.int (k:Int)]/\cW K CA H la ps qs/\qs[k]? = some q/\q.behind.length<=1000/\(∀n∈q.behind,∃(j:Nat) (q0:Ak),n=(j:Int)/\j<k/\qs[j]? = some q0/\q0.kind≠"rest")/\Q .aN H
noncomputable def x6(qs:List Ak)(k:Nat):List Int:=((List.range k).filter λ(j:Nat)=>match qs[k]?,qs[j]? with
 | some q,some q0=>decide ((j:Int)∈q.behind) || qM q q0
 | _,_=>false).map λ(j:Nat)=>(j:Int)
noncomputable def abC(K:PySem.W.Frag)(CA:Addr):Sp:=λvs H Q _=>∃(la:Addr) (ps:List Addr) (qs:List Ak) (k:Nat) (q:Ak),vs = [.ref la,.int (k:Int)]/\cW K CA H la ps qs/\qs[k]? = some q/\qs.length<=100/\q.behind.length<=1000/\
 ∀t H',ah H H'->H t=none->H' t=some (.tup ((x6 qs k).map V.int))->Q (.ref t) H'
structure x8(T:Int)(qs:List Ak):Prop where
 n:qs.length<=100
 fit:∀(i:Nat) (q:Ak),qs[i]? = some q->xZ T q/\q.behind.length<=1000
 up:∀(i:Nat) (q q':Ak),qs[i]? = some q->qs[i+1]? = some q'->q.at_<=q'.at_
 bh:∀(k:Nat) (q:Ak),qs[k]? = some q->∀n∈q.behind,∃(j:Nat) (q0:Ak),n=(j:Int)/\j<k/\qs[j]? = some q0/\q0.kind≠"rest"
noncomputable def iQ(qs:List Ak)(n:Nat):List (List Int):=(List.range n).map (x6 qs)
noncomputable def abD(K:PySem.W.Frag)(cs:List Addr)(CA:Addr):Sp:=λvs H Q _=>∃(C p la:Addr) (P:Pl) (fp ps:List Addr) (qs:List Ak),vs = [.ref p,.ref la]/\C∈cs/\bY K C H p P fp/\P.nc.length<=1000000/\cW K CA H la ps qs/\x8 P.nc.length qs/\
 ∀l ts H',ah H H'->H l=none->(∀t∈ts,H t=none)->Zt H' l ts (iQ qs qs.length)->Q (.ref l) H'
end
noncomputable abbrev ET(qual:Str)(scope:Scope)(L f c':Addr)(cl:List (Str×Addr)):Env:=PySem.W.envX qual scope L f (.ref c') cl
noncomputable def uf(X:Cx)(A:Around)(qual:Str)(scope:Scope)(f c':Addr)(cl:List (Str×Addr))(N:List Str)(s:Shared)(H:Hp):Cx where
 prog:=X.prog
 w:=X.w
 K:=X.K
 mg:=X.mg
 base:=X.base
 A:=A.deeper (ET qual scope s.heap.objs.size f c' cl)
 N:=N
 dh:=s
 f9:=H
 env:=ET qual scope s.heap.objs.size f c' cl
 outer:=X.stack
 stack:=ET qual scope s.heap.objs.size f c' cl::X.stack
 ex:=[]
 fn:=λ_=>false
 calm:=X.calm
 pn:=[]
 xe:=λ_ _=>False
structure je(X:Cx)(scope:Scope)(cl:List (Str×Addr))(ps fs:List Str)(fv:List Nat):Prop where
 kY:closureFor scope X.env=pure cl
 kind:scope.kind = .function
 co:scope.isCoroutine=false
 gen:scope.isGenerator=false
 j6:∀y∈scope.names,y.2≠.cell
 par:∀y∈ps,scope.names.lookup y=some .local
 sub:∀p∈cl,X.env.cells.lookup p.1=some p.2
 has:∀y∈scope.names,y.2 = .free->∃c,cl.lookup y.1=some c
 free:fv.map (λj=>X.N[j]?)=fs.map some
 fk:∀y∈fs,scope.names.lookup y=some .free/\X.env.scope.names.lookup y=some .cell
 nd:(ps++fs).Nodup
theorem NZ{α:Type}:∀ {l:List (Str×α)} {x:Str} {v:α},(l.map (·.1)).Nodup->(x,v)∈l->l.lookup x=some v
 | (y,u)::r,x,v,nd,hm=>by
  rw[List.map_cons,List.nodup_cons] at nd;rcases List.mem_cons.mp hm with e | e
  ·cases e;simp[List.lookup_cons]
  ·have:x≠y:=λz=>nd.1 (by rw[← z];exact List.mem_map.mpr ⟨_,e,rfl⟩)
   rw[List.lookup_cons,beq_eq_false_iff_ne.mpr this];exact NZ nd.2 e
section
variable{X:Cx}{pins:List (Addr×Obj)}{σ:St}{H:Hp}{s:Shared}{scope:Scope}{cl:List (Str×Addr)}{ps fs:List Str}{fv:List Nat}{A:Around}{qual:Str}{f c':Addr}
noncomputable def pq(σ:St)(vs:List V)(fv:List Nat):St:=vs.map some++fv.map λj=>(σ[j]?).getD none
theorem je.cell(S:je X scope cl ps fs fv){x:Str}{c:Addr}(e:cl.lookup x=some c):X.env.cells.lookup x=some c:=S.sub (x,c) (nq e)
theorem abE{ps:List Str}{us:List Value}{i:Nat}{x:Str}{u:Value}(nd:ps.Nodup)(e1:ps[i]? = some x)(e2:us[i]? = some u):(ps.zip us).reverse.lookup x=some u:=by
 have x9:((ps.zip us).reverse.map (·.1)).Nodup:=by
  rw[List.map_reverse];refine List.pairwise_reverse.mpr (List.Pairwise.imp Ne.symm (show ((ps.zip us).map (·.1)).Nodup from ?_));have:(ps.zip us).map (·.1)=ps.take us.length:=by
   clear e1 e2 nd
   induction ps generalizing us with
   | nil=>simp
   | cons a r ih=>cases us with
    | nil=>simp
    | cons b q=>simp[ih]
  rw[this];exact nd.sublist (List.take_sublist _ _)
 have hm:(x,u)∈(ps.zip us).reverse:=by
  rw[List.mem_reverse];refine List.mem_of_getElem? (i:=i) ?_;rw[List.getElem?_zip_eq_some];exact⟨e1,e2⟩
 exact NZ x9 hm
theorem je.inv(S:je X scope cl ps fs fv)(I:Inv X pins σ H s)(hA:A.frames=some X.stack)(hd:X.calm=true->A.handled=none){h1:Heap}{tk:Nat}{us:List Value}{vs:List V}(r:Vals vs us)(hl:vs.length=ps.length)
  (old:∀b o,s.heap.get? b=some o->h1.get? b=some o) (j4:h1.Ns s.heap.objs.size λy=>(ps.zip us).reverse.lookup y) :
  Inv (uf X A qual scope f c' cl (ps++fs) s H) [] (pq σ vs fv) H { s with heap:=h1,toks:=tk }:=by
 have I1:Inv X pins σ H { s with heap:=h1,toks:=tk }:=I.kept old;have hlen:fv.length=fs.length:=by simpa using congrArg List.length S.free
 refine⟨⟨I.ok.mod,S.kind,rfl,rfl,Nat.le_refl _,λx y c e1 e2=>I.ok.inj x y c (S.cell e1) (S.cell e2),λx hx=>?_,λx c z _=>?_,hd,Around.frames_deeper hA,.inr ⟨rfl,rfl⟩,λb z=>absurd (show b∈([]:List Addr) from z) (by simp),I.bs,Nat.le_trans I.ok.jt I.sz,
  λb _ _ z=>absurd (show b∈([]:List Addr) from z) (by simp),λb z=>absurd (show b∈([]:List Addr) from z) (by simp),I.stack,I.Dy⟩,rfl,I.bare,Un.kept old,⟨_,j4,λi x v e1 e2 e3=>?_⟩,λx c e=>?_,I.aL.fresh (Nat.le_refl _),λx c e=>I.ju x c (S.cell e),
  λp hp=>absurd (show p∈([]:List (Addr×Obj)) from hp) (by simp),I1.aL,?_⟩
 ·have hx:scope.names.lookup x=some .cell\/scope.names.lookup x=some .free:=hx;rcases hx with z | z
  ·exact absurd rfl (S.j6 _ (nq z))
  ·exact S.has _ (nq z) rfl
 ·cases (show false=true from z)
 ·have e1:(ps++fs)[i]? = some x:=e1;unfold pq at e2;by_cases hi:i<ps.length
  ·rw[List.getElem?_append_left hi] at e1;rw[List.getElem?_append_left (by simp;lia),List.getElem?_map] at e2
   cases hv:vs[i]? with
   | none=>rw[hv] at e2;simp at e2
   | some v' =>
    rw[hv] at e2;simp only[Option.map_some,Option.some.injEq] at e2;subst e2;obtain⟨u,hu,ru⟩:=r.get hv;exact⟨u,ru,.inl ⟨S.par x (List.mem_of_getElem? e1),abE (List.nodup_append.mp S.nd).1 e1 hu⟩⟩
  ·rw[List.getElem?_append_right (by lia)] at e1
   rw[List.getElem?_append_right (by simp;lia)] at e2
   simp only[List.length_map,List.getElem?_map,hl] at e2;cases hj:fv[i - ps.length]? with
   | none=>rw[hj] at e2;simp at e2
   | some j =>
    rw[hj] at e2;simp only[Option.map_some,Option.some.injEq] at e2;have hN:X.N[j]? = some x:=by
     have q:=congrArg (λl=>l[i - ps.length]?) S.free;simp only[List.getElem?_map,hj,Option.map_some] at q;rw[e1] at q;exact(Option.some.inj q)
    have Em:σ[j]? = some (some v):=by
     cases z:σ[j]? with
     | none=>rw[z] at e2;simp at e2
     | some y=>rw[z] at e2;simp at e2;rw[e2]
    obtain⟨f1,f2⟩:=S.fk x (List.mem_of_getElem? e1);obtain⟨m,hn,hlk⟩:=I1.loc;obtain⟨u,ru,lk⟩:=hlk j x v hN Em (.inr (.inl f2));refine⟨u,ru,?_⟩;rcases lk with⟨k,_⟩ | ⟨_,c,ec,hc⟩
    ·have k:X.env.scope.names.lookup x=some .local:=k;rw[f2] at k;cases k
    ·obtain⟨c2,e'⟩:=S.has _ (nq f1) rfl;have:=S.cell e';rw[ec] at this;cases this;exact .inr ⟨.inr f1,c,e',hc⟩
 ·obtain⟨v,z⟩:=I1.cell x c (S.cell e);exact⟨v,z⟩
 ·unfold pq
  show _=(ps++fs).length;simp only[List.length_append,List.length_map];lia
theorem N6{name:Str}{params:Arguments}{body:Expr}{te:TE}{pm dO:Value}{us:List Value}{vs:List V}{Q:VK}(S:je X scope cl ps fs fv)(I:Inv X pins σ H s)(hA:A.frames=some X.stack)(hd:X.calm=true->A.handled=none)(iR:A.depth<recursionLimit)
  (ho:s.heap.get? f=some (PySem.W.kla_obj name qual params body scope cl pm c' dO)) (gm:s.heap.CodeRec (.ref c') qual)
  (jC:bindArgs (PySem.W.kla_fn name qual params body scope cl pm (.ref c') dO) ⟨us,[]⟩=pure (ps.zip us)) (r:Vals vs us) (hl:vs.length=ps.length)
  (he:PE (uf X A qual scope f c' cl (ps++fs) s H) body te) (h:te (pq σ vs fv) H Q) :
  wpAny (model X.prog X.w) A (call (.ref f) us) (λu s'=>∃v H',Inv X pins σ H' s'/\RelV v u/\Q v H'/\Un (gT X.stack) [] H H' s.heap s'.heap) (λ_ _=>False) s:=by
 refine wpAny_call (PySem.W.kla_callFunE (A:=A) iR ho rfl S.co S.gen rfl gm ?_);rw[jC];refine wpAny_pure (wpAny_newFunctionEnv S.j6 (λy hy=>S.par _ (List.of_mem_zip hy).1) (λh1 j4 N7=>⟨(I.nolimit).fresh _ N7,?_⟩) S.kind);have old:∀b o,s.heap.get? b=some o->h1.get? b=some o:=λb o e=>N7.extBut b o (Nat.ne_of_lt (Heap.lt_size e)) (Heap.get?_push_of_some _ e);have J:=S.inv (qual:=qual) (f:=f) (c':=c') (A:=A) (tk:=s.toks+(ps.zip us).length) I hA hd r hl old j4;refine PySem.W.kla_codeExpr (wpAny_mono (he [] _ _ _ Q J h) (λu s' hq=>?_) λ_ _ z=>False.elim z);obtain⟨v,H',J',rv,q⟩:=hq;exact⟨v,H',I.LW J'.os J'.base J'.aL J'.bare (λ_ z=>nomatch z),rv,q,J'.base⟩
end
noncomputable def nF(c':Addr)(qual:Str):HO:=.ext λh=>h.CodeRec (.ref c') qual
noncomputable def bS(P:Addr)(pos:Pos)(qual:Str)(H:Hp):Prop:=∃ps,H P=some (.e7 ps)/\TriplesOk ps.toList/\(codeAmong pos ps.toList=none\/∃c',codeAmong pos ps.toList=some (.ref c')/\H c' = some (nF c' qual))
structure aj(mg:Str->Option Value)(base:Heap)(c P:Addr):Prop where
 hd:PySem.W.CodeHd base c P
 bm:∃bm ob,mg "__builtins__" = some (.ref bm)/\bm≠builtinsNs/\base.get? bm=some ob/\ob.cls = .type "module"/\ob.dict=some builtinsNs/\ob.data = .plain
theorem abF{P:Program}{w:World}{H:Hp}{h:Heap}{c':Addr}{qual:Str}(x:h.CodeRec (.ref c') qual):dB P w H h c' (nF c' qual):=by
 refine⟨x,?_,λh1 h2 y k=>?_⟩
 ·obtain⟨c,o,vs,t,e,g,_⟩:=x;cases e;exact⟨o,g⟩
 ·obtain⟨c,o,vs,t,e,g,r⟩:=y;cases e;exact⟨c',o,vs,t,rfl,k o g,r⟩
theorem N8{P:Program}{w:World}{H:Hp}{h:Heap}{c':Addr}{qual:Str}(x:cX P w H h)(e:H c' = some (nF c' qual)):h.CodeRec (.ref c') qual:=(x c' _ e).1
theorem N9{a b:Int}{t u:Tok}{c:Value}:∀ {l:List Value},TriplesOk l->TriplesOk (l++[.int a t,.int b u,c])
 | [],_=>trivial
 | .int _ _::.int _ _::_::r,h=>N9 (l:=r) h
section
variable{X:Cx}{pins:List (Addr×Obj)}{σ:St}{H:Hp}{s:Shared}{scope:Scope}{cl:List (Str×Addr)}{M:Model}{A:Around}{E:Value->Shared->Prop}{name qual:Str}{params:Arguments}{body:Expr}{pos:Pos}{firstLine:Nat}{c P:Addr}
theorem abG{Q:Value->Shared->Prop}(B:aj X.mg X.base c P)(nG:X.env.code = .ref c)(l6:closureFor scope X.env=pure cl)(I:Inv X pins σ H s)(hT:bS P pos qual H)
  (h:∀(f c':Addr) (dO pm:Value) (H':Hp) (s':Shared),Inv X ((f,PySem.W.kla_obj name qual params body scope cl pm c' dO)::pins) σ H' s'->SameBut P H H'->bS P pos qual H'->H' c' = some (nF c' qual)->Q (.ref f) s') :
  wpAny M A (makeFunction name qual params (.expr body) scope X.env [] [] [] pos firstLine) Q E s:=by
 obtain⟨ps,hP,tr,hc⟩:=hT;have oP:s.heap.get? P=some (PySem.W.tabObj ps):=I.aL P _ hP;have EU:s.heap.Ns mainGlobals X.mg:=I.mod.glob.keeps I.bk;obtain⟨bm,ob,b1,b2,b3,b4,b5,b6⟩:=B.bm;have hgP:mainGlobals≠P:=λq=>by
  obtain⟨o,es,ep,e,hd,_⟩:=EU;rw[q,oP] at e;cases e;cases hd
 have hbP:bm≠P:=λq=>by
  have e:=I.bk _ _ b3;rw[q,oP] at e;cases e;cases b4
 have hbG:bm≠mainGlobals:=λq=>by
  obtain⟨o,es,ep,e,hd,_⟩:=I.mod.glob;rw[q,e] at b3;cases b3;rw[hd] at b6;cases b6
 have N_:s.heap.BuiltinsAt X.mg P:=⟨bm,ob,b1,b2,hbG,hbP,I.bk _ _ b3,b4,b5,b6⟩;have nf:∀(h1:Heap) (o:Obj),s.heap.objs.size<=h1.objs.size->(h1.push o).get? h1.objs.size=some o->True:=λ_ _ _ _=>trivial;have LP:X.env.locals≠P:=λz=>by rw[← z,I.free] at hP;cases hP
 rcases hc with hc | ⟨c',hc,Oa⟩
 ·refine PySem.W.kla_makeFunction (mg:=X.mg) l6 I.ok.glob EU nG (B.hd.keeps I.bk) oP tr hc hgP N_ λc' dO h1 tk hx Ob bT abH htb=>?_;have nc:H c' = none:=I.aL.fresh Ob;have cP:c'≠P:=λz=>by rw[z,hP] at nc;cases nc
  have kp:∀b o,b≠P->s.heap.get? b=some o->(h1.push (PySem.W.kla_obj name qual params body scope cl ((X.mg "__name__").getD .none) c' dO)).get? b=some o:=λb o hb e=>Heap.get?_push_of_some _ (hx b o hb e);have Oc:=Heap.get?_push_of_some (PySem.W.kla_obj name qual params body scope cl ((X.mg "__name__").getD .none) c' dO) htb;have qN:∀b u,H b=some u->b≠P->upd (upd H P (.e7 (ps ++ #[rawInt pos.line,rawInt pos.col,.ref c']))) c' (nF c' qual) b=some u:=λb u e hb=>by
   rw[aD (λz=>by rw[z,nc] at e;cases e),aD hb];exact e
  have I1:Inv X pins σ (upd (upd H P (.e7 (ps ++ #[rawInt pos.line,rawInt pos.col,.ref c']))) c' (nF c' qual)) { s with heap:=h1.push (PySem.W.kla_obj name qual params body scope cl ((X.mg "__name__").getD .none) c' dO),toks:=tk }:=by
   refine I.step (g':=s.gens) (d':=s.drawn) (ch:=[]) (λ_ z=>nomatch z) (λb o _ _ _ e n=>kp b o (λz=>by rw[z,hP] at n;cases n) e) (λb o _ _ _ e n=>⟨o.slots,kp b o (λz=>by rw[z,hP] at n;cases n) e⟩) (λb o _ e n=>?_)
    (λb o _ e=>?_) (λb xs e=>qN b _ e (λz=>by rw[z,hP] at e;cases e)) (λb o u e=>qN b _ e (λz=>by rw[z,hP] at e;cases e)) (λb fj e=>?_) (λm hm=>(hm.extBut hx LP).push _) (λb v e=>?_) I.bare
   ·rw[aD (λz=>absurd (Nat.lt_of_lt_of_le (Heap.lt_size e) Ob) (by rw[z];exact Nat.lt_irrefl _)),aD (λz=>by rw[z,hP] at n;cases n)];exact n
   ·by_cases hb:b=P
    ·rw[hb];exact⟨_,Oc⟩
    ·exact⟨o,kp b o hb e⟩
   ·by_cases hb:b=P
    ·subst hb;rw[hP] at e;cases e;exact⟨#[rawInt pos.line,rawInt pos.col,.ref c'],by rw[aD cP.symm,aI]⟩
    ·exact⟨#[],by rw[Array.append_empty];exact qN b _ e hb⟩
   ·by_cases Od:b=c'
    ·subst Od;rw[aI] at e;cases e;exact abF (abH.push _)
    ·rw[aD Od] at e;by_cases hb:b=P
     ·subst hb;rw[aI] at e;cases e;exact Oc
     ·rw[aD hb] at e;refine(I.aL b v e).iy (λd o hd q=>kp d o ?_ q) (λd q=>qN d _ q (λz=>by rw[z,hP] at q;cases q)) (λd xs q=>qN d _ q (λz=>by rw[z,hP] at q;cases q))
      rcases hd with z | z
      ·rw[z];exact hb
      ·exact λy=>by rw[y,hP] at z;cases z
  have of:=Heap.get?_push_size h1 (o:=PySem.W.kla_obj name qual params body scope cl ((X.mg "__name__").getD .none) c' dO) rfl;have EV:s.heap.objs.size<=h1.objs.size:=by lia
  refine h h1.objs.size c' dO ((X.mg "__name__").getD .none) _ _ (I1.kK λp hp=>?_) ?_ ⟨_,by rw[aD cP.symm,aI],?_,.inr ⟨c',?_,aI⟩⟩ aI
  ·rcases List.mem_cons.mp hp with e | hp
   ·rw[e];refine⟨of,?_,λz=>absurd (Nat.lt_of_lt_of_le I.lt (by assumption)) (by rw[← z];exact Nat.lt_irrefl _),I.sJ EV,λv z=>by cases z⟩
    show upd (upd H P _) c' _ h1.objs.size=none;rw[aD (Nat.ne_of_gt bT),aD (Nat.ne_of_gt (Nat.lt_of_lt_of_le (Heap.lt_size oP) EV))];exact I.aL.fresh EV
   ·exact I1.pin p (List.mem_append_right _ hp)
  ·intro b o e hb;exact qN b o e hb
  ·rw[Array.toList_append];exact N9 tr
  ·rw[Array.toList_append];exact codeAmong_snoc _ tr hc
 ·refine PySem.W.kla_makeFunctionHit (mg:=X.mg) l6 I.ok.glob EU nG (B.hd.keeps I.bk) oP tr hc N_ λdO h1 tk hk hsz=>?_;have kp:∀b o,s.heap.get? b=some o->(h1.push (PySem.W.kla_obj name qual params body scope cl ((X.mg "__name__").getD .none) c' dO)).get? b=some o:=λb o e=>Heap.get?_push_of_some _ (hk b o e);have I1:=I.kept (t':=tk) kp;have of:=Heap.get?_push_size h1 (o:=PySem.W.kla_obj name qual params body scope cl ((X.mg "__name__").getD .none) c' dO) rfl;refine h h1.objs.size c' dO ((X.mg "__name__").getD .none) _ _ (I1.kK λp hp=>?_) (λb o e _=>e) ⟨ps,hP,tr,.inr ⟨c',hc,Oa⟩⟩ Oa;rcases List.mem_cons.mp hp with e | hp
  ·rw[e];exact⟨of,I.aL.fresh hsz,λz=>absurd (Nat.lt_of_lt_of_le I.lt (by assumption)) (by rw[← z];exact Nat.lt_irrefl _),I.sJ hsz,λv z=>by cases z⟩
  ·exact I1.pin p (List.mem_append_right _ hp)
end
end _L
namespace _L
open PySem PySem.Spec PyProof.Rows PySem.W
section
variable{prog:Program}{w:World}{A:Around}{E:Value->Shared->Prop}{s:Shared}
end
section
variable{X:Cx}{pins:List (Addr×Obj)}{σ:St}{H:Hp}{s:Shared}
theorem Inv.chg{h':Heap}{tk:Nat}{k:Addr}{m:Str->Option Value}(I:Inv X pins σ H s)(hm:s.heap.Ns X.env.locals m)(ug:h'.Ns X.env.locals m)(n:H k=none)(hs:X.dh.heap.objs.size<=k)(hL:k≠X.env.locals)
  (hc:∀x c,X.env.cells.lookup x=some c->c≠k) (hp:∀p∈X.pn++pins,p.1≠k) (ho:∃o,h'.get? k=some o) (kk:∀b o,b≠X.env.locals->b≠k->s.heap.get? b=some o->h'.get? b=some o):Inv X pins σ H { s with heap:=h',toks:=tk }:=by
 have nl:∀b v,H b=some v->b≠X.env.locals:=λb v e z=>by rw[z,I.free] at e;cases e
 have nk:∀b v,H b=some v->b≠k:=λb v e z=>by rw[z,n] at e;cases e
 refine I.step (g':=s.gens) (d':=s.drawn) (ch:=[k]) (λb z=>by rw[List.mem_singleton.mp z];exact⟨.inr hs,hL,hc,hp⟩) (λb o hb _ hk e _=>kk b o hb (by simpa using hk) e) (λb o hb _ hk e _=>⟨o.slots,kk b o hb (by simpa using hk) e⟩) (λ_ _ _ _ n=>n) (λb o hk e=>?_) (λ_ _ e=>e) (λ_ _ _ e=>e)
  (λb ps e=>⟨#[],by rw[e];simp⟩) (λm' EW=>?_) (λb v e=>(I.aL b v e).iy (λc o hc e'=>kk c o ?_ ?_ e') (λ_ e=>e) (λ_ _ e=>e)) I.bare
 ·by_cases hb:b=X.env.locals
  ·obtain⟨o',_,_,z,_⟩:=ug;exact⟨o',by rw[hb];exact z⟩
  ·exact⟨o,kk b o hb (by simpa using hk) e⟩
 ·have:m' = m:=by
   obtain⟨o1,Eu,Nv,g1,d1,k1,z1⟩:=EW;obtain⟨o2,xM,Ew,g2,d2,k2,z2⟩:=hm;rw[g1] at g2;cases g2;rw[d1] at d2;cases d2
   funext x
   rw[← z1 x,← z2 x]
  rw[this];exact ug
 ·rcases hc with z | z
  ·rw[z];exact nl b v e
  ·exact nl c _ z
 ·rcases hc with z | z
  ·rw[z];exact nk b v e
  ·exact nk c _ z
variable{scope:Scope}{cl:List (Str×Addr)}{ps fs:List Str}{fv:List Nat}{A:Around}{qual name:Str}{f c' P kS:Addr}{params:Arguments}{body:Expr}{te:TE}{pm dO:Value}{pos:Pos}{kv:Nat->Int×Int}{n:Nat}{H1:Hp}{m:Str->Option Value}
theorem SameBut.trans{H H1 H2:Hp}{x:Addr}(a:SameBut x H H1)(b:SameBut x H1 H2):SameBut x H H2:=λc o e h=>b c o (a c o e h) h
end
theorem abI{P:Program}{w:World}{K:PySem.W.Frag}{mg mb:Str->Option Value}{k:Nat}{fa a:Addr}{fd:FuncData}{x:Str}{sp:Sp}{bg:Shared}{vs:List Value}{ns:List Int}{tabs:List (Addr×Addr)}
  (KX:K.In bg.heap) (j4:bg.heap.Ns mainGlobals mg) (hb:bg.heap.Ns builtinsNs mb) (Ei:∀x:Str,x≠"__name__"->mb x=bootBuiltins x) (Ej:bg.heap.NoLimit) (hg:bg.gens = #[])
  (ha:bg.heap.get? a=some { cls:=.type "list",data:=.seq vs.toArray }) (hi:IntsAre vs ns) (hl:ns.length<=sizeLine) (hr:cB k callerA)
  (hT:TabsAt tabs bg.heap) (uh:noTabs K=true) (bm:∃bm ob,mg "__builtins__" = some (.ref bm)/\bm≠builtinsNs/\bg.heap.get? bm=some ob/\ob.cls = .type "module"/\ob.dict=some builtinsNs/\ob.data = .plain)
  (F:∀base:Heap,K.In base->base.Ns mainGlobals mg->(∀q∈tabs,aj mg base q.1 q.2)->aW P w K mg base bu k fa fd [x] sp) (jC:∀(s:Shared) (u:Value),BindsTo s fd ⟨[u],[]⟩ [(x,u)])
  (g7:∀H:Hp,(∀q∈tabs,H q.2=some (.e7 #[]))->aE K H a (ns.map V.int)->sp [.ref a] H (λv _=>v = .bl true) λ_ _ _=>False) :
  codeAny (model P w) callerA (.call (.ref fa) ⟨[.ref a],[]⟩) (λr s'=>r = .ok (.ret (.bool true))/\OldK bg.heap s'.heap/\s'.os=bg.os/\AllBare s'.gens) bg:=by
 have rv:=xC hi;have El:=hi.length;have pA:∀b,b∈tabs.map (·.2)->bg.heap.get? b=some (tabObj #[])/\isCodeTable bg.heap b:=λb hb=>by
  obtain⟨q,hq,rfl⟩:=List.mem_map.mp hb;exact⟨(hT q hq).2,((hT q hq).1.tab (hT q hq).2).isCodeTable⟩
 have aT:a∉tabs.map (·.2):=λhb=>by
  have:=(pA a hb).1;rw[ha] at this;cases this
 have core:∀H:Hp,(∀b u,H b=some u->(b=a/\∃o xs,u = .cI o (.lst xs))\/(b∈tabs.map (·.2)/\u = .e7 #[]))->(∀q∈tabs,H q.2=some (.e7 #[]))->aE K H a (ns.map V.int)->cX P w H bg.heap->(H a≠none->K.lookup a=none)->
   codeAny (model P w) callerA (.call (.ref fa) ⟨[.ref a],[]⟩) (λr s'=>r = .ok (.ret (.bool true))/\OldK bg.heap s'.heap/\s'.os=bg.os/\AllBare s'.gens) bg:=by
  intro H hO EX hS aL hK;have o9:∀ {b:Addr} {o:Obj},bg.heap.get? b=some o->H b=none->(iz bg.heap H).get? b=some o:=λe n=>LK e n;have free:∀ {b:Addr} {o:Obj},bg.heap.get? b=some o->(b≠a)->o≠tabObj #[]->H b=none:=λ{b o} e n1 n2=>by
   cases q:H b with
   | none=>rfl
   | some u =>
    rcases hO b u q with⟨z,_⟩ | ⟨z,_⟩
    ·exact absurd z n1
    ·have:=(pA b z).1;rw[e] at this;exact absurd (Option.some.inj this) n2
  have Oe:∀ {b:Addr} {o:Obj},bg.heap.get? b=some o->o.cls≠.type "list"->b≠a:=λ{b o} e n z=>by
   rw[z,ha] at e;cases e;exact n rfl
  have abJ:∀ {b:Addr} {o:Obj} {es:Array DictEntry} {ep:Nat},bg.heap.get? b=some o->o.data = .dict es ep->b≠a:=λ{b o es ep} e d z=>by
   rw[z,ha] at e;cases e;cases d
  have lY:∀ {b:Addr} {m:Str->Option Value},bg.heap.Ns b m->(iz bg.heap H).Ns b m:=λ{b m} ⟨o,es,ep,e,d,r⟩=>⟨o,es,ep,o9 e (free e (abJ e d) (λz=>by rw[z] at d;cases d)),d,r⟩
  have tQ:K.In (iz bg.heap H):=λb o e=>o9 (KX b o e) (by
   cases q:H b with
   | none=>rfl
   | some u =>
    rcases hO b u q with⟨z,_⟩ | ⟨z,_⟩
    ·subst z;rw[hK (by rw[q];simp)] at e;cases e
    ·have e2:=KX b o e;rw[(pA b z).1] at e2;have h2:=List.all_eq_true.mp uh (b,o) (mem_of_lookupK e);cases e2;exact absurd (show false=true from h2) Bool.false_ne_true)
  have hM:Mod K mg (iz bg.heap H):=⟨tQ,lY j4,⟨mb,lY hb,Ei⟩,let ⟨mc,h1,h2⟩:=Ej;⟨mc,lY h1,h2⟩⟩
  have hL:∀q∈tabs,aj mg (iz bg.heap H) q.1 q.2:=λq hq=>by
   obtain⟨b,ob,b1,b2,b3,b4,b5,b6⟩:=bm;obtain⟨o,vs',file,tf,flags,tg,inF,text,tt,e1,r1,r2⟩:=(hT q hq).1;refine⟨⟨o,vs',file,tf,flags,tg,inF,text,tt,o9 e1 (free e1 (Oe e1 (by rw[r1];intro z;injection z with z;exact absurd z (by decide))) (λz=>by rw[z] at r1;cases r1)),r1,r2⟩,b,ob,b1,b2,o9 b3 (free b3 (Oe b3 (by rw[b4];intro z;injection z with z;exact absurd z (by decide))) (λz=>by rw[z] at b4;cases b4)),b4,b5,b6⟩
  have e0:nh P w K mg (iz bg.heap H) callerA [] bg H:=⟨rfl,hM,λb o e=>LL e,Nat.le_of_eq (LJ _ _),trivial,λb hb=>absurd (show b∈([]:List Addr) from hb) (by simp),aL,.of_eq hg⟩
  refine codeAny_mono ((F _ tQ (lY j4) hL).run callerA [] bg H ⟨[.ref a],[]⟩ [.ref a] [.ref a] _ _ hr e0 (jC bg (.ref a)) (.cons rfl .nil) (g7 H EX hS)) λr s' h=>?_;cases r with
  | error e=>exact False.elim h
  | ok fl =>
   cases fl with
   | next=>exact False.elim h
   | brk=>exact False.elim h
   | cont=>exact False.elim h
   | ret u =>
    obtain⟨v,H',os,bare,un,xE,r',q⟩:=h;have q':v = .bl true:=q;subst q';obtain rfl:u=Value.bool true:=r';have noS:∀b:Addr,b∉gT ([]:List Env):=λb z=>absurd (show b∈([]:List Addr) from z) (by simp)
    have all:∀b o,bg.heap.get? b=some o->asItWas bg.heap s'.heap b o/\∃o',s'.heap.get? b=some o':=λb o e=>by
     cases q:H b with
     | none =>
      have:=un.keep b o e q (noS b) (by simp)
      exact⟨.inl this,o,this⟩
     | some u =>
      rcases hO b u q with⟨z,ob,xs,rfl⟩ | ⟨z,rfl⟩
      ·have z2:=un.jP b ob _ q;obtain⟨e1,_⟩:=aL b _ q;obtain⟨e2,_⟩:=xE b _ z2;rw[e] at e1;cases e1;exact⟨.inl e2,_,e2⟩
      ·obtain⟨more,z2⟩:=un.kH b _ q;have e1:=(pA b z).1;rw[e] at e1;cases e1;have e2:s'.heap.get? b=some { cls:=.none,data:=.fields (#[]++more)}:=xE b _ z2;exact⟨.inr (.inl ⟨(pA b z).2,rfl,#[],more,rfl,e2⟩),_,e2⟩
    exact⟨rfl,⟨λb o e=>(all b o e).1,λb o e=>(all b o e).2⟩,os,bare⟩
 have tq:∀q∈tabs,q.2∈tabs.map (·.2):=λq hq=>List.mem_map_of_mem hq;cases hk:K.lookup a with
 | some o =>
  have e:=KX a o hk;rw[ha] at e;cases e;refine core (λb=>if b∈tabs.map (·.2) then some (.e7 #[]) else none) (λb u z=>?_) (λq hq=>if_pos (tq q hq)) (.inr ⟨_,vs.toArray,_,hk,rfl,rfl,rfl,by rw[List.size_toArray,El];exact hl,by simpa using rv⟩) (λb u z=>?_) (λz=>absurd (if_neg aT) z)
  ·by_cases hb:b∈tabs.map (·.2)
   ·have z':=(if_pos hb).symm.trans z;cases z';exact .inr ⟨hb,rfl⟩
   ·have z':=(if_neg hb).symm.trans z;cases z'
  ·by_cases hb:b∈tabs.map (·.2)
   ·have z':=(if_pos hb).symm.trans z;cases z';exact(pA b hb).1
   ·have z':=(if_neg hb).symm.trans z;cases z'
 | none =>
  refine core (λb=>if b=a then some (.cI { cls:=.type "list",data:=.seq vs.toArray } (.lst (ns.map V.int))) else if b∈tabs.map (·.2) then some (.e7 #[]) else none) (λb u z=>?_) (λq hq=>?_) (.inl (.inr ⟨{ cls:=.type "list",data:=.seq vs.toArray },if_pos rfl⟩)) (λb u z=>?_) λ_=>hk
  ·by_cases hb:b=a
   ·have z':=(if_pos hb).symm.trans z;cases z';exact .inl ⟨hb,_,_,rfl⟩
   ·have z':=(if_neg hb).symm.trans z;by_cases l7:b∈tabs.map (·.2)
    ·have z2:=(if_pos l7).symm.trans z';cases z2;exact .inr ⟨l7,rfl⟩
    ·have z2:=(if_neg l7).symm.trans z';cases z2
  ·have ne:q.2≠a:=λz=>aT (by rw[← z];exact tq q hq)
   exact(if_neg ne).trans (if_pos (tq q hq))
  ·by_cases hb:b=a
   ·have z':=(if_pos hb).symm.trans z;cases z';subst hb;exact⟨ha,by rw[List.length_map];exact hl,vs,_,rv,ha⟩
   ·have z':=(if_neg hb).symm.trans z;by_cases l7:b∈tabs.map (·.2)
    ·have z2:=(if_pos l7).symm.trans z';cases z2;exact(pA b l7).1
    ·have z2:=(if_neg l7).symm.trans z';cases z2
theorem je.of{X:Cx}{scope:Scope}{cl:List (Str×Addr)}{ps fs:List Str}{fv:List Nat}(kY:closureFor scope X.env=pure cl)(kind:scope.kind = .function)(co:scope.isCoroutine=false)(gen:scope.isGenerator=false)
  (j6:(scope.names.all λy=>y.2 != .cell)=true) (par:(ps.all λy=>scope.names.lookup y == some .local)=true) (sub:AllP (λp:Str×Addr=>X.env.cells.lookup p.1=some p.2) cl) (has:(scope.names.all λy=>y.2 != .free || (cl.lookup y.1).isSome)=true)
  (free:fv.map (λj=>X.N[j]?)=fs.map some) (fk:(fs.all λy=>scope.names.lookup y == some .free && X.env.scope.names.lookup y == some .cell)=true) (nd:(ps++fs).Nodup):je X scope cl ps fs fv where
 kY:=kY
 kind:=kind
 co:=co
 gen:=gen
 j6:=λy hy=>by have:=List.all_eq_true.mp j6 y hy;simpa using this
 par:=λy hy=>by have:=List.all_eq_true.mp par y hy;simpa using this
 sub:=sub.mem
 has:=λy hy hl=>by
  have:=List.all_eq_true.mp has y hy;rw[hl] at this;exact Option.isSome_iff_exists.mp (by simpa only[bne_self_eq_false,Bool.false_or] using this)
 free:=free
 fk:=λy hy=>by have:=List.all_eq_true.mp fk y hy;simpa using this
 nd:=nd
theorem aJ.EY{P:Program}{w:World}{K:PySem.W.Frag}{mg:Str->Option Value}{base:Heap}{x qual:Str}{st:Stmt}{f:Addr}{fd:FuncData}{N ps:List Str}{k:Nat}{sp:Sp}(F:aJ K x qual st f fd)(S:bw N ps (aP st))(len:∀vs H Q E,sp vs H Q E->vs.length=ps.length)
  (oW:∀(A:Around) (outer:List Env) (s:Shared) (H:Hp) (vs:List V) (Q:VK) (E:XK),cB k (A.deeper (envOfC qual (aP st) s.heap.objs.size f fd.code))->sp vs H Q E->
   ∃t,gz (lV bu P w K mg base N qual (aP st) f fd.code A outer s H E).mS (dD st) t/\t { nx:=λ_ H'=>Q .aN H',rt:=Q } (start N vs) H):aW P w K mg base bu (k+1) f fd ps sp:=by
 obtain⟨oc,od,kV,doc,pm,an,aR,ct,iC,rfl,lk,gm⟩:=F.ex;refine DT lk gm S len λA outer s H vs Q E hr g7=>?_;obtain⟨t,h,q⟩:=oW A outer s H vs Q E hr g7;exact⟨t,h.mS,q⟩
theorem abK{l:PySem.W.OpenLaw}{n k:Nat}{q:Program}{loose:List Str}{XP:(Str->Option Value)->Heap->Prop}{YP:World->Heap->Prop}{d:DefRec}{K:Params->PySem.W.Frag}{sp:World->List (Addr×Addr)->Sp}{x:Str}
  (hn:l.most=some n) (qx:n<=sizeLine) (o8:d.params.defaults = []) (hr:cB k callerA)
  (hY:∀(w:World) (h:Heap),YP w h->(K w.params).In h) (uh:∀w:World,noTabs (K w.params)=true)
  (F:∀(w:World) (mg:Str->Option Value) (fa:Addr) (h:Heap),YP w h->(K w.params).In h->h.Ns mainGlobals mg->mg d.name=some (.ref fa)->
   ∃(fd:FuncData) (tabs:List (Addr×Addr)),(∀(s:Shared) (u:Value),BindsTo s fd ⟨[u],[]⟩ [(x,u)])/\TabsAt tabs h/\
    ∀base:Heap,(K w.params).In base->base.Ns mainGlobals mg->(∀q∈tabs,aj mg base q.1 q.2)->aW l.prog w (K w.params) mg base bu k fa fd [x] (sp w tabs))
  (g7:∀(w:World) (tabs:List (Addr×Addr)) (H:Hp) (a:Addr) (ns:List Int),ns.length<=n->(∀q∈tabs,H q.2=some (.e7 #[]))->aE (K w.params) H a (ns.map V.int)->sp w tabs [.ref a] H (λv _=>v = .bl true) λ_ _ _=>False) :
  PySem.W.WalkO q loose XP YP l.row.toRowW d [] (λf vs=>PySem.call f vs):=by
 refine Ef.Ng hn o8 λw dh bg mg mb fa o pm cd doc a vs ns G Y ho hd gm hmg tO hints hlen hg=>?_;have KX:=hY w _ Y;obtain⟨fd,tabs,hb,hT,hF⟩:=F w mg fa _ Y KX G.T.g hmg;exact abI KX G.T.g G.T.b G.T.builtins G.T.nolimit hg tO hints (Nat.le_trans hlen qx) hr hT (uh w) G.T.bmain hF hb λH EX hS=>g7 w tabs H a ns hlen EX hS
noncomputable def b_(x:Str):Str:=x ++ ".<locals>." ++ "<lambda>"
end _L
namespace _L
open PySem PySem.Spec PyProof.Rows
section
variable{M:Model}{prog:Program}{w:World}{A:Around}{E:Value->Shared->Prop}{s:Shared}
end
section
variable{prog:Program}{w:World}{A:Around}{E:Value->Shared->Prop}{s:Shared}
end
section
variable{X:Cx}
end
section
variable{prog:Program}{w:World}{A:Around}{E:Value->Shared->Prop}{s:Shared}{d it:Addr}{es:Array DictEntry}{ep i:Nat}
end
section
variable{X:Cx}
end
theorem bS.same{P:Addr}{pos:Pos}{qual:Str}{H H':Hp}(h:bS P pos qual H)(s:ah H H'):bS P pos qual H':=by
 obtain⟨ps,e,k,c⟩:=h;refine⟨ps,s _ _ e,k,?_⟩;rcases c with c | ⟨c',c1,c2⟩
 ·exact .inl c
 ·exact .inr ⟨c',c1,s _ _ c2⟩
section
variable{P:Addr}{pos:Pos}{qual:Str}{H H1 H2:Hp}
theorem bS.ne(t:bS P pos qual H){a:Addr}{o:HO}(e:H a=some o)(n:∀ps,o≠.e7 ps):a≠P:=λz=>by
 obtain⟨ps,e',_⟩:=t;rw[z,e'] at e;exact n ps (Option.some.inj e).symm
end
noncomputable def x_(K:PySem.W.Frag)(tabs:List (Addr×Addr)):Sp:=λvs H Q _=>∃(a:Addr) (ns:List Int),vs = [.ref a]/\aE K H a (ns.map V.int)/\ns.length<=63/\(∀q∈tabs,H q.2=some (.e7 #[]))/\∀H',Q (.bl true) H'
theorem walk_lawT{l:PySem.W.OpenLaw}{k:Nat}{q:Program}{loose:List Str}{XP:(Str->Option Value)->Heap->Prop}{YP:World->Heap->Prop}{d:DefRec}{K:Params->PySem.W.Frag}{x:Str}
  (hn:l.most=some 63) (o8:d.params.defaults = []) (hr:cB k callerA) (hY:∀(w:World) (h:Heap),YP w h->(K w.params).In h) (uh:∀w:World,PySem.W.noTabs (K w.params)=true)
  (F:∀(w:World) (mg:Str->Option Value) (fa:Addr) (h:Heap),YP w h->(K w.params).In h->h.Ns mainGlobals mg->mg d.name=some (.ref fa)->
   ∃(fd:FuncData) (tabs:List (Addr×Addr)),(∀(s:Shared) (u:Value),BindsTo s fd ⟨[u],[]⟩ [(x,u)])/\PySem.W.TabsAt tabs h/\
    ∀base:Heap,(K w.params).In base->base.Ns mainGlobals mg->(∀q∈tabs,aj mg base q.1 q.2)->aW l.prog w (K w.params) mg base bu k fa fd [x] (x_ (K w.params) tabs)) :
  PySem.W.WalkO q loose XP YP l.row.toRowW d [] (λf vs=>PySem.call f vs) :=
 abK (n:=63) (sp:=λw tabs=>x_ (K w.params) tabs) hn (by decide) o8 hr hY uh F (λ_ tabs H a ns hl hT hS=>⟨a,ns,rfl,hS,hl,hT,λ_=>rfl⟩)
noncomputable abbrev Us:=List (Addr×List Int)
noncomputable def uV(zs:Us):List V:=zs.map λz=>V.ref z.1
noncomputable def Of(H:Hp)(zs:Us):Prop:=∀z,z∈zs->H z.1=some (.tup (z.2.map V.int))
section
variable{X:Cx}{pins:List (Addr×Obj)}{σ:St}{H:Hp}{s:Shared}
end
section
variable{X:Cx}
noncomputable def aku(K:PySem.W.Frag)(neg:Bool):R2:=λx y H Q=>∃(a p:Addr) (c:List Int) (zs:Us),x = .ref a/\y = .ref p/\H a=some (.tup (c.map V.int))/\aE K H p (uV zs)/\Of H zs/\
 Q (.bl (if neg then !decide (c∈zs.map (·.2)) else decide (c∈zs.map (·.2)))) H
noncomputable def akv:V->List V->Hp->VK->Prop:=λx vs H Q=>∃(l a:Addr) (zs:Us) (c:List Int),x = .ref l/\vs = [.ref a]/\H l=some (.lst (uV zs))/\Of H zs/\H a=some (.tup (c.map V.int))/\c∈zs.map (·.2)/\
 ∀(k:Nat) (h:k<zs.length),zs[k].2=c->(∀m (hm:m<zs.length),m<k->zs[m].2≠c)->Q .aN (upd H l (.lst (uV (zs.eraseIdx k))))
theorem abL{a b:List Int}(h:_H.lexLt a b=true):¬ _H.lexLt b a=true:=λz=>xV a (EK _ _ _ h z)
theorem abM{a b c:List Int}(h:¬ _H.lexLt b a=true)(h':¬ _H.lexLt c b=true):¬ _H.lexLt c a=true:=λz=>by
 rcases NQ a b with q | q | q
 ·exact h' (EK _ _ _ z q)
 ·rw[q] at z;exact h' z
 ·exact h q
end
section
variable{K:PySem.W.Frag}{tl:TE}{g:TG}{tt:TT}{te:TE}{nt:Nat}{fv:List Nat}{Q:VK}{σ:St}{H:Hp}
theorem Zn.push{l t:Addr}{ts:List Addr}{z:List (Int×Int)}{c:Int×Int}(h:Zn H l ts z)(ht:H t=some (.tup [.int c.1,.int c.2])):Zn (upd H l (.lst (ts.map V.ref++[V.ref t]))) l (ts++[t]) (z++[c]):=by
 have ne:∀ {a:Addr} {xs:List V},H a=some (.tup xs)->a≠l:=λe q=>by rw[q,h.l] at e;cases e
 refine⟨by rw[aI,List.map_append];rfl,by simp[h.n],λi t' p e1 e2=>?_⟩
 by_cases hi:i<ts.length
 ·rw[List.getElem?_append_left hi] at e1;rw[List.getElem?_append_left (by rw[← h.n];exact hi)] at e2
  have:=h.t i t' p e1 e2;rw[aD (ne this)];exact this
 ·rw[List.getElem?_append_right (by lia)] at e1
  rw[List.getElem?_append_right (by rw[← h.n];lia),← h.n] at e2
  have hj:i - ts.length=0:=by
   have:=(List.getElem?_eq_some_iff.mp e1).1;simp at this;lia
  rw[hj] at e1 e2;cases e1;cases e2;rw[aD (ne ht)];exact ht
end
section
variable{X:Cx}
theorem abN{pins:List (Addr×Obj)}{σ:St}{H:Hp}{s:Shared}{h':Heap}{tk:Nat}{m:Str->Option Value}(I:Inv X pins σ H s)(F:Fr X.base X.env.locals s.heap m)(F':Fr X.base X.env.locals h' m)(N':News X.base X.env.locals h' (sG X.base s.heap X.env.locals)):Inv X pins σ H { s with heap:=h',toks:=tk }:=by
 have kk:∀b o,b≠X.env.locals->s.heap.get? b=some o->h'.get? b=some o:=λb o hb e=>by
  cases q:X.base.get? b with
  | some z =>
   have:=F.keep b z q;rw[e] at this;cases this;exact F'.keep b _ q
  | none=>exact(N' (b,o) (LM hb q e)).1
 have nl:∀b v,H b=some v->b≠X.env.locals:=λb v e z=>by rw[z,I.free] at e;cases e
 refine I.step (g':=s.gens) (d':=s.drawn) (ch:=[]) (λ_ z=>nomatch z) (λb o hb _ _ e _=>kk b o hb e) (λb o hb _ _ e _=>⟨o.slots,kk b o hb e⟩) (λ_ _ _ _ n=>n) (λb o _ e=>?_) (λ_ _ e=>e) (λ_ _ _ e=>e)
  (λb ps e=>⟨#[],by rw[e];simp⟩) (λm' hm=>?_) (λb v e=>(I.aL b v e).iy (λc o hc e'=>kk c o ?_ e') (λ_ e=>e) (λ_ _ e=>e)) I.bare
 ·by_cases hb:b=X.env.locals
  ·obtain⟨o',_,_,z,_⟩:=F'.ns;exact⟨o',by rw[hb];exact z⟩
  ·exact⟨o,kk b o hb e⟩
 ·have:m' = m:=by
   obtain⟨o1,Eu,Nv,g1,d1,k1,z1⟩:=hm;obtain⟨o2,xM,Ew,g2,d2,k2,z2⟩:=F.ns;rw[g1] at g2;cases g2;rw[d1] at d2;cases d2
   funext x
   rw[← z1 x,← z2 x]
  rw[this];exact F'.ns
 ·rcases hc with z | z
  ·rw[z];exact nl b v e
  ·exact nl c _ z
theorem abO(hc:X.calm=true):iB X (.builtin "max") (λxs H Q=>∃(p:Addr) (ns:List Int),xs = [.ref p]/\aE X.K H p (ns.map V.int)/\0<ns.length/\∀M,M∈ns->(∀a,a∈ns->a<=M)->Q (.int M) H):=by
 intro pins s σ H xs us Q I r h;obtain⟨p,ns,rfl,hq,h0,q⟩:=h;obtain⟨u,rfl,ru⟩:=vals1 r;cases ru;obtain⟨aC,rv,pl,hz⟩:=I.list hq;obtain⟨m,F⟩:=I.fr;refine max_list_N (I.ok.hd hc) F (LN (h:=s.heap)) pl.isList (intsAre_of rv) h0 λh' M t tk F' N' h1 h2=>?_;exact⟨.int M,H,abN I F F' N',⟨t,rfl⟩,q M h1 h2⟩
end
section
variable{X:Cx}{e st:Expr}{te ts:TE}{pos p2:Pos}
noncomputable def akw(K:PySem.W.Frag)(te ts:TE):TE:=λσ H Q=>te σ H λx H1=>ts σ H1 λk H2=>∃a xs,x = .ref a/\k = .int (-1)/\aE K H2 a xs/\∀p,H2 p=none->Q (.ref p) (upd H2 p (.lst xs.reverse))
end
noncomputable def sumF(f:Nat->Int):Nat->Int
 | 0=>0
 | i+1=>sumF f i+f i
theorem Og{f:Nat->Int}(hd:∀i,f (i+1)<=f i)(a:Nat):∀b,f (a+b)<=f b
 | b=>by
  induction a with
  | zero=>rw[Nat.zero_add];exact Int.le_refl _
  | succ a ih=>rw[show a+1+b=a+b+1 by lia];exact Int.le_trans (hd _) ih
theorem Oh{f:Nat->Int}(hd:∀i,f (i+1)<=f i)(a:Nat):∀b,sumF f (a+b)<=sumF f a+sumF f b
 | 0=>by simp[sumF]
 | b+1=>by
  have ih:=Oh hd a b;have:=Og hd a b;rw[← Nat.add_assoc,sumF,sumF];lia
theorem Oi{f:Nat->Int}(h1:1<=f 0)(hd:∀i,0<=f i/\f (i+1)<=f i):∀i:Nat,(1<=i->1<=sumF f i)/\0<=sumF f i/\sumF f i<=f 0*(i:Int)
 | 0=>by simp[sumF]
 | i+1=>by
  have ih:=Oi h1 hd i;have h2:=(hd i).1;have h3:f i<=f 0:=Og (λi=>(hd i).2) i 0;have e:f 0*((i+1:Nat):Int)=f 0*(i:Int)+f 0:=by
   rw[show ((i+1:Nat):Int)=(i:Int)+1 by lia,Int.mul_add,Int.mul_one]
  refine⟨λ_=>?_,?_,?_⟩
  ·rw[sumF];by_cases hi:i=0
   ·subst hi;simp only[sumF];lia
   ·have:=ih.1 (by lia);lia
  ·rw[sumF];lia
  ·rw[sumF,e];lia
theorem abP{f:Nat->Int}(h1:1<=f 0)(h7:f 0<=10000000)(hd:∀i,0<=f i/\f (i+1)<=f i){n:Nat}(h2:2<=n)(akx:n<=100):SwOk ((List.range n).map (sumF f)) (n:Int):=by
 refine⟨by simp,by lia,by rw[range_getD (by lia)];rfl,λi Oj hi=>?_,λi Oj hi=>?_,λa b ha hb xR=>?_⟩
 ·rw[List.length_map,List.length_range] at hi;rw[range_getD hi];have:=Oi h1 hd i;have e:f 0*(i:Int)<=10000000*(i:Int):=Int.mul_le_mul_of_nonneg_right h7 (by lia)
  have:=this.1 Oj;lia
 ·rw[List.length_map,List.length_range] at hi;rw[range_getD hi,range_getD (by lia)]
  obtain⟨j,rfl⟩:∃j,i=j+1:=⟨i - 1,by lia⟩
  have:=(hd j).1;rw[sumF];show sumF f j<=_;lia
 ·rw[List.length_map,List.length_range] at xR;rw[range_getD xR,range_getD (by lia),range_getD (by lia)]
  exact Oh (λi=>(hd i).2) a b
structure qO(z:List (Int×Int))(aG sk:Int)(sw:List Int):Prop where
 zl:ZL z
 l1:1<=aG
 l2:aG<=1000000000
 l3:∀p∈z,aG % p.2=0
 k0:0<=sk
 k1:sk<aG
 so:SwOk sw (z.map (·.1)).sum
noncomputable def plW(z:List (Int×Int))(aG sk:Int)(sw:List Int)(nc:List (Int×Int)):Pl:=⟨counts z,aG,sk,sw,nc⟩
theorem qO.pl{z:List (Int×Int)}{aG sk:Int}{sw:List Int}(h:qO z aG sk sw)(nc:List (Int×Int)):jF (plW z aG sk sw nc):=abd h.zl h.l1 h.so
structure ZP(z:List (Int×Int)):Prop where
 r:∀p∈z,1<=p.1/\p.1<=3/\1<=p.2/\p.2<=8
 s2:2<=(z.map (·.1)).sum
theorem Ol:∀ {z:List (Int×Int)},(∀p∈z,1<=p.1/\p.1<=3)->0<=(z.map (·.1)).sum/\(z.map (·.1)).sum<=3*(z.length:Int)
 | [],_=>by simp
 | p::z,h=>by
  have ih:=Ol λq hq=>h q (List.mem_cons_of_mem _ hq);have:=h p List.mem_cons_self;rw[List.map_cons,List.sum_cons,List.length_cons];lia
theorem ZP.snoc{z:List (Int×Int)}(h:ZP z){p:Int×Int}(hp:1<=p.1/\p.1<=3/\1<=p.2/\p.2<=8):ZP (z++[p]):=by
 refine⟨λq hq=>?_,?_⟩
 ·rcases List.mem_append.mp hq with hq | hq
  ·exact h.r q hq
  ·rw[List.mem_singleton.mp hq];exact hp
 ·have:=h.s2;rw[List.map_append,List.sum_append];simp;lia
theorem abQ{z:List (Int×Int)}{i:Nat}{p:Int×Int}(h:z[i]? = some p):counts (z.take (i+1))=counts (z.take i)++List.replicate p.1.toNat p.2:=by
 rw[take_succ_get h];simp[counts]
theorem Om{z:List (Int×Int)}(zl:ZL z){x:Int}(h0:0<=x)(h1:x<900\/x<1000000000 / dM z):1<=dM z*(1+x)/\dM z*(1+x)<=1000000000/\∀p∈z,dM z*(1+x) % p.2=0:=by
 have hb:=xS (m:=60) (by decide) z λp hp=>(zl.ok.r p hp).2.2
 have hp:=zl.pr;have hm:∃m,1+x<=m/\dM z*m<=1000000000:=by
  rcases h1 with h1 | h1
  ·exact⟨900,by lia,by lia⟩
  ·exact⟨1000000000 / dM z,by lia,Int.mul_ediv_self_le (by lia)⟩
 obtain⟨m,m1,m2⟩:=hm;refine⟨?_,?_,λp hp=>Int.emod_eq_zero_of_dvd (Int.dvd_trans (NI hp) (Int.dvd_mul_right _ _))⟩
 ·have:=Int.mul_le_mul hb.1 (show 1<=1+x by lia) (by decide) (by lia);lia
 ·have:=Int.mul_le_mul (Int.le_refl (dM z)) m1 (by lia) (by lia);lia
theorem Zn.one{H:Hp}{l t:Addr}{c:Int×Int}(h:H t=some (.tup [.int c.1,.int c.2]))(nl:H l=none):Zn (upd H l (.lst [.ref t])) l [t] [c]:=by
 refine⟨aI,rfl,λi t' p e1 e2=>?_⟩;cases i with
 | zero =>
  simp at e1 e2;subst e1 e2;rw[aD (bX h nl)];exact h
 | succ i=>simp at e1
theorem Oo(v:Int):∀k:Nat,(List.replicate k [V.int v]).flatten=(List.replicate k v).map V.int
 | 0=>rfl
 | k+1=>by rw[List.replicate_succ,List.flatten_cons,Oo v k,List.replicate_succ,List.map_cons];rfl
noncomputable def cH(nc:List (Int×Int))(f m:Int):List (Int×Int):=(nc.drop f.toNat).take m.toNat
theorem abR{nc:List (Int×Int)}{f:Int}{i:Nat}{c:Int×Int}(h0:0<=f)(h:nc[(f+(i:Int)).toNat]? = some c):(nc.drop f.toNat).take (i+1)=(nc.drop f.toNat).take i++[c]:=by
 refine take_succ_get ?_;rw[List.getElem?_drop,show f.toNat+i=(f+(i:Int)).toNat by lia];exact h
noncomputable def abS(K:PySem.W.Frag)(cs:List Addr)(CA:Addr):Sp:=λvs H Q _=>∃(C p ap:Addr) (P:Pl) (fp:List Addr) (q:Ak) (m b dx:Addr),vs = [.ref p,.ref ap]/\C∈cs/\bY K C H p P fp/\dN K CA H ap q m b dx/\xZ P.nc.length q/\P.nc.length<=1000000/\
 ∀l ts H',ah H H'->H l=none->Zn H' l ts (cH P.nc q.first q.many)->Q (.ref l) H'
noncomputable def abT(K:PySem.W.Frag)(cs:List Addr)(CA:Addr):Sp:=λvs H Q _=>∃(C p ap:Addr) (k:Int) (P:Pl) (fp:List Addr) (q:Ak) (m b dx:Addr),vs = [.ref p,.int k,.ref ap]/\C∈cs/\bY K C H p P fp/\dN K CA H ap q m b dx/\xZ P.nc.length q/\P.nc.length<=1000000/\
 ∀l ts H',ah H H'->H l=none->Zn H' l ts (cH P.nc q.first q.many)->Q (.ref l) H'
structure Dr where
 n:Int
 q:Ak
 c:List (Int×Int)
noncomputable def ig(n:Int)(ap l:Addr):List (Str×V):=[("number",.int n),("ask",.ref ap),("cells",.ref l)]
structure gM(K:PySem.W.Frag)(CA CD:Addr)(H:Hp)(p:Addr)(d:Dr)(dx ap l:Addr)(ts:List Addr)(m b bC:Addr):Prop where
 o:H p=some (.ins CD dx (ig d.n ap l))
 a:dN K CA H ap d.q m b bC
 c:Zn H l ts d.c
theorem gM.same{K:PySem.W.Frag}{CA CD:Addr}{H H':Hp}{p:Addr}{d:Dr}{dx ap l:Addr}{ts:List Addr}{m b bC:Addr}(h:gM K CA CD H p d dx ap l ts m b bC)(s:ah H H'):gM K CA CD H' p d dx ap l ts m b bC:=⟨s _ _ h.o,h.a.same s,h.c.same s⟩
noncomputable def abU(K:PySem.W.Frag)(cs:List Addr)(CA CD:Addr):Sp:=λvs H Q _=>∃(C p pl ap dx:Addr) (n:Int) (P:Pl) (fp:List Addr) (q:Ak) (m b bC:Addr),vs = [.ref p,.ref pl,.int n,.ref ap]/\H p=some (.ins CD dx [])/\C∈cs/\bY K C H pl P fp/\p≠pl/\p∉fp/\dN K CA H ap q m b bC/\xZ P.nc.length q/\P.nc.length<=1000000/\
 ∀l ts H',H l=none->SameBut p H H'->gM K CA CD H' p ⟨n,q,cH P.nc q.first q.many⟩ dx ap l ts m b bC->Q .aN H'
structure eS(K:PySem.W.Frag)(CA CD:Addr)(H:Hp)(l:Addr)(ps:List Addr)(ds:List Dr):Prop where
 l:H l=some (.lst (ps.map V.ref))
 n:ps.length=ds.length
 t:∀(i:Nat) (p:Addr) (d:Dr),ps[i]? = some p->ds[i]? = some d->∃dx ap l ts m b bC,gM K CA CD H p d dx ap l ts m b bC
theorem eS.same{K:PySem.W.Frag}{CA CD:Addr}{H H':Hp}{l:Addr}{ps:List Addr}{ds:List Dr}(h:eS K CA CD H l ps ds)(s:ah H H'):eS K CA CD H' l ps ds :=
 ⟨s _ _ h.l,h.n,λi p d e1 e2=>let ⟨dx,ap,l,ts,m,b,bC,a⟩:=h.t i p d e1 e2;⟨dx,ap,l,ts,m,b,bC,a.same s⟩⟩
theorem abV(xs:List V)(k:Nat):nj xs none (some (k:Int))=xs.take k:=by
 unfold nj;have e:_H.fO xs.length 0 none=0:=rfl;have e2:_H.fO xs.length xs.length (some (k:Int))=min k xs.length:=by
  simp only[_H.fO];rw[if_neg (by lia)];simp
 rw[e,e2,List.drop_zero,Nat.sub_zero];by_cases h:k<=xs.length
 ·rw[Nat.min_eq_left h]
 ·rw[Nat.min_eq_right (by lia),List.take_of_length_le (Nat.le_refl _),List.take_of_length_le (by lia)]
theorem bA{N ps:List Str}{scope:Scope}(h:bw N ps scope:=by exact⟨rfl,rfl,rfl,by decide +kernel,rfl,by decide +kernel,by decide +kernel⟩):bw N ps scope:=h
class Oq where
 nx:St->Hp->Prop
noncomputable def Later[c:Oq](σ:St)(H:Hp):Prop:=c.nx σ H
noncomputable def abW(t:TS):TS:=λD σ H=>∃M:St->Hp->Prop,t { D with nx:=M } σ H/\∀eN H1,M eN H1->@Later ⟨D.nx⟩ eN H1
theorem nH{X:Cx}{st:Stmt}{t:TS}(h:PS X st t):PS X st (abW t):=aaO h
theorem aky{c:Oq}{x:Option V}{σ:St}{H:Hp}:@Later c (x::σ) H=c.nx (x::σ) H:=rfl
end _L
namespace _L
open PySem PySem.Spec PyProof.Rows PySem.W
section
variable{X:Cx}{pins:List (Addr×Obj)}{σ:St}{H:Hp}{s:Shared}
theorem Inv.yc{h':Heap}{tk:Nat}{k:Addr}{o o':Obj}(I:Inv X pins σ H s)(EZ:(k,o)∈pins)(hs:X.dh.heap.objs.size<=k)(hc:∀x c,X.env.cells.lookup x=some c->c≠k){fB:List (Addr×Obj)}(hp:∀p∈X.pn++fB,p.1≠k)(E1:∀p∈fB,p∈pins)
  (e:h'.get? k=some o') (hd:∀v,o'.data≠.cell v) (kk:∀b u,b≠k->s.heap.get? b=some u->h'.get? b=some u):Inv X ((k,o')::fB) σ H { s with heap:=h',toks:=tk }:=by
 have p0:=I.pin (k,o) (List.mem_append_right _ EZ);obtain⟨m,hm,_⟩:=id I.loc;have J:Inv X fB σ H s:=I.kK λp hp=>I.pin p (List.mem_append_right _ (E1 p hp));have ug:h'.Ns X.env.locals m:=by
  obtain⟨o2,es,ep,e2,r⟩:=hm;exact⟨o2,es,ep,kk _ _ (Ne.symm p0.2.2.1) e2,r⟩
 have J2:=J.chg (tk:=tk) hm ug p0.2.1 hs p0.2.2.1 hc hp ⟨_,e⟩ λb u _ hb q=>kk b u hb q;refine J2.kK λp E3=>?_;rcases List.mem_cons.mp E3 with z | z
 ·rw[z];exact⟨e,p0.2.1,p0.2.2.1,p0.2.2.2.1,hd⟩
 ·exact J2.pin p (List.mem_append_right _ z)
theorem Inv.Ot{h':Heap}{tk:Nat}{k:Addr}{o:Obj}(I:Inv X pins σ H s)(EZ:(k,o)∈pins)(hs:X.dh.heap.objs.size<=k)(hc:∀x c,X.env.cells.lookup x=some c->c≠k){fB:List (Addr×Obj)}(hp:∀p∈X.pn++fB,p.1≠k)(E1:∀p∈fB,p∈pins)
  (kk:∀b u,b≠k->s.heap.get? b=some u->h'.get? b=some u):Inv X fB σ H { s with heap:=h',toks:=tk }:=by
 have p0:=I.pin (k,o) (List.mem_append_right _ EZ);obtain⟨m,hm,_⟩:=id I.loc;have J:Inv X fB σ H s:=I.kK λp hp=>I.pin p (List.mem_append_right _ (E1 p hp));have ug:h'.Ns X.env.locals m:=by
  obtain⟨o2,es,ep,e2,r⟩:=hm;exact⟨o2,es,ep,kk _ _ (Ne.symm p0.2.2.1) e2,r⟩
 have nk:∀b v,H b=some v->b≠k:=λb v e z=>by rw[z,p0.2.1] at e;cases e
 refine J.step (g':=s.gens) (d':=s.drawn) (ch:=[k]) (λb z=>by rw[List.mem_singleton.mp z];exact⟨.inr hs,p0.2.2.1,hc,hp⟩) (λb o hb _ hk e _=>kk b o (by simpa using hk) e) (λb o hb _ hk e _=>⟨o.slots,kk b o (by simpa using hk) e⟩) (λ_ _ _ _ n=>n) (λb o hk e=>?_) (λ_ _ e=>e) (λ_ _ _ e=>e)
  (λb ps e=>⟨#[],by rw[e];simp⟩) (λm' EW=>?_) (λb v e=>(J.aL b v e).iy (λc o hc e'=>kk c o ?_ e') (λ_ e=>e) (λ_ _ e=>e)) J.bare
 ·exact⟨o,kk b o (by simpa using hk) e⟩
 ·obtain⟨o2,es,ep,e2,r⟩:=EW;exact⟨o2,es,ep,kk _ _ (Ne.symm p0.2.2.1) e2,r⟩
 ·rcases hc with z | z
  ·rw[z];exact nk b v e
  ·exact nk c _ z
variable{scope:Scope}{cl:List (Str×Addr)}{ps fs:List Str}{fv:List Nat}{qual name:Str}{f c' P l S It:Addr}{params:Arguments}{body:Expr}{te:TE}{pm dO:Value}{pos:Pos}{kv:Nat->List Int}{H1:Hp}{as:List Addr}
theorem yd:∀ {as:List Addr} {aC:List Value},Vals (as.map V.ref) aC->aC=as.map Value.ref
 | [],_,h=>by cases h;rfl
 | a::as,_,h=>by
  cases h with
  | cons r h=>cases r;rw[List.map_cons,yd h]
theorem abX(SS:je X scope cl ps fs fv)(qP:ps.length=1)(he:∀s H,PE (uf X X.A.in1 qual scope f c' cl (ps++fs) s H) body te)(pB:X.calm=true)(iR:X.A.in1.depth<recursionLimit)(hu:X.A.units+16<cLine)
  (hf:(f,kla_obj name qual params body scope cl pm c' dO)∈pins) (hc:H1 c' = some (nF c' qual)) (um:c'≠P) (jC:∀u,bindArgs (kla_fn name qual params body scope cl pm (.ref c') dO) ⟨[u],[]⟩=pure (ps.zip [u]))
  (hl:H1 l=some (.lst (as.map V.ref))) (qQ:l≠P)
  (m_:∀(j:Nat) (a:Addr) (H:Hp),as[j]? = some a->SameBut P H1 H->bS P pos qual H->te (pq σ [.ref a] fv) H λv H'=>∃k,v = .ref k/\H' k=some (.tup ((kv j).map V.int))/\SameBut P H H'/\bS P pos qual H')
  (two:∀b,b=S\/b=It->X.dh.heap.objs.size<=b/\(∀x c,X.env.cells.lookup x=some c->c≠b)/\∀p∈X.pn++pins,p.1≠b) (gu:S≠It)
  {R:Result->Shared->Prop} (hR:∀(i:Nat) (a:Addr) (H:Hp) (s:Shared),as[i]? = some a->(∀j,j<as.length->¬ _H.lexLt (kv j) (kv i)=true)->SameBut P H1 H->bS P pos qual H->Inv X pins σ H s->R (.ok (.ret (.ref a))) s) :
  ∀(r j i:Nat) (H:Hp) (s:Shared) (a ka:Addr) (c:Nat) (oI:Obj),as.length - (j+1)=r->j+1<=as.length->Inv X ((S,seqObj "list" #[.ref a,.ref ka] c)::(It,oI)::pins) σ H s->SameBut P H1 H->bS P pos qual H->s.heap.IsListIter It l (j+1)->as[i]? = some a->
   H ka=some (.tup ((kv i).map V.int))->(∀j',j'<=j->¬ _H.lexLt (kv j') (kv i)=true)->codeAny (model X.prog X.w) X.A (.builtin "min.loop" ⟨[.ref It,.ref f,.ref S],[]⟩) R s:=by
 have uo:(toString "min" ++ toString ".loop" : String) = "min.loop" := by decide
 have yf:∀(a:Array Value) (e:Nat) v,(seqObj "list" a e).data≠.cell v:=λa e v z=>by cases z
 have lst:∀ {fB:List (Addr×Obj)} {H:Hp} {s:Shared},Inv X fB σ H s->SameBut P H1 H->s.heap.IsList l (as.map Value.ref).toArray:=λI sb=>by
  obtain⟨aC,r,pl,_⟩:=I.list (aE.of (K:=X.K) (sb _ _ hl qQ));rw[← yd r];exact pl.isList
 have tS:=two S (.inl rfl);have tI:=two It (.inr rfl);have hsz:(as.map Value.ref).toArray.size=as.length:=by simp
 have Ou:∀ {oS:Obj},∀p∈X.pn++((S,oS)::pins),p.1≠It:=λp hp=>by
  rcases List.mem_append.mp hp with z | z
  ·exact tI.2.2 p (List.mem_append_left _ z)
  ·rcases List.mem_cons.mp z with z | z
   ·rw[z];exact gu
   ·exact tI.2.2 p (List.mem_append_right _ z)
 have pnS:∀ {oI:Obj},∀p∈X.pn++((It,oI)::pins),p.1≠S:=λp hp=>by
  rcases List.mem_append.mp hp with z | z
  ·exact tS.2.2 p (List.mem_append_left _ z)
  ·rcases List.mem_cons.mp z with z | z
   ·rw[z];exact gu.symm
   ·exact tS.2.2 p (List.mem_append_right _ z)
 intro r
 induction r with
 | zero =>
  intro j i H s a ka c oI hr hj I0 sb tab hit ha E4 qR;have hin:j+1=as.length:=by lia
  have hh:=I0.ok.hd pB;have pS:=I0.pin (S,seqObj "list" #[.ref a,.ref ka] c) (List.mem_append_right _ (List.mem_cons_self ..));refine codeAny_builtin PySem.F.entry_min_loop ?_;rw[Around.under_plainId PySem.F.plain_min_loop _]
  show wpAny _ X.A.in1 (seqItems? (.ref S) >>= _) _ _ _;refine wpAny_bind (wpAny_seqItems pS.1 rfl ?_)
  show wpAny _ X.A.in1 (tryCatch (pyNext (.ref It)) _ >>= _) _ _ _;refine wpAny_bind (wpAny_tryCatch (wpAny_pyNext_list_end (A:=X.A.in1) hh hit (lst I0 sb) (by rw[Array.getElem?_eq_none];rw[hsz];lia) λh' tU=>?_))
  have lg:=tU S _ gu pS.1;have J:=I0.Ot (tk:=s.toks) (k:=It) (o:=oI) (fB:=(S,seqObj "list" #[.ref a,.ref ka] c)::pins) (List.mem_cons_of_mem _ (List.mem_cons_self ..)) tI.1 tI.2.1 Ou (λp hp=>by
   rcases List.mem_cons.mp hp with z | z
   ·rw[z];exact List.mem_cons_self ..
   ·exact List.mem_cons_of_mem _ (List.mem_cons_of_mem _ z)) λb u hb e=>tU b u hb e
  show wpAny _ X.A.in1 (updateSeq S (λ_ => #[]) >>= _) _ _ _;refine wpAny_bind ?_;refine wpAny_updateSeq lg rfl (wpAny_bind (wpAny_letGo (wpAny_pure ?_)));refine hR i a H _ ha (λj' iE=>qR j' (by lia)) sb tab (J.Ot (tk:=s.toks) (k:=S) (o:=seqObj "list" #[.ref a,.ref ka] c) (List.mem_cons_self ..) tS.1 tS.2.1 tS.2.2 (λp hp=>List.mem_cons_of_mem _ hp) λb u hb e=>?_)
  exact(Heap.get?_update_other _ _ (Ne.symm hb)).trans e
 | succ r ih =>
  intro j i H s a ka c oI hr hj I0 sb tab hit ha E4 qR;have bT:j+1<as.length:=by lia
  have hh:=I0.ok.hd pB;have pS:=I0.pin (S,seqObj "list" #[.ref a,.ref ka] c) (List.mem_append_right _ (List.mem_cons_self ..));have hv:as[j+1]? = some as[j+1]:=List.getElem?_eq_getElem bT;generalize as[j+1] = b0 at hv;refine codeAny_builtin PySem.F.entry_min_loop ?_;rw[Around.under_plainId PySem.F.plain_min_loop _]
  show wpAny _ X.A.in1 (seqItems? (.ref S) >>= _) _ _ _;refine wpAny_bind (wpAny_seqItems pS.1 rfl ?_)
  show wpAny _ X.A.in1 (tryCatch (pyNext (.ref It)) _ >>= _) _ _ _;refine wpAny_bind (wpAny_tryCatch (wpAny_pyNext_list_item (A:=X.A.in1) hit (lst I0 sb) (x:=.ref b0) (by simp[hv]) λh' qF g_=>?_))
  obtain⟨iS,E5,oJ,qT⟩:=id qF;have lg:=g_.extBut S _ gu pS.1;have J0:=I0.yc (tk:=s.toks) (k:=It) (o:=oI) (o':=iS) (fB:=(S,seqObj "list" #[.ref a,.ref ka] c)::pins) (List.mem_cons_of_mem _ (List.mem_cons_self ..)) tI.1 tI.2.1 Ou (λp hp=>by
   rcases List.mem_cons.mp hp with z | z
   ·rw[z];exact List.mem_cons_self ..
   ·exact List.mem_cons_of_mem _ (List.mem_cons_of_mem _ z)) E5 (λv z=>by rw[qT] at z;cases z) λb u hb e=>g_.extBut b u hb e
  have J:Inv X ((S,seqObj "list" #[.ref a,.ref ka] c)::(It,iS)::pins) σ H { s with heap:=h',toks:=s.toks }:=J0.kK λp hp=>J0.pin p (List.mem_append_right _ (by
   rcases List.mem_cons.mp hp with z | z
   ·rw[z];exact List.mem_cons_of_mem _ (List.mem_cons_self ..)
   ·rcases List.mem_cons.mp z with z | z
    ·rw[z];exact List.mem_cons_self ..
    ·exact List.mem_cons_of_mem _ (List.mem_cons_of_mem _ z)))
  have pf:=J.pin _ (List.mem_append_right _ (List.mem_cons_of_mem _ (List.mem_cons_of_mem _ hf)));have nG:=N8 J.aL (sb _ _ hc um)
  show wpAny _ X.A.in1 (tryCatch (holding [.ref b0] (call (.ref f) [.ref b0])) _ >>= _) _ _ _;refine wpAny_bind (wpAny_tryCatch (wpAny_holding (wpAny_mono (N6 (us:=[.ref b0]) (vs:=[.ref b0]) SS J J.ok.frames (λ_=>hh) iR pf.1 nG (jC _) (.cons rfl .nil) (by simpa using qP.symm) (he _ H) (m_ (j+1) b0 H hv sb tab)) (λx g6 hq=>?_) λ_ _ hF=>hF.elim)))
  obtain⟨v,H2,J',rv,⟨kb,rfl,yg,Ov,pC⟩,_⟩:=hq;cases rv;have yh:SameBut P H1 H2:=sb.trans Ov;have Ow:H2 ka=some (.tup ((kv i).map V.int)):=Ov _ _ E4 (tab.ne E4 (by intro _ z;cases z))
  have uq:=J'.pin (S,seqObj "list" #[.ref a,.ref ka] c) (List.mem_append_right _ (List.mem_cons_self ..));have yi:=J'.pin (It,iS) (List.mem_append_right _ (List.mem_cons_of_mem _ (List.mem_cons_self ..)));have abY:g6.heap.IsListIter It l (j+1+1):=⟨iS,yi.1,oJ,qT⟩;obtain⟨i1,r1,q1,_⟩:=J'.tuple (bE.of (K:=X.K) yg);obtain⟨i2,r2,q2,_⟩:=J'.tuple (bE.of (K:=X.K) Ow)
  show wpAny _ X.A.in1 (tryCatch (holding [.ref b0,.ref kb] (richCompare .Lt (.ref kb) (.ref ka) >>= _)) _ >>= _) _ _ _;refine wpAny_bind (wpAny_tryCatch (wpAny_holding (wpAny_bind (_H.Zo q1 q2 (intsAre_of r1) (intsAre_of r2) (by show X.A.units+1<cLine;lia) ?_))))
  refine wpAny_bind (wpAny_holding (wpAny_truthy_bool ?_));refine wpAny_bind (wpAny_letGo (wpAny_pure ?_));cases kR:_H.lexLt (kv (j+1)) (kv i) with
  | true =>
   simp only[if_true];refine wpAny_bind ?_;refine wpAny_updateSeq uq.1 rfl (wpAny_bind (wpAny_letGo ?_));rw[uo];have ur:∀b u,b≠S->g6.heap.get? b=some u->(g6.heap.update S (Obj.mapSeq λ_ => #[.ref b0,.ref kb])).get? b=some u:=λb u hb e=>(Heap.get?_update_other _ _ (Ne.symm hb)).trans e;obtain⟨c2,jA⟩:∃c2,(g6.heap.update S (Obj.mapSeq λ_ => #[.ref b0,.ref kb])).get? S=some (seqObj "list" #[.ref b0,.ref kb] c2):=⟨_,get?_update_seq uq.1 λ_ => #[.ref b0,.ref kb]⟩;have J2:=J'.yc (tk:=g6.toks) (k:=S) (o:=seqObj "list" #[.ref a,.ref ka] c) (o':=seqObj "list" #[.ref b0,.ref kb] c2) (fB:=(It,iS)::pins) (List.mem_cons_self ..) tS.1 tS.2.1 pnS (λp hp=>List.mem_cons_of_mem _ hp) jA (yf _ _) ur;refine wpAny_pure ⟨plainId_quiet PySem.F.plain_min_loop _,ih (j+1) (j+1) H2 _ b0 kb c2 iS (by lia) bT J2 yh pC ⟨iS,ur _ _ gu.symm yi.1,oJ,qT⟩ hv yg λj' iE=>?_⟩
   by_cases e:j' = j+1
   ·rw[e];exact xV _
   ·exact abM (abL kR) (qR j' (by lia))
  | false =>
   simp only[Bool.false_eq_true,if_false];refine wpAny_bind (wpAny_letGo ?_);rw[uo];refine wpAny_pure ⟨plainId_quiet PySem.F.plain_min_loop _,ih (j+1) i H2 _ a ka c iS (by lia) bT J' yh pC abY ha Ow λj' iE=>?_⟩
   by_cases e:j' = j+1
   ·rw[e,kR];simp
   ·exact qR j' (by lia)
theorem abZ{Q:VK}(SS:je X scope cl ps fs fv)(qP:ps.length=1)(he:∀s H,PE (uf X X.A.in1 qual scope f c' cl (ps++fs) s H) body te)(pB:X.calm=true)(iR:X.A.in1.depth<recursionLimit)(hu:X.A.units+16<cLine)
  (I:Inv X ((f,kla_obj name qual params body scope cl pm c' dO)::pins) σ H s) (hc:H c' = some (nF c' qual)) (um:c'≠P) (tab:bS P pos qual H) (jC:∀u,bindArgs (kla_fn name qual params body scope cl pm (.ref c') dO) ⟨[u],[]⟩=pure (ps.zip [u]))
  (hl:H l=some (.lst (as.map V.ref))) (fV:0<as.length)
  (m_:∀(j:Nat) (a:Addr) (H2:Hp),as[j]? = some a->SameBut P H H2->bS P pos qual H2->te (pq σ [.ref a] fv) H2 λv H'=>∃k,v = .ref k/\H' k=some (.tup ((kv j).map V.int))/\SameBut P H2 H'/\bS P pos qual H')
  (q:∀(i:Nat) (a:Addr) (H':Hp),as[i]? = some a->(∀j,j<as.length->¬ _H.lexLt (kv j) (kv i)=true)->SameBut P H H'->bS P pos qual H'->Q (.ref a) H') :
  wpAny (model X.prog X.w) X.A (call (.builtin "min") [.ref l] [(Str.ofString "key",.ref f)]) (EP X pins σ Q) X.xe s:=by
 have uo:(toString "min" ++ toString ".loop" : String) = "min.loop" := by decide
 have hh:=I.ok.hd pB;have qQ:l≠P:=tab.ne hl (by intro _ z;cases z)
 have yf:∀(a:Array Value) (e:Nat) v,(seqObj "list" a e).data≠.cell v:=λa e v z=>by cases z
 obtain⟨aC,rv,pl,_⟩:=I.list (aE.of (K:=X.K) hl);have ei:=yd rv;subst ei;have qU:=pl.isList;refine kmk_tree PySem.F.kind_min PySem.F.plain_min PySem.F.entry_min (kmk_min_key _ _) ?_
 show wpAny _ X.A.in1 (Builtin.Builtins.bindParams "min" ["key", "default"] 0 ⟨[],[(Str.ofString "key",.ref f)]⟩ >>= _) _ _ s;refine wpAny_bind (wpAny_of_eq (show Builtin.Builtins.bindParams "min" ["key", "default"] 0 ⟨[],[(Str.ofString "key",.ref f)]⟩=pure [some (.ref f),none] from rfl) ?_);refine wpAny_bind (wpAny_pure ?_);refine wpAny_bind (wpAny_pyIter_list qU ?_);refine wpAny_bind (wpAny_newList ?_ (Nat.zero_le _));rw[uo];refine wpAny_pure ⟨plainId_quiet PySem.F.plain_min_loop _,?_⟩;have k1:∀b o,s.heap.get? b=some o->(s.heap.push { cls:=.type "list_iterator",data:=.fields #[.ref l,.int 0 0] }).get? b=some o:=λb o e=>Heap.get?_push_of_some _ e;have gI:=Heap.get?_push_size s.heap (o:=({ cls:=.type "list_iterator",data:=.fields #[.ref l,.int 0 0] }:Obj)) rfl;have z1:(s.heap.push { cls:=.type "list_iterator",data:=.fields #[.ref l,.int 0 0] }).objs.size=s.heap.objs.size+1:=size_push' ..;generalize s.heap.push { cls:=.type "list_iterator",data:=.fields #[.ref l,.int 0 0] }=h1 at k1 gI z1 ⊢;have k2:∀b o,h1.get? b=some o->(h1.push (seqObj "list" #[] 0)).get? b=some o:=λb o e=>Heap.get?_push_of_some _ e;have gS:=Heap.get?_push_size h1 (o:=seqObj "list" #[] 0) rfl;have Ox:=k2 _ _ gI;have kk:∀b o,s.heap.get? b=some o->(h1.push (seqObj "list" #[] 0)).get? b=some o:=λb o e=>k2 b o (k1 b o e);have I1:=I.kept (t':=s.toks) kk;have E6:s.heap.objs.size<=s.heap.objs.size:=Nat.le_refl _;have yj:s.heap.objs.size<=h1.objs.size:=by lia
 have gu:h1.objs.size≠s.heap.objs.size:=by lia
 have own:∀b,s.heap.objs.size<=b->X.dh.heap.objs.size<=b/\(∀x c,X.env.cells.lookup x=some c->c≠b)/\∀p∈X.pn++((f,kla_obj name qual params body scope cl pm c' dO)::pins),p.1≠b:=λb hb=>by
  refine⟨Nat.le_trans I.sz hb,λx c e=>?_,λp hp=>Nat.ne_of_lt (Nat.lt_of_lt_of_le (Heap.lt_size (I.pin p hp).1) hb)⟩;obtain⟨v,o,z,_⟩:=I.cell x c e;exact Nat.ne_of_lt (Nat.lt_of_lt_of_le (Heap.lt_size z) hb)
 show codeAny _ _ _ _ { s with heap:=h1.push (seqObj "list" #[] 0),toks:=s.toks };have I2:Inv X ((h1.objs.size,seqObj "list" #[] 0)::(s.heap.objs.size,{ cls:=.type "list_iterator",data:=.fields #[.ref l,.int 0 0] })::(f,kla_obj name qual params body scope cl pm c' dO)::pins) σ H { s with heap:=h1.push (seqObj "list" #[] 0),toks:=s.toks }:=by
  refine I1.kK λp hp=>?_;rcases List.mem_cons.mp hp with z | hp
  ·rw[z];exact⟨gS,I.aL.fresh yj,Nat.ne_of_gt (Nat.lt_of_lt_of_le I.lt yj),I.sJ yj,yf _ _⟩
  ·rcases List.mem_cons.mp hp with z | hp
   ·rw[z];exact⟨Ox,I.aL.fresh E6,Nat.ne_of_gt I.lt,I.sJ E6,λv z=>by cases z⟩
   ·exact I1.pin p (List.mem_append_right _ hp)
 have o1:=own s.heap.objs.size E6;have o2:=own h1.objs.size yj;clear gI k1 z1;generalize h1.objs.size=S at *
 generalize s.heap.objs.size=It at *
 generalize h1.push (seqObj "list" #[] 0)=h2 at *
 have lst:∀ {fB:List (Addr×Obj)} {H':Hp} {s:Shared},Inv X fB σ H' s->SameBut P H H'->s.heap.IsList l (as.map Value.ref).toArray:=λI sb=>by
  obtain⟨aC,r,pl,_⟩:=I.list (aE.of (K:=X.K) (sb _ _ hl qQ));rw[← yd r];exact pl.isList
 have hv:as[0]? = some as[0]:=List.getElem?_eq_getElem fV;generalize as[0] = b0 at hv;have hit:h2.IsListIter It l 0:=⟨_,Ox,rfl,rfl⟩;have refl:SameBut P H H:=λ_ _ e _=>e;refine codeAny_builtin PySem.F.entry_min_loop ?_;rw[Around.under_plainId PySem.F.plain_min_loop _]
 show wpAny _ X.A.in1 (seqItems? (.ref S) >>= _) _ _ _;refine wpAny_bind (wpAny_seqItems gS rfl ?_)
 show wpAny _ X.A.in1 (tryCatch (pyNext (.ref It)) _ >>= _) _ _ _;refine wpAny_bind (wpAny_tryCatch (wpAny_pyNext_list_item (A:=X.A.in1) hit (lst I2 refl) (x:=.ref b0) (by simp[hv]) λh' qF g_=>?_))
 obtain⟨iS,E5,oJ,qT⟩:=id qF;have lg:=g_.extBut S _ gu gS;have J0:=I2.yc (tk:=s.toks) (k:=It) (o':=iS) (fB:=(S,seqObj "list" #[] 0)::(f,kla_obj name qual params body scope cl pm c' dO)::pins) (List.mem_cons_of_mem _ (List.mem_cons_self ..)) o1.1 o1.2.1 (λp hp=>by
  rcases List.mem_append.mp hp with z | z
  ·exact o1.2.2 p (List.mem_append_left _ z)
  ·rcases List.mem_cons.mp z with z | z
   ·rw[z];exact gu
   ·exact o1.2.2 p (List.mem_append_right _ z)) (λp hp=>by
  rcases List.mem_cons.mp hp with z | z
  ·rw[z];exact List.mem_cons_self ..
  ·exact List.mem_cons_of_mem _ (List.mem_cons_of_mem _ z)) E5 (λv z=>by rw[qT] at z;cases z) λb u hb e=>g_.extBut b u hb e
 have pf:=J0.pin _ (List.mem_append_right _ (List.mem_cons_of_mem _ (List.mem_cons_of_mem _ (List.mem_cons_self ..))));have nG:=N8 J0.aL hc
 show wpAny _ X.A.in1 (tryCatch (holding [.ref b0] (call (.ref f) [.ref b0])) _ >>= _) _ _ _;refine wpAny_bind (wpAny_tryCatch (wpAny_holding (wpAny_mono (N6 (us:=[.ref b0]) (vs:=[.ref b0]) SS J0 J0.ok.frames (λ_=>hh) iR pf.1 nG (jC _) (.cons rfl .nil) (by simpa using qP.symm) (he _ H) (m_ 0 b0 H hv refl tab)) (λx g6 hq=>?_) λ_ _ hF=>hF.elim)))
 obtain⟨v,H2,J',rv,⟨kb,rfl,yg,yh,pC⟩,_⟩:=hq;cases rv;have yi:=J'.pin (It,iS) (List.mem_append_right _ (List.mem_cons_self ..));have uq:=J'.pin (S,seqObj "list" #[] 0) (List.mem_append_right _ (List.mem_cons_of_mem _ (List.mem_cons_self ..)))
 show wpAny _ X.A.in1 (updateSeq S (λ_ => #[.ref b0,.ref kb]) >>= _) _ _ _;refine wpAny_bind ?_;refine wpAny_updateSeq uq.1 rfl ?_;rw[uo];have ur:∀b u,b≠S->g6.heap.get? b=some u->(g6.heap.update S (Obj.mapSeq λ_ => #[.ref b0,.ref kb])).get? b=some u:=λb u hb e=>(Heap.get?_update_other _ _ (Ne.symm hb)).trans e;obtain⟨c2,jA⟩:∃c2,(g6.heap.update S (Obj.mapSeq λ_ => #[.ref b0,.ref kb])).get? S=some (seqObj "list" #[.ref b0,.ref kb] c2):=⟨_,get?_update_seq uq.1 λ_ => #[.ref b0,.ref kb]⟩;have J2:=J'.yc (tk:=g6.toks) (k:=S) (o:=seqObj "list" #[] 0) (o':=seqObj "list" #[.ref b0,.ref kb] c2) (fB:=(It,iS)::(f,kla_obj name qual params body scope cl pm c' dO)::pins) (List.mem_cons_of_mem _ (List.mem_cons_self ..)) o2.1 o2.2.1 (λp hp=>by
  rcases List.mem_append.mp hp with z | z
  ·exact o2.2.2 p (List.mem_append_left _ z)
  ·rcases List.mem_cons.mp z with z | z
   ·rw[z];exact gu.symm
   ·exact o2.2.2 p (List.mem_append_right _ z)) (λp hp=>by
  rcases List.mem_cons.mp hp with z | z
  ·rw[z];exact List.mem_cons_self ..
  ·exact List.mem_cons_of_mem _ (List.mem_cons_of_mem _ z)) jA (yf _ _) ur
 refine wpAny_pure ⟨plainId_quiet PySem.F.plain_min_loop _,abX (kv:=kv) (S:=S) (It:=It) (pins:=(f,kla_obj name qual params body scope cl pm c' dO)::pins) SS qP he pB iR hu (List.mem_cons_self ..) hc um jC hl qQ m_ (λb hb=>?_) gu (λi a H' s3 ha qR sb yl I3=>?_) _ 0 0 H2 _ b0 kb c2 iS rfl fV J2 yh pC ⟨iS,ur _ _ gu.symm yi.1,oJ,qT⟩ hv yg λj' iE=>?_⟩
 ·rcases hb with z | z
  ·rw[z];exact o2
  ·rw[z];exact o1
 ·exact⟨.ref a,H',I3.kK λp hp=>I3.pin p (List.mem_append_right _ (List.mem_cons_of_mem _ hp)),rfl,q i a H' ha qR sb yl⟩
 ·rw[show j' = 0 by lia];exact xV _
noncomputable def ab0(P:Addr)(pos:Pos)(qual:Str)(te:TE)(fv:List Nat)(tl:TE):TE:=λσ H Q=>tl σ H λx H1=>∃(l:Addr) (as:List Addr) (kv:Nat->List Int),x = .ref l/\H1 l=some (.lst (as.map V.ref))/\0<as.length/\bS P pos qual H1/\
 (∀(j:Nat) (a:Addr) (H2:Hp),as[j]? = some a->SameBut P H1 H2->bS P pos qual H2->te (pq σ [.ref a] fv) H2 λv H'=>∃k,v = .ref k/\H' k=some (.tup ((kv j).map V.int))/\SameBut P H2 H'/\bS P pos qual H')/\
 ∀(i:Nat) (a:Addr) (H':Hp),as[i]? = some a->(∀j,j<as.length->¬ _H.lexLt (kv j) (kv i)=true)->SameBut P H1 H'->bS P pos qual H'->Q (.ref a) H'
theorem E7{c:Addr}{e:Expr}{tl:TE}{p1 p4 kp:Pos}(hgS:Gl X "min")(hmS:X.mg "min" = none)(B:aj X.mg X.base c P)(nG:X.env.code = .ref c)(SS:je X scope cl ps fs fv)(qP:ps.length=1)
  (ab1:defaultsOf params X.env=([],[])) (hq:X.env.qual ++ "<lambda>" = qual) (jC:∀c' pm dO u,bindArgs (kla_fn "<lambda>" qual params body scope cl pm (.ref c') dO) ⟨[u],[]⟩=pure (ps.zip [u]))
  (he:∀f c' s H,PE (uf X X.A.in1 qual scope f c' cl (ps++fs) s H) body te) (pB:X.calm=true) (iR:X.A.in1.depth<recursionLimit) (hu:X.A.units+16<cLine) (hl:PE X e tl)
  (hs:starEach [e] X.env = [(false,eval e X.env)]:=by rfl) :
  PE X (.Call (.Name "min" p1) [e] [⟨some "key",.Lambda params body scope pos,kp⟩] p4) (ab0 P pos qual te fv tl):=by
 intro pins s σ H Q I h;refine wpAny_Call_Name_kw (jQ I hgS hmS boot_min (callWith_kw (he:=by rw[hs];rfl) (hplain:=by rw[hs];rfl) ?_))
 rw[hs];refine Calls.spliced_cons (aM (hl pins s σ H _ I h) λu s1 ⟨v,H1,I1,r1,q1⟩=>?_);obtain⟨l,as,kv,e,qV,fV,tab,m_,q⟩:=q1;subst e;cases r1;refine Calls.spliced_nil ?_;refine kws_cons (kla_eval ab1 ?_);rw[hq];refine abG B nG SS.kY I1 tab λf c' dO pm H' s' J sb pC hc=>kws_nil ?_;have um:c'≠P:=by
  obtain⟨fj,z,_⟩:=pC;exact qg hc z (by intro y;cases y)
 have qQ:l≠P:=tab.ne qV (by intro _ z;cases z)
 exact abZ (kv:=kv) SS qP (he f c') pB iR hu J hc um pC (jC c' pm dO) (sb _ _ qV qQ) fV (λj a H2 ha pD E8=>m_ j a H2 ha (sb.trans pD) E8) λi a H2 ha hb pD E8=>q i a H2 ha hb (sb.trans pD) E8
end
end _L
namespace _L
open PySem PySem.Spec PyProof.Rows
section
variable{X:Cx}{pins:List (Addr×Obj)}{σ:St}{H:Hp}{s:Shared}{scope:Scope}{cl:List (Str×Addr)}{N:List Str}{nt:Nat}{fv:List Nat}{fp:List Addr}
end
section
variable{X:Cx}{tg iter elt:Expr}{ifs:List Expr}{scope:Scope}{cl:List (Str×Addr)}{N:List Str}{nt:Nat}{fv:List Nat}{pos:Pos}{wi:TI}{g:TG}{tt:TT}{te:TE}
end
noncomputable def T1(m:Nat)(led:Bool):SetTable:={ mask:=7,place := #[m % 8],dummies := #[],finger:=0,led,moves:=0,plain:=true }
noncomputable def ym(m n:Nat):Nat:=if n % 8=m % 8 then(5*(n % 8)+1) % 8 else n % 8
noncomputable def T2(m n:Nat)(led:Bool):SetTable:={ mask:=7,place:=if ym m n<m % 8 then #[ym m n,m % 8] else #[m % 8,ym m n],dummies := #[],finger:=0,led,moves:=0,plain:=true }
noncomputable def xM(m n:Nat)(y x:Value):Array (Int×Value):=if ym m n<m % 8 then #[((n:Int),x),((m:Int),y)] else #[((m:Int),y),((n:Int),x)]
section
variable{prog:Program}{w:World}{A:Around}{E:Value->Shared->Prop}{s:Shared}{a:Addr}{es Eu:Array (Int×Value)}{ep:Nat}{t t1:SetTable}{n:Int}{tk:Tok}
end
section
variable{prog:Program}{w:World}{A:Around}{R:Result->Shared->Prop}{s:Shared}{l I S:Addr}{m n:Nat}{tm tn:Tok}{led:Bool}
end
section
variable{prog:Program}{w:World}{A:Around}{E:Value->Shared->Prop}{s:Shared}
end
section
variable{prog:Program}{w:World}{A:Around}{E:Value->Shared->Prop}{s:Shared}{it d:Addr}{slot i n ep:Nat}{es:Array (Int×Value)}{t:SetTable}
end
section
variable{prog:Program}{w:World}{A:Around}{E:Value->Shared->Prop}{s:Shared}{d:Addr}{ep m n:Nat}{es:Array (Int×Value)}{tm tn:Tok}
noncomputable def ab2(m n:Nat):List Int:=if m=n then [(m:Int)] else [(m:Int),(n:Int)]
end
section
variable{X:Cx}{e:Expr}{tl:TE}{p1 p2 p3 p4:Pos}
noncomputable def akz(K:PySem.W.Frag)(tl:TE):TE:=λσ H Q=>tl σ H λx H1=>∃(l:Addr) (m n:Nat),x = .ref l/\aE K H1 l [.int (m:Int),.int (n:Int)]/\m<32/\n<32/\
 ∀(L:Addr) (ns:List Int),H1 L=none->ns.Perm (ab2 m n)->ns.Pairwise (·<=·)->Q (.ref L) (upd H1 L (.lst (ns.map V.int)))
end
structure qW(K:PySem.W.Frag)(C:Addr):Prop where
 makes:PySem.W.makesIn K C=true
 init:PySem.W.findIn K (.ref C) "__init__" = some (some (.builtin "object.__init__"))
 kp:PySem.W.keepIn K (.ref C)=true
noncomputable def ab3(C:Addr):TE:=λ_ H Q=>∀x dx,H x=none->H dx=none->dx≠x->Q (.ref x) (upd (upd H dx (.own x)) x (.ins C dx []))
section
variable{X:Cx}{C:Addr}{x:Str}{p pos:Pos}
theorem ab4{pins:List (Addr×Obj)}{σ:St}{H:Hp}{s:Shared}{Q:VK}(M:qW X.K C)(I:Inv X pins σ H s)
  (h:∀x dx,H x=none->H dx=none->dx≠x->Q (.ref x) (upd (upd H dx (.own x)) x (.ins C dx []))) :
  wpAny (model X.prog X.w) X.A (call (.ref C) []) (EP X pins σ Q) X.xe s:=by
 have hq:=h (s.heap.objs.size+1) s.heap.objs.size (I.aL.fresh (Nat.le_succ _)) (I.aL.fresh (Nat.le_refl _)) (Nat.ne_of_lt (Nat.lt_succ_self _));have I2:=Inv.made (C:=C) I;have Y:=PySem.W.makes_of (M:=model X.prog X.w) I.cK M.makes;refine wpAny_call (YM I.cK M.makes M.init (λself=>PySem.W.Looks.of_pure (PySem.W.oi_bind self)) ?_);have e2:((s.heap.push PySem.W.emptyDict).push (PySem.W.instObj C s.heap.objs.size)).get? (s.heap.objs.size+1)=some (PySem.W.instObj C s.heap.objs.size):=by
  have:=Heap.get?_push_size (s.heap.push PySem.W.emptyDict) (o:=PySem.W.instObj C s.heap.objs.size) rfl;rwa [Heap.size_push] at this
 have t1:PySem.W.Looks (model X.prog X.w) ((s.heap.push PySem.W.emptyDict).push (PySem.W.instObj C s.heap.objs.size)) (typeOf (.ref (s.heap.objs.size+1))) (.ref C):=(PySem.W.Looks.ld e2).andThen .now;have t2:PySem.W.Looks (model X.prog X.w) ((s.heap.push PySem.W.emptyDict).push (PySem.W.instObj C s.heap.objs.size)) (isInstance (.ref (s.heap.objs.size+1)) (.type "object")) true:=t1.andThen (Y.top.keeps λb o e=>Heap.get?_push_of_some _ (Heap.get?_push_of_some _ e));refine codeAny_call_builtin PySem.W.oi_plain PySem.W.entry_oi (@PySem.W.check_slot (model X.prog X.w) _ _ _ "object.__init__" "object" "__init__" (.ref (s.heap.objs.size+1)) [] [] _ PySem.W.oi_kind PySem.W.oi_split t2 (PySem.W.oi_args (.ref (s.heap.objs.size+1))) ?_);rw[PySem.W.oi_run];exact wpAny_pure (And.intro rfl ⟨V.ref (s.heap.objs.size+1),_,I2,rfl,hq⟩)
theorem E9(M:qW X.K C)(hg:Gl X x)(hm:X.mg x=some (.ref C))(i7:(x == ("__debug__" : Str))=false:=by decide):PE X (.Call (.Name x p) [] [] pos) (ab3 C):=by
 intro pins s σ H Q I h;refine wpAny_Call_Name_kw (qm I hg hm ?_ i7);exact PySem.W.callWith_K0 I.cK M.kp (ab4 M I h)
end
noncomputable def ab5(uu:List Addr)(pF:Sp)(uv:List Addr)(uw:Sp)(m:Str)(E:XK)(ta:TE)(t:TA):TE:=λσ H Q=>ta σ H λx H1=>∃C a dx fs,x = .ref a/\H1 a=some (.ins C dx fs)/\fs.lookup m=none/\
 ((C∈uu/\t σ H1 λvs H2=>pF (x::(vs++[])) H2 Q E)\/(C∈uv/\t σ H1 λvs H2=>uw (x::(vs++[])) H2 Q E))
section
variable{X:Cx}{CX:e9}{k1 k2:Nat}{f1 f2:Addr}{uu uv:List Addr}{qX qY:FuncData}{E_ ux:List Str}{pF uw:Sp}{E:XK}{m:Str}{pos apos:Pos}{o e:Expr}{es:List Expr}{ta:TE}{t:TA}
theorem ab6{pl:Sem Bool}(ho:PE X o ta)(fW:∀C∈uu,bZ X.K C/\Meth X.K C m f1)(F1:aW X.prog X.w X.K X.mg X.base CX k1 f1 qX E_ pF)(hr1:cB k1 X.A)(hb1:Binds X.K qX E_ [])
  (jA:∀C∈uv,bZ X.K C/\Meth X.K C m f2) (F2:aW X.prog X.w X.K X.mg X.base CX k2 f2 qY ux uw) (hr2:cB k2 X.A) (l7:Binds X.K qY ux []) (hx:Passes CX X E) (ha:PA X (e::es) t)
  (gW:starEach (e::es) X.env=(false,eval e X.env)::starEach es X.env:=by rfl) (fF:(backTo pos (starEach es X.env)).any (·.1)=false:=by rfl)
  (lZ:eval (.Call (.Attribute o m apos) (e::es) [] pos) X.env=(do
   let ov ← eval o X.env
   standAt apos.atName
   let (f,first) ← holding [ov] (getMethod ov m pl)
   callWith pos f first (backTo pos (starEach (e::es) X.env)) (backToKw pos (keywordEach [] X.env))):=by rfl):PE X (.Call (.Attribute o m apos) (e::es) [] pos) (ab5 uu pF uv uw m E ta t):=by
 intro pins s σ H Q I h;refine PySem.W.methodCall_KW (pl:=pl) (aM (ho pins s σ H _ I h) λu s1 hz=>?_) lZ;obtain⟨x,H1,I1,rx,C,a,dx,fs,ex,ea,hl,q⟩:=hz;subst ex;cases (show u=Value.ref a from rx);rcases q with⟨hC,q⟩ | ⟨hC,q⟩
 ·obtain⟨c1,c2⟩:=fW C hC;refine ng I1 ea c1 c2 hl (PySem.W.callWith_K (first:=[.ref a]) (h₀:=X.base) I.ok.mod.kI c2.kp (aM (ha pos pins s1 σ H1 _ I1 q) λus s2 hw=>?_) gW fF)
  obtain⟨vs,H2,I2,r,q2⟩:=hw;exact⟨I2.cK,lU (us:=.ref a::us) (vs:=.ref a::vs) F1 hr1 hb1 .nil hx I2 (.cons rfl r) q2⟩
 ·obtain⟨c1,c2⟩:=jA C hC;refine ng I1 ea c1 c2 hl (PySem.W.callWith_K (first:=[.ref a]) (h₀:=X.base) I.ok.mod.kI c2.kp (aM (ha pos pins s1 σ H1 _ I1 q) λus s2 hw=>?_) gW fF)
  obtain⟨vs,H2,I2,r,q2⟩:=hw;exact⟨I2.cK,lU (us:=.ref a::us) (vs:=.ref a::vs) F2 hr2 l7 .nil hx I2 (.cons rfl r) q2⟩
end
noncomputable def iT(ns:List Int)(k:Int):Int:=Ex ns k+1009*k
noncomputable def cM(c t m:Int):Int:=(c+7)*(1327217885+715225739*t*t) % 2147483629 % m
theorem iU(c t:Int){m:Int}(h:0<m):0<=cM c t m/\cM c t m<m:=⟨Int.emod_nonneg _ (by lia),Int.emod_lt_of_pos _ h⟩
noncomputable def jf(K:PySem.W.Frag):Sp:=λvs H Q _=>∃(a:Addr) (ns:List Int) (k:Int),vs = [.ref a,.int k]/\aE K H a (ns.map V.int)/\ns.length<=63/\0<=k/\k<=1000/\Q (.int (iT ns k)) H
noncomputable def fH:Sp:=λvs H Q _=>∃(c t m:Int),vs = [.int c,.int t,.int m]/\0<=t/\t<=1000/\0<m/\Q (.int (cM c t m)) H
noncomputable def ir(c s0:Int):Nat->Int
 | 0=>s0
 | i+1=>ir c s0 i - cM c (24+(1+(i:Int))) (ir c s0 i / 2+1)
theorem Oz(c:Int){s0:Int}(h:1<=s0):∀i,0<=ir c s0 i/\ir c s0 (i+1)<=ir c s0 i:=by
 have h0:∀i,0<=ir c s0 i:=λi=>by
  induction i with
  | zero=>simp only[ir];lia
  | succ i ih =>
   rw[ir];have:=(iU c (24+(1+(i:Int))) (m:=ir c s0 i / 2+1) (by lia)).2
   lia
 intro i;refine⟨h0 i,?_⟩;have:=h0 i;rw[ir];have:=(iU c (24+(1+(i:Int))) (m:=ir c s0 i / 2+1) (by lia)).1
 lia
noncomputable def ab7(K:PySem.W.Frag):Sp:=λvs H Q _=>∃(c m:Int),vs = [.int c,.int m]/\2<=m/\m<=60/\∀l sw H',ah H H'->H l=none->H' l=some (.lst (sw.map V.int))->SwOk sw m->Q (.ref l) H'
noncomputable def ab8(K:PySem.W.Frag):Sp:=λvs H Q _=>∃(c:Int),vs = [.int c]/\∀l ts z H',ah H H'->H l=none->Zn H' l ts z->ZL z->Q (.ref l) H'
theorem ZP.zl5{z:List (Int×Int)}(h:ZP z)(h1:1<=z.length)(h5:z.length<=5):ZL z:=by
 have s:=Ol λp hp=>⟨(h.r p hp).1,(h.r p hp).2.1⟩;have s2:=h.s2;refine⟨⟨h1,by lia,λp hp=>?_,s2,by lia⟩,?_,by lia⟩
 ·have:=h.r p hp;lia
 ·have b:=(xS (m:=8) (by decide) z λp hp=>(h.r p hp).2.2).2
  have:=NJ (m:=8) (by decide) h5
  have e:(8:Int) ^ 5=32768:=by decide
  lia
theorem ab9{a b:Int}(a0:2<=a)(a1:a<=3)(b0:1<=b)(b1:b<=60):ZL [(a,b)]:=by
 refine⟨⟨by simp,by simp,?_,?_,?_⟩,?_,?_⟩
 ·intro p hp;rw[List.mem_singleton.mp hp];dsimp only;lia
 ·simp;lia
 ·simp;lia
 ·rw[ED];simp[dM];lia
 ·simp;lia
section
variable{ta:TA}{g:TG}{tb:TS}{D:Ends}{σ:St}{H:Hp}
noncomputable def yp(j:Int)(g:TG)(tb:TS)(D:Ends)(σ:St)(H:Hp):Prop := -(2 ^ 62)<=j/\j<2 ^ 62/\∃W:Nat->Nat->St->Hp->Prop,(∃m,W 0 m σ H)/\∀i m σ H,W i m σ H->
 ((kN 0 j.toNat).stop i H/\D.nx σ H)\/((kN 0 j.toNat).go i H/\∃N:St->Hp->Prop,(∀bz H',N bz H'->∃m',m' < m/\W (i+1) m' bz H')/\∀x H',(kN 0 j.toNat).kL i H x H'->g x σ H' λaq H2=>tb { D with nx:=N,ct:=N,bk:=D.nx } aq H2)
theorem rrG(h:ta σ H λvs H1=>∃j:Int,vs = [.int j]/\yp j g tb D σ H1):iM (qp ta) g tb D σ H:=h
theorem yp.by(n:Int)(Pv:Nat->St->Hp->Prop)(NH : -1000000000000<n)(hn:n<1000000000000)(h0:Pv 0 σ H)
  (hs:∀i σ H (N:St->Hp->Prop),(∀σ H,Pv (i+1) σ H->N σ H)->i<n.toNat->Pv i σ H->g (.int (i:Int)) σ H λaq H2=>tb { D with nx:=N,ct:=N,bk:=D.nx } aq H2) (hd:∀σ H,Pv n.toNat σ H->D.nx σ H):yp n g tb D σ H:=by
 have h:=NG (ta:=λ_ H Q=>Q [.int n] H) (g:=g) (tb:=tb) (D:=D) (σ:=σ) (H:=H) n Pv (λQ q=>q) NH hn h0 hs hd;obtain⟨j,e,h⟩:=h;cases e;exact h
end
structure ab_(H:Hp)(t:Addr)(q:Ak)(m b:Addr):Prop where
 o:H t=some (.tup [.str q.kind,.int q.first,.int q.many,.ref m,.int q.at_,.int q.k9,k_ q.gK,.ref b,.bl q.early])
 ms:H m=some (.tup (q.marks.map V.int))
 bh:H b=some (.tup (q.behind.map V.int))
structure acd(total:Int)(q:Ak):Prop where
 k:q.kind = "rest"\/q.kind = "read"\/q.kind = "write"
 r:q.kind = "rest"->q=⟨"rest",0,0,[],q.at_,0,none,[],false⟩
 f0:q.kind≠"rest"->0<=q.first/\1<=q.many/\q.many<=16/\q.first+q.many<=total
 a0:0<=q.at_
 s0:0<=q.k9/\q.k9<=20
 l0:∀x,q.gK=some x->0<=x/\x<=10000000000000
 b0:kg q.behind
 m0:∀x∈q.marks,0<=x/\x<=1000000000
 mr:q.kind = "read"->q.marks = []/\q.early=false
 mw:q.kind = "write"->(q.marks.length:Int)=q.many
structure ace(K:PySem.W.Frag)(CA CD:Addr)(H:Hp)(D t:Addr)(p:Dr)(tk d m b dx ap l:Addr)(ts:List Addr)(m' b' bC:Addr):Prop where
 o:H t=some (.tup [.int p.n,.ref tk,.ref d])
 k:ab_ H tk p.q m b
 d:gM K CA CD H d p dx ap l ts m' b' bC
 ne:l≠D
structure lq(K:PySem.W.Frag)(CA CD:Addr)(H:Hp)(D D':Addr)(ts:List Addr)(ps:List Dr):Prop where
 l:H D' = some (.lst (ts.map V.ref))
 n:ts.length=ps.length
 t:∀(i:Nat) (t:Addr) (p:Dr),ts[i]? = some t->ps[i]? = some p->∃tk d m b dx ap l ts m' b' bC,ace K CA CD H D t p tk d m b dx ap l ts m' b' bC
section
variable{K:PySem.W.Frag}{CA CD:Addr}{H H':Hp}{D D' t:Addr}{ts:List Addr}{ps:List Dr}{p:Dr}
end
noncomputable def jg(fs:List (Str×V)):Bool:=(fs.lookup ("ring_cells" : Str)).isNone && ((fs.lookup ("inward" : Str)).isSome || (fs.lookup ("turn" : Str)).isSome)
noncomputable def iV(xs:List V):Prop:=∀i j,xs≠[.bl i,.bl j]
theorem iV.refs{ts:List Addr}:iV (ts.map V.ref):=λi j e=>by
 cases ts with
 | nil=>cases e
 | cons t ts=>cases e
theorem iV.ints{ns:List Int}:iV (ns.map V.int):=λi j e=>by
 cases ns with
 | nil=>cases e
 | cons t ts=>cases e
noncomputable def l8(o:HO):Prop:=(∀ps,o≠.e7 ps)/\(∀C dx fs,o = .ins C dx fs->jg fs=false)/\∀xs,o = .lst xs->iV xs
theorem l8.of{o:HO}(h1:∀ps,o≠.e7 ps)(h2:∀C dx fs,o≠.ins C dx fs)(h3:∀xs,o≠.lst xs):l8 o:=⟨h1,λ_ _ _ e=>absurd e (h2 _ _ _),λ_ e=>absurd e (h3 _)⟩
theorem l8.lst{xs:List V}(h:iV xs):l8 (.lst xs):=⟨(λ_ z=>nomatch z),(λ_ _ _ z=>nomatch z),λ_ e=>by cases e;exact h⟩
theorem l8.ins{C dx:Addr}{fs:List (Str×V)}(h:jg fs=false):l8 (.ins C dx fs):=⟨(λ_ z=>nomatch z),(λ_ _ _ e=>by cases e;exact h),λ_ z=>nomatch z⟩
theorem acf:jg [] = false:=rfl
theorem OA{q:Ak}{m b:Addr}:jg (fh q m b)=false:=by simp[jg,fh,List.lookup_cons,fc]
theorem OB{n:Int}{ap l:Addr}:jg (ig n ap l)=false:=by simp[jg,ig,List.lookup_cons,fc]
noncomputable def cu(H H':Hp):Prop:=∀b o,H b=some o->l8 o->H' b=some o
theorem bS.iW{P:Addr}{pos:Pos}{qual:Str}{H H':Hp}(t:bS P pos qual H)(k:SameBut P H H'):cu H H':=λ_ _ e n=>k _ _ e (t.ne e n.1)
theorem cu.of{H H':Hp}(s:ah H H'):cu H H':=λ_ _ e _=>s _ _ e
theorem cu.trans{H H1 H2:Hp}(s:cu H H1)(t:cu H1 H2):cu H H2:=λ_ _ e n=>t _ _ (s _ _ e n) n
theorem cu.tup{H H':Hp}(k:cu H H'){a:Addr}{xs:List V}(e:H a=some (.tup xs)):H' a=some (.tup xs):=k _ _ e (.of (λ_ z=>nomatch z) (λ_ _ _ z=>nomatch z) λ_ z=>nomatch z)
theorem cu.lst{H H':Hp}(k:cu H H'){a:Addr}{xs:List V}(e:H a=some (.lst xs))(h:iV xs:=by first | exact iV.refs | exact iV.ints | (intro i j z;cases z)):H' a=some (.lst xs):=k _ _ e (.lst h)
theorem cu.ins{H H':Hp}(k:cu H H'){a C dx:Addr}{fs:List (Str×V)}(e:H a=some (.ins C dx fs))(h:jg fs=false:=by exact acf):H' a=some (.ins C dx fs):=k _ _ e (.ins h)
theorem Zn.kt{H H':Hp}{l:Addr}{ts:List Addr}{z:List (Int×Int)}(h:Zn H l ts z)(k:cu H H'):Zn H' l ts z:=⟨k.lst h.l,h.n,λi t p e1 e2=>k.tup (h.t i t p e1 e2)⟩
section
variable{K:PySem.W.Frag}{C CA CD:Addr}{H H':Hp}
theorem dN.kt{p:Addr}{q:Ak}{m b dx:Addr}(h:dN K C H p q m b dx)(k:cu H H'):dN K C H' p q m b dx:=⟨k.ins h.o OA,k.tup h.ms,k.tup h.bh⟩
theorem gM.kt{p:Addr}{d:Dr}{dx ap l:Addr}{ts:List Addr}{m b bC:Addr}(h:gM K CA CD H p d dx ap l ts m b bC)(k:cu H H'):gM K CA CD H' p d dx ap l ts m b bC:=⟨k.ins h.o OB,h.a.kt k,h.c.kt k⟩
theorem eS.kt{l:Addr}{ps:List Addr}{ds:List Dr}(h:eS K CA CD H l ps ds)(k:cu H H'):eS K CA CD H' l ps ds :=
 ⟨k.lst h.l,h.n,λi p d e1 e2=>let ⟨dx,ap,l,ts,m,b,bC,a⟩:=h.t i p d e1 e2;⟨dx,ap,l,ts,m,b,bC,a.kt k⟩⟩
theorem bY.kt{p:Addr}{P:Pl}{fp:List Addr}(h:bY K C H p P fp)(k:cu H H'):bY K C H' p P fp:=by
 obtain⟨dx,a1,a2,a3,a4,ts,fs,e,h⟩:=h;exact⟨dx,a1,a2,a3,a4,ts,fs,e,{ h with o:=k.ins h.o (by simp[jg,h.f1]),rc:=k.lst h.rc,sw:=k.lst h.sw,nc:=h.nc.kt k,cn:=k _ _ h.cn (.of (λ_ z=>nomatch z) (λ_ _ _ z=>nomatch z) λ_ z=>nomatch z)}⟩
end
noncomputable def bestOf(r:Dr->Int×Int)(ds:List Dr)(d:Dr):Prop:=d∈ds/\∀e∈ds,¬ ((r e).1<(r d).1\/(r e).1=(r d).1/\((r e).2<(r d).2\/(r e).2=(r d).2/\e.n<d.n))
noncomputable def iX(d:Dr):Int×Int:=match d.q.gK with
 | none=>(1,0)
 | some x=>(0,x)
noncomputable def acg(K:PySem.W.Frag)(CA CD:Addr):Sp:=λvs H Q _=>∃(D:Addr) (ps:List Addr) (ds:List Dr),vs = [.ref D]/\eS K CA CD H D ps ds/\1<=ds.length/\ds.length<=100/\
 ∀d H',ah H H'->bestOf (λ_=>(0,0)) ds d->Q (.int d.n) H'
noncomputable def ach(K:PySem.W.Frag)(CA CD:Addr)(P:Addr)(pos:Pos)(qual:Str):Sp:=λvs H Q _=>∃(D:Addr) (ps:List Addr) (ds:List Dr),vs = [.ref D]/\eS K CA CD H D ps ds/\1<=ds.length/\ds.length<=100/\bS P pos qual H/\
 ∀d H',SameBut P H H'->bS P pos qual H'->bestOf iX ds d->Q (.int d.n) H'
noncomputable def aci(K:PySem.W.Frag)(CA CD:Addr)(P:Addr)(pos:Pos)(qual:Str):Sp:=λvs H Q _=>∃(x p:Addr) (r b:Int) (D:Addr) (ps:List Addr) (ds:List Dr),vs = [.ref x,.ref p,.int r,.int b,.ref D]/\eS K CA CD H D ps ds/\1<=ds.length/\ds.length<=100/\bS P pos qual H/\
 ∀d H',SameBut P H H'->bS P pos qual H'->bestOf iX ds d->Q (.int d.n) H'
noncomputable def cg(s:Stmt):Pos:=match (dD s).getLast? with
 | some (.Return (some (.Attribute (.Call _ _ [⟨_,.Lambda _ _ _ pos,_⟩] _) _ _)) _)=>pos
 | _=>⟨0,0,0,0⟩
theorem OC{a b c d:Int}:_H.lexLt [a,b] [c,d] = true↔a<c\/a=c/\b<d:=by
 rw[_H.DU,_H.DU,_H.MM];split
 ·split
  ·simp;lia
  ·simp;lia
 ·simp;lia
structure jh(K:PySem.W.Frag)(CA CD:Addr)(H:Hp)(as:List Addr)(bs:List Dr):Prop where
 n:as.length=bs.length
 t:∀(i:Nat) (a:Addr) (d:Dr),as[i]? = some a->bs[i]? = some d->∃dx ap l ts m b bC,gM K CA CD H a d dx ap l ts m b bC
section
variable{K:PySem.W.Frag}{CA CD:Addr}{H:Hp}{as:List Addr}{bs:List Dr}
theorem jh.nil:jh K CA CD H [] []:=⟨rfl,λi a d e=>by simp at e⟩
theorem jh.snoc(h:jh K CA CD H as bs){a:Addr}{d:Dr}(hd:∃dx ap l ts m b bC,gM K CA CD H a d dx ap l ts m b bC):jh K CA CD H (as++[a]) (bs++[d]):=by
 refine⟨by simp[h.n],λi a' d' e1 e2=>?_⟩
 have hn:=h.n;by_cases hi:i<as.length
 ·rw[List.getElem?_append_left hi] at e1;rw[List.getElem?_append_left (by lia)] at e2
  exact h.t i a' d' e1 e2
 ·rw[List.getElem?_append_right (by lia)] at e1
  rw[List.getElem?_append_right (by lia)] at e2
  have gH:i - as.length=0:=by
   have:=(List.getElem?_eq_some_iff.mp e1).1;simp at this;lia
  rw[gH] at e1;rw[← hn,gH] at e2;simp at e1 e2;subst e1 e2;exact hd
end
noncomputable def fJ(ds:List Dr):List Dr:=ds.filter λd=>d.q.gK.isSome
theorem acj(ds:List Dr):(fJ ds).length<=ds.length:=List.length_filter_le _ _
theorem ack{ds:List Dr}{i:Nat}(hi:i<ds.length):fJ (ds.take (i+1))=if ds[i].q.gK.isSome then fJ (ds.take i)++[ds[i]] else fJ (ds.take i):=by
 unfold fJ;rw[take_succ_get (List.getElem?_eq_getElem hi),List.filter_append];split
 ·rw[List.filter_cons,if_pos (by assumption),List.filter_nil]
 ·rw[List.filter_cons,if_neg (by assumption),List.filter_nil,List.append_nil]
noncomputable def uy(bs:List Dr)(j:Nat):List Int:=match bs[j]? with
 | none=>[]
 | some d=>[d.q.gK.getD 0,d.n]
theorem Fb{bs:List Dr}{j:Nat}{d:Dr}(h:bs[j]? = some d):uy bs j = [d.q.gK.getD 0,d.n]:=by unfold uy;rw[h]
theorem acm{ds:List Dr}{i:Nat}{d:Dr}(hd:(fJ ds)[i]? = some d)(least:∀j,j<(fJ ds).length->¬ _H.lexLt (uy (fJ ds) j) (uy (fJ ds) i)=true):bestOf iX ds d:=by
 have hm:=List.mem_filter.mp (List.mem_of_getElem? hd);refine⟨hm.1,λe he=>?_⟩;obtain⟨x,hx⟩:=Option.isSome_iff_exists.mp hm.2;have ed:iX d=(0,x):=by unfold iX;rw[hx]
 rw[ed];cases hl:e.q.gK with
 | none =>
  have ee:iX e=(1,0):=by unfold iX;rw[hl]
  rw[ee];dsimp only;lia
 | some y =>
  have ee:iX e=(0,y):=by unfold iX;rw[hl]
  rw[ee];dsimp only;have hme:e∈fJ ds:=List.mem_filter.mpr ⟨he,by rw[hl];rfl⟩
  obtain⟨j,hj,ej⟩:=List.mem_iff_getElem.mp hme;have:=least j hj;rw[Fb (show (fJ ds)[j]? = some e by rw[List.getElem?_eq_getElem hj,ej]),Fb hd,OC,hl,hx] at this
  simp only[Option.getD_some] at this;lia
theorem acn{ds:List Dr}{d:Dr}(h0:fJ ds = [])(h:bestOf (λ_=>(0,0)) ds d):bestOf iX ds d:=by
 have g:∀e∈ds,iX e=(1,0):=λe he=>by
  cases hl:e.q.gK with
  | none=>unfold iX;rw[hl]
  | some y =>
   have:e∈fJ ds:=List.mem_filter.mpr ⟨he,by rw[hl];rfl⟩
   rw[h0] at this;exact nomatch this
 refine⟨h.1,λe he=>?_⟩;have:=h.2 e he;rw[g e he,g d h.1];dsimp only at this ⊢;lia
section
variable{K:PySem.W.Frag}{CA CD:Addr}{H H':Hp}{D:Addr}{as:List Addr}{bs:List Dr}
end
noncomputable def cj(d:Dr):Int×Int:=d.c.getD 0 (0,0)
noncomputable def kh(_:Pl)(r _:Int)(d:Dr):Int×Int:=((((cj d).1 - r).natAbs:Int),0)
noncomputable def yq(P:Pl)(r b:Int)(d:Dr):Int×Int:=(ie P (r,b) (cj d),0)
noncomputable def aco(K:PySem.W.Frag)(CA CD:Addr):Sp:=λvs H Q _=>∃(p:Addr) (d:Dr) (dx ap l:Addr) (ts:List Addr) (m b bC:Addr),vs = [.ref p]/\gM K CA CD H p d dx ap l ts m b bC/\1<=d.c.length/\Q (.int (cj d).1) H
noncomputable def acp(K:PySem.W.Frag)(CA CD:Addr)(P:Addr)(pos:Pos)(qual:Str):Sp:=λvs H Q _=>∃(r:Int) (D:Addr) (ps:List Addr) (ds:List Dr) (P':Pl) (b:Int),vs = [.int r,.ref D]/\eS K CA CD H D ps ds/\1<=ds.length/\ds.length<=100/\(∀d∈ds,1<=d.c.length)/\bS P pos qual H/\
 ∀d H',SameBut P H H'->bS P pos qual H'->bestOf (kh P' r b) ds d->Q (.int d.n) H'
noncomputable def acq(K:PySem.W.Frag)(cs:List Addr)(CA CD:Addr):Sp:=λvs H Q _=>∃(C p:Addr) (P:Pl) (fp:List Addr) (r b:Int) (dp:Addr) (d:Dr) (dx ap l:Addr) (ts:List Addr) (m b' bC:Addr),vs = [.ref p,.int r,.int b,.ref dp]/\C∈cs/\bY K C H p P fp/\jF P/\0<=r/\r<P.rc.length/\
 gM K CA CD H dp d dx ap l ts m b' bC/\1<=d.c.length/\k8 P d.c/\∀H',ah H H'->Q (.int (ie P (r,b) (cj d))) H'
noncomputable def acr(K:PySem.W.Frag)(cs:List Addr)(CA CD:Addr)(P:Addr)(pos:Pos)(qual:Str):Sp:=λvs H Q _=>∃(C p:Addr) (P':Pl) (fp:List Addr) (r b:Int) (D:Addr) (ps:List Addr) (ds:List Dr),vs = [.ref p,.int r,.int b,.ref D]/\C∈cs/\bY K C H p P' fp/\jF P'/\0<=r/\r<P'.rc.length/\
 eS K CA CD H D ps ds/\1<=ds.length/\ds.length<=100/\(∀d∈ds,1<=d.c.length/\k8 P' d.c)/\bS P pos qual H/\
 ∀d H',SameBut P H H'->bS P pos qual H'->bestOf (yq P' r b) ds d->Q (.int d.n) H'
noncomputable def OD(K:PySem.W.Frag)(cs:List Addr)(CA CD:Addr)(P:Addr)(pos:Pos)(qual:Str)(rk:Pl->Int->Int->Dr->Int×Int):Sp:=λvs H Q _=>∃(x C p:Addr) (P':Pl) (fp:List Addr) (r b:Int) (D:Addr) (ps:List Addr) (ds:List Dr),vs = [.ref x,.ref p,.int r,.int b,.ref D]/\C∈cs/\bY K C H p P' fp/\jF P'/\0<=r/\r<P'.rc.length/\
 eS K CA CD H D ps ds/\1<=ds.length/\ds.length<=100/\(∀d∈ds,1<=d.c.length/\k8 P' d.c)/\bS P pos qual H/\
 ∀d H',SameBut P H H'->bS P pos qual H'->bestOf (rk P' r b) ds d->Q (.int d.n) H'
noncomputable def qZ(rk:Dr->Int×Int)(bs:List Dr)(j:Nat):List Int:=match bs[j]? with
 | none=>[]
 | some d=>[(rk d).1,d.n]
theorem yr{rk:Dr->Int×Int}{bs:List Dr}{j:Nat}{d:Dr}(h:bs[j]? = some d):qZ rk bs j = [(rk d).1,d.n]:=by unfold qZ;rw[h]
theorem OE{rk:Dr->Int×Int}{ds:List Dr}{i:Nat}{d:Dr}(h2:∀d,(rk d).2=0)(hd:ds[i]? = some d)(least:∀j,j<ds.length->¬ _H.lexLt (qZ rk ds j) (qZ rk ds i)=true):bestOf rk ds d:=by
 refine⟨List.mem_of_getElem? hd,λe he=>?_⟩;obtain⟨j,hj,ej⟩:=List.mem_iff_getElem.mp he;have:=least j hj;rw[yr (show ds[j]? = some e by rw[List.getElem?_eq_getElem hj,ej]),yr hd,OC] at this
 rw[h2,h2];lia
end _L
namespace _L
open PySem PySem.Spec PyProof.Rows PySem.W
section
variable{prog:Program}{w:World}{A:Around}{E:Value->Shared->Prop}{s:Shared}{h₀:Heap}{L a kS:Addr}{m:Str->Option Value}{news:List (Addr×Obj)}{vs ks:List Value}
end
section
variable{X:Cx}{pins:List (Addr×Obj)}{σ:St}{H:Hp}{s:Shared}{m:Str->Option Value}{kS f:Addr}{kv:Nat->Int}{k:Nat}{fd:FuncData}{p:Str}{sp:Sp}{xs:List V}{A:Around}
end
section
variable{X:Cx}{pins:List (Addr×Obj)}{σ:St}{H:Hp}{s:Shared}{f:Addr}{kv:Nat->Int}{k:Nat}{fd:FuncData}{p:Str}{sp:Sp}{xs:List V}{l:Addr}
noncomputable def akA(sp:Sp)(tl:TE):TE:=λσ H Q=>tl σ H λx H1=>∃(l:Addr) (xs:List V) (kv:Nat->Int),x = .ref l/\H1 l=some (.lst xs)/\xs.length<64/\(∀i j,i<xs.length->j<xs.length->kv i=kv j->i=j)/\
 (∀(j:Nat) (v:V),xs[j]? = some v->sp [v] H1 (λv' H'=>v' = .int (kv j)/\H' = H1) E0)/\
 ∀(D:Addr) (is:List Nat),H1 D=none->is.Perm (List.range xs.length)->(∀i j,i<j->j<xs.length->kv (is.getD i 0)<kv (is.getD j 0))->Q (.ref D) (upd H1 D (.lst (is.map λi=>xs.getD i .aN)))
end
end _L
namespace _L
open PySem PySem.Spec PyProof.Rows
section
variable{X:Cx}
end
noncomputable def cN(n:Int):Key:=.inl n
theorem OF(kvs:List (Key×V))(k:Key)(v:V):(putK kvs k v).length<=kvs.length+1:=by
 unfold putK;split
 ·rw[List.length_map];lia
 ·rw[List.length_append];exact Nat.le_refl _
theorem Fc{α:Type}{l:List α}{p:α->Bool}{i:Nat}{a:α}(h:l[i]? = some a):(l.take (i+1)).filter p=(l.take i).filter p++(if p a then [a] else []):=by
 rw[take_succ_get h,List.filter_append,List.filter_cons];split <;> rfl
noncomputable def iF(c i:Bool)(B:Addr):List (Str×V):=[("calm",.bl c),("inward",.bl i),("batch",.ref B)]
structure Lt where
 c:Bool
 i:Bool
 b:List Int
structure eG(C:Addr)(H:Hp)(x:Addr)(st:Lt)(dx B:Addr):Prop where
 o:H x=some (.ins C dx (iF st.c st.i B))
 d:∃kvs:List (Key×V),H B=some (.dK kvs)/\kvs.length<=1000/\∀n:Int,(cC kvs (cN n)).isSome=decide (n∈st.b)
section
variable{C:Addr}{H H':Hp}{x dx B:Addr}{st:Lt}
theorem eG.same(h:eG C H x st dx B)(s:ah H H'):eG C H' x st dx B:=⟨s _ _ h.o,let ⟨kvs,a,r⟩:=h.d;⟨kvs,s _ _ a,r⟩⟩
theorem OG{c i:Bool}:jg (iF c i B)=true:=by simp[jg,iF,List.lookup_cons,fc]
theorem eG.iW(h:eG C H x st dx B)(s:SameBut x H H'):cu H H':=λb o e n=>s b o e λz=>by
 rw[z,h.o] at e;cases e;have:=n.2.1 _ _ _ rfl;rw[OG] at this;cases this
theorem bS.but{P:Addr}{pos:Pos}{qual:Str}{fs:List (Str×V)}(t:bS P pos qual H)(s:SameBut x H H')(hx:H x=some (.ins C dx fs)):bS P pos qual H':=by
 obtain⟨ps,e,tr,c⟩:=t;refine⟨ps,s _ _ e (λz=>by rw[z,hx] at e;cases e),tr,?_⟩
 rcases c with c | ⟨c',e1,e2⟩
 ·exact .inl c
 ·exact .inr ⟨c',e1,s _ _ e2 (λz=>by rw[z,hx] at e2;cases e2)⟩
theorem eG.tab{P:Addr}{pos:Pos}{qual:Str}(h:eG C H x st dx B)(t:bS P pos qual H)(s:SameBut P H H'):eG C H' x st dx B :=
 ⟨s _ _ h.o (t.ne h.o (λ_ z=>nomatch z)),let ⟨kvs,a,r⟩:=h.d;⟨kvs,s _ _ a (t.ne a (λ_ z=>nomatch z)),r⟩⟩
end
noncomputable def l_(i:Bool)(r:Int)(d:Dr):Bool:=if i then decide (r<=(cj d).1) else decide ((cj d).1<=r)
noncomputable def ez(i:Bool)(r:Int)(ds:List Dr):List Dr:=ds.filter (l_ i r)
theorem OH{i:Bool}{r:Int}{ds:List Dr}{k:Nat}(hk:k<ds.length):ez i r (ds.take (k+1))=if l_ i r ds[k] = true then ez i r (ds.take k)++[ds[k]] else ez i r (ds.take k):=by
 unfold ez;rw[take_succ_get (List.getElem?_eq_getElem hk),List.filter_append];split
 ·rw[List.filter_cons,if_pos (by assumption),List.filter_nil]
 ·rw[List.filter_cons,if_neg (by assumption),List.filter_nil,List.append_nil]
theorem yt(i:Bool)(r:Int)(ds:List Dr):(ez i r ds).length<=ds.length:=List.length_filter_le _ _
theorem yu{i:Bool}{r:Int}{ds:List Dr}{d:Dr}(h:d∈ez i r ds):d∈ds:=(List.mem_filter.mp h).1
theorem acs{i:Bool}{r:Int}{ds:List Dr}(h1:1<=ds.length)(h:ez i r ds = []):1<=(ez (!i) r ds).length:=by
 cases ds with
 | nil=>simp at h1
 | cons d ds =>
  have hn:¬ l_ i r d=true:=λz=>by
   have:d∈ez i r (d::ds):=List.mem_filter.mpr ⟨List.mem_cons_self ..,z⟩;rw[h] at this;exact nomatch this
  have hm:d∈ez (!i) r (d::ds):=List.mem_filter.mpr ⟨List.mem_cons_self ..,by unfold l_ at hn ⊢;cases i <;> simp at hn ⊢ <;> lia⟩
  exact List.length_pos_of_mem hm
noncomputable def acu(K:PySem.W.Frag)(CA CD:Addr):Sp:=λvs H Q _=>∃(i:Bool) (r:Int) (D:Addr) (ps:List Addr) (ds:List Dr),vs = [.bl i,.int r,.ref D]/\eS K CA CD H D ps ds/\ds.length<=100/\(∀d∈ds,1<=d.c.length)/\
 ∀D' fj H',ah H H'->H D' = none->eS K CA CD H' D' fj (ez i r ds)->Q (.ref D') H'
noncomputable def acv(K:PySem.W.Frag)(CA CD:Addr):Sp:=λvs H Q _=>∃(D:Addr) (ps:List Addr) (ds:List Dr),vs = [.ref D]/\eS K CA CD H D ps ds/\ds.length<=100/\
 ∀B kvs H',ah H H'->H B=none->H' B=some (.dK kvs)->kvs.length<=1000->(∀n:Int,(cC kvs (cN n)).isSome=decide (n∈ds.map (·.n)))->Q (.ref B) H'
noncomputable def gf(st:Lt)(ds:List Dr):Lt:=if st.c then(if ds.any (λd=>decide (d.n∈st.b)) then st else { st with b:=ds.map (·.n)}) else st
noncomputable def fK(st:Lt)(ds:List Dr):List Dr:=if st.c then ds.filter (λd=>decide (d.n∈(gf st ds).b)) else ds
noncomputable def mh(st:Lt)(r:Int)(ds:List Dr):Lt:={ st with i:=if (ez st.i r ds).length=0 then !st.i else st.i }
theorem acw{st:Lt}{r:Int}{ds:List Dr}(h1:1<=ds.length):1<=(ez (mh st r ds).i r ds).length:=by
 unfold mh;dsimp only;split
 ·rename_i h;exact acs h1 (List.length_eq_zero_iff.mp h)
 ·lia
theorem OI{st:Lt}{ds:List Dr}(h1:1<=ds.length):1<=(fK st ds).length:=by
 unfold fK gf;split
 ·rename_i hc;split
  ·rename_i ha;obtain⟨d,hd,he⟩:=List.any_eq_true.mp ha;exact List.length_pos_of_mem (List.mem_filter.mpr ⟨hd,he⟩)
  ·cases ds with
   | nil=>simp at h1
   | cons d ds=>exact List.length_pos_of_mem (a:=d) (List.mem_filter.mpr ⟨List.mem_cons_self ..,by simp⟩)
 ·exact h1
theorem acy(st:Lt)(ds:List Dr):(fK st ds).length<=ds.length:=by
 unfold fK;split
 ·exact List.length_filter_le _ _
 ·exact Nat.le_refl _
theorem Fd{st:Lt}{ds:List Dr}{d:Dr}(h:d∈fK st ds):d∈ds:=by
 unfold fK at h;split at h
 ·exact(List.mem_filter.mp h).1
 ·exact h
noncomputable def d0:Dr:=⟨0,⟨"",0,0,[],0,0,none,[],false⟩,[]⟩
section
variable{K:PySem.W.Frag}{CA CD:Addr}{H H':Hp}{D D':Addr}{ts ji:List Addr}{ps ux:List Dr}
end
structure uz(nc:List (Int×Int))(ds ps:List Dr):Prop where
 nd:((ds++ps).map (·.n)).Nodup
 ok:∀p∈ds++ps,acd nc.length p.q/\p.q.kind≠"rest"/\p.q.at_<=1000000000000/\0<=p.n/\p.n<=99/\p.c=cH nc p.q.first p.q.many
 Fe:ds.length+ps.length<=32
noncomputable def OJ(K:PySem.W.Frag)(CA CD CL P:Addr)(pos:Pos)(qual:Str)(H6:Hp)(a p wt x1 d1:Addr)(nc:List (Int×Int))(m:Nat)(σ:St)(H':Hp):Prop :=
 ∃(Lp Dd:Addr) (gg:List Addr) (dG:List Dr) (gh:List Addr) (dH:List Dr) (i:Bool) (ring:Int) (B':Addr) (y8 y9 ki gO:Option V),σ = [some (.ref a),some (.ref p),some (.ref wt),some (.ref Lp),some (.ref x1),some (.bl i),some (.int ring),some (.ref Dd),y8,y9,ki,gO]/\
  cu H6 H'/\bS P pos qual H'/\eG CL H' x1 ⟨false,i,[]⟩ d1 B'/\lq K CA CD H' Lp Lp gg dG/\lq K CA CD H' Dd Dd gh dH/\uz nc dH dG/\dH.length+dG.length=m
section
variable{K:PySem.W.Frag}{CA CD:Addr}{H:Hp}{D D':Addr}{ts:List Addr}{ps:List Dr}{X:Prop}
theorem eS.el(h:eS K CA CD H D ts ps)(i:Nat)(t:Addr)(p:Dr)(e1:ts[i]? = some t)(e2:ps[i]? = some p)(k:∀dx ap l tx m b bC,gM K CA CD H t p dx ap l tx m b bC->X):X :=
 let ⟨dx,ap,l,tx,m,b,bC,a⟩:=h.t i t p e1 e2;k dx ap l tx m b bC a
end
@[elab_as_elim] theorem OJ.el{K:PySem.W.Frag}{CA CD CL P:Addr}{pos:Pos}{qual:Str}{H6:Hp}{a p wt x1 d1:Addr}{nc:List (Int×Int)}{m:Nat}{σ:St}{H':Hp}{X:St->Prop}(h:OJ K CA CD CL P pos qual H6 a p wt x1 d1 nc m σ H')
  (k:∀(Lp Dd:Addr) (gg:List Addr) (dG:List Dr) (gh:List Addr) (dH:List Dr) (i:Bool) (ring:Int) (B':Addr) (y8 y9 ki gO:Option V),cu H6 H'->bS P pos qual H'->eG CL H' x1 ⟨false,i,[]⟩ d1 B'->lq K CA CD H' Lp Lp gg dG->lq K CA CD H' Dd Dd gh dH->uz nc dH dG->dH.length+dG.length=m->X [some (.ref a),some (.ref p),some (.ref wt),some (.ref Lp),some (.ref x1),some (.bl i),some (.int ring),some (.ref Dd),y8,y9,ki,gO]):X σ:=by
 obtain⟨Lp,Dd,gg,dG,gh,dH,i,ring,B',y8,y9,ki,gO,rfl,kt,tb,hl,Ff,Fg,bo,hm⟩:=h;exact k Lp Dd gg dG gh dH i ring B' y8 y9 ki gO kt tb hl Ff Fg bo hm
noncomputable def OL(t:TS):TS:=λD σ H=>∀N:St->Hp->Prop,(∀eN H1,@Later ⟨D.nx⟩ eN H1->N eN H1)->t { D with nx:=N } σ H
theorem iY{X:Cx}{st:Stmt}{t:TS}(h:PS X st t):PS X st (OL t):=λpins s σ H D I q=>h pins s σ H D I (q D.nx λ_ _ z=>z)
theorem jk{t b:TS}{D:Ends}{σ:St}{H:Hp}(h:∀N:St->Hp->Prop,(∀eN H1,b D eN H1->N eN H1)->t { D with nx:=N } σ H):L8 (OL t) b D σ H:=λN hN=>h N hN
theorem acz{c:TT}{tb:TS}{D:Ends}{σ:St}{H:Hp}(h:∀B:TS,(∀D σ H,tb D σ H->B D σ H)->DG c B D σ H):DG c tb D σ H:=h tb λ_ _ _ z=>z
section
variable{H H1 H2:Hp}
end
structure pG(K:PySem.W.Frag)(C:Addr):Prop where
 cl:bZ K C
 n1:bU K C "calm"
 n2:bU K C "inward"
 n3:bU K C "batch"
noncomputable def yw(CL CS C:Addr)(sw:Bool):Prop:=C=CL/\sw=false\/C=CS/\sw=true
theorem yw.mem{CL CS C:Addr}{sw:Bool}(h:yw CL CS C sw):C∈[CL,CS]:=by
 rcases h with⟨rfl,_⟩ | ⟨rfl,_⟩ <;> simp
noncomputable def nI(sw:Bool)(st:Lt)(r:Int)(ds:List Dr):Lt:=if sw=true then st else mh st r ds
noncomputable def q8(sw:Bool)(r:Int)(ds:List Dr):Int:=if sw=true then(if (ez true r ds).length=0 then 0 else r) else r
noncomputable def nJ(sw:Bool)(i:Bool)(r:Int)(ds:List Dr):List Dr:=if sw=true then(if (ez true r ds).length=0 then ds else ez true r ds) else ez i r ds
theorem acA{sw i:Bool}{r:Int}{ds:List Dr}{d:Dr}(h:d∈nJ sw i r ds):d∈ds:=by
 unfold nJ at h;split at h
 ·split at h
  ·exact h
  ·exact yu h
 ·exact yu h
noncomputable def yx(K:PySem.W.Frag)(cs:List Addr):Sp:=λvs H Q _=>∃(C x dx:Addr) (c:Bool) (fs:List (Str×V)),vs = [.ref x]/\C∈cs/\pG K C/\H x=some (.ins C dx fs)/\(fs = [(("calm" : Str),V.bl c)]\/∃i B,fs=iF c i B)/\
 ∀B H',H B=none->SameBut x H H'->eG C H' x ⟨c,true,[]⟩ dx B->Q .aN H'
noncomputable def acB(K:PySem.W.Frag)(cs:List Addr):Sp:=λvs H Q _=>∃(C x dx:Addr) (c:Bool),vs = [.ref x,.bl c]/\C∈cs/\pG K C/\H x=some (.ins C dx [])/\
 ∀B H',H B=none->SameBut x H H'->eG C H' x ⟨c,true,[]⟩ dx B->Q .aN H'
section
variable{H H':Hp}{S:Addr}{i sw:Bool}
end
noncomputable def OM(K:PySem.W.Frag)(CA CD CR P:Addr)(pos:Pos)(qual:Str)(sw:Bool)(H6:Hp)(a p wt x1 d1 S:Addr)(nc:List (Int×Int))(m:Nat)(σ:St)(H':Hp):Prop :=
 ∃(Lp Dd Bt:Addr) (gg:List Addr) (dG:List Dr) (gh:List Addr) (dH:List Dr) (i:Bool) (bs:List Int) (ring:Int) (B':Addr) (y9 ki gO kj:Option V),σ = [some (.ref a),some (.ref p),some (.ref wt),some (.ref Lp),some (.ref x1),some (.ref S),some (.int ring),some (.ref Dd),some (.ref Bt),y9,ki,gO,kj]/\
  cu H6 H'/\bS P pos qual H'/\eG CR H' x1 ⟨true,i,bs⟩ d1 B'/\H' S=some (.lst [.bl i,.bl sw])/\H' Bt=some (.lst (bs.map V.int))/\bs.length<=32/\lq K CA CD H' Lp Lp gg dG/\lq K CA CD H' Dd Dd gh dH/\uz nc dH dG/\dH.length+dG.length=m
@[elab_as_elim] theorem OM.el{K:PySem.W.Frag}{CA CD CR P:Addr}{pos:Pos}{qual:Str}{sw:Bool}{H6:Hp}{a p wt x1 d1 S:Addr}{nc:List (Int×Int)}{m:Nat}{σ:St}{H':Hp}{X:St->Prop}(h:OM K CA CD CR P pos qual sw H6 a p wt x1 d1 S nc m σ H')
  (k:∀(Lp Dd Bt:Addr) (gg:List Addr) (dG:List Dr) (gh:List Addr) (dH:List Dr) (i:Bool) (bs:List Int) (ring:Int) (B':Addr) (y9 ki gO kj:Option V),cu H6 H'->bS P pos qual H'->eG CR H' x1 ⟨true,i,bs⟩ d1 B'->H' S=some (.lst [.bl i,.bl sw])->H' Bt=some (.lst (bs.map V.int))->bs.length<=32->lq K CA CD H' Lp Lp gg dG->lq K CA CD H' Dd Dd gh dH->uz nc dH dG->dH.length+dG.length=m->X [some (.ref a),some (.ref p),some (.ref wt),some (.ref Lp),some (.ref x1),some (.ref S),some (.int ring),some (.ref Dd),some (.ref Bt),y9,ki,gO,kj]):X σ:=by
 obtain⟨Lp,Dd,Bt,gg,dG,gh,dH,i,bs,ring,B',y9,ki,gO,kj,rfl,kt,tb,hl,hSt,hBt,Fi,Ff,Fg,bo,hm⟩:=h;exact k Lp Dd Bt gg dG gh dH i bs ring B' y9 ki gO kj kt tb hl hSt hBt Fi Ff Fg bo hm
section
variable{X:Cx}
noncomputable def akB:V->List V->Hp->VK->Prop:=λx vs H Q=>∃l xs i y,x = .ref l/\vs = [.int i,y]/\H l=some (.lst xs)/\0<=i/\i<=(xs.length:Int)/\xs.length<1000/\Q .aN (upd H l (.lst (xs.take i.toNat++y::xs.drop i.toNat)))
theorem Inv.freeze{pins:List (Addr×Obj)}{σ:St}{H:Hp}{s:Shared}{a:Addr}{kvs:List (Key×V)}{ob:Obj}(I:Inv X pins σ H s)(e:H a=some (.dK kvs))(ho:s.heap.get? a=some ob):Inv X pins σ (upd H a (.cI ob (.dK kvs))) s:=by
 have ne:∀b v,H b=some v->(∀kvs,v≠.dK kvs)->upd H a (.cI ob (.dK kvs)) b=some v:=λb v q z=>by rw[aD (λw=>by rw[w,e] at q;cases q;exact z _ rfl)];exact q
 refine I.un (t':=s.toks) (h':=s.heap) ⟨λb o q n hb _=>q,λb o q n hb _=>⟨o.slots,q⟩,λb o q n _=>?_,λb o q _=>⟨o,q⟩,λb xs q=>ne b _ q (λ_ z=>nomatch z),λb o u q=>ne b _ q (λ_ z=>nomatch z),λb ps q=>⟨#[],by rw[ne b _ q (λ_ z=>nomatch z)];simp⟩⟩ λb v q=>?_
 ·rw[aD (λz=>by rw[z,e] at n;cases n)];exact n
 ·by_cases z:b=a
  ·subst z;rw[aI] at q;cases q;exact⟨ho,(I.aL b _ e).iy (λ_ _ _ e=>e) (λd q=>ne d _ q (λ_ z=>nomatch z)) (λd xs q=>ne d _ q (λ_ z=>nomatch z))⟩
  ·rw[aD z] at q;exact(I.aL b v q).iy (λ_ _ _ e=>e) (λd q=>ne d _ q λ_ z=>nomatch z) λd xs q=>ne d _ q λ_ z=>nomatch z
theorem ON{P:Program}{w:World}{H:Hp}{h:Heap}{a:Addr}{ob:Obj}{kvs:List (Key×V)}{es:Array DictEntry}{ep:Nat}(mj:ob.data = .dict es ep)(x:dB P w H h a (.cI ob (.dK kvs))) :
  ∃vs,KV kvs vs/\h.DictAt (eZ P w) a vs ep:=by
 obtain⟨ho,_,_,vs,kv,o,xM,Ew,jV,c,d,r⟩:=x;rw[ho] at jV;cases jV;rw[mj] at d;cases d;exact⟨vs,kv,ob,es,ho,c,mj,r⟩
end
section
variable{X:Cx}{k:Nat}{f:Addr}{fd:FuncData}{ps:List Str}{sp:Sp}{x:Str}{p pos:Pos}{e:Expr}{es:List Expr}{t:TA}{a:Value}
end
noncomputable def shF(pl:Addr)(t u:Int):List (Str×V):=[("pairs",.ref pl),("turn",.int t),("used",.int u)]
structure acC(C:Addr)(H:Hp)(x:Addr)(sh:List (Int×Int))(t u:Int)(dx pl:Addr)(mq:List Addr):Prop where
 o:H x=some (.ins C dx (shF pl t u))
 p:Zn H pl mq sh
section
variable{C:Addr}{H H':Hp}{x dx pl:Addr}{mq:List Addr}{sh:List (Int×Int)}{t u:Int}
end
section
variable{K:PySem.W.Frag}{C CA CD:Addr}{H H':Hp}
end
noncomputable def acD(sh:List (Int×Int))(t:Int):Int:=(sh.getD t.toNat (0,0)).2
section
variable{H H':Hp}{l:Addr}{ts ji:List Addr}{z z2:List (Int×Int)}
end
section
variable{K:PySem.W.Frag}{CA CD:Addr}{H H':Hp}{D D':Addr}{ts ji:List Addr}{ps ux:List Dr}
end
structure OO(K:PySem.W.Frag)(CA CD CS:Addr)(H6:Hp)(shl:Addr)(oM:List Addr)(x1 d1 pl:Addr)(mq:List Addr)(S:Addr)(sh:List (Int×Int))(nc:List (Int×Int))(m:Nat)(H':Hp)(Lp Dd:Addr)(gg:List Addr)(dG:List Dr)(gh:List Addr)(dH:List Dr)(t u:Int):Prop where
 kt:cu H6 H'
 s:H' S=some (.lst [.int t,.int u])
 x:acC CS H' x1 sh t u d1 pl mq
 t0:0<=t
 t1:t<sh.length
 u0:0<=u
 u1:u<=acD sh t
 pp:lq K CA CD H' Lp Lp gg dG
 dd:lq K CA CD H' Dd Dd gh dH
 bo:uz nc dH dG
 ak:∀p∈dH++dG,p.q.k9∈sh.map (·.1)
 hm:dH.length+dG.length=m
noncomputable def OP(K:PySem.W.Frag)(CA CD CS:Addr)(H6:Hp)(a p wt al shl:Addr)(oM:List Addr)(st:Int)(hd x1 d1 pl:Addr)(mq:List Addr)(S:Addr)(sh:List (Int×Int))(nc:List (Int×Int))(m:Nat)(σ:St)(H':Hp):Prop :=
 ∃(Lp Dd:Addr) (gg:List Addr) (dG:List Dr) (gh:List Addr) (dH:List Dr) (t u:Int) (gO kj uA:Option V),σ = [some (.ref a),some (.ref p),some (.ref wt),some (.ref al),some (.ref shl),some (.ref Lp),some (.int st),some (.ref hd),some (.ref x1),some (.ref S),some (.ref Dd),gO,kj,uA]/\
  OO K CA CD CS H6 shl oM x1 d1 pl mq S sh nc m H' Lp Dd gg dG gh dH t u
@[elab_as_elim] theorem OP.el{K:PySem.W.Frag}{CA CD CS:Addr}{H6:Hp}{a p wt al shl:Addr}{oM:List Addr}{st:Int}{hd x1 d1 pl:Addr}{mq:List Addr}{S:Addr}{sh:List (Int×Int)}{nc:List (Int×Int)}{m:Nat}{σ:St}{H':Hp}{X:St->Prop}(h:OP K CA CD CS H6 a p wt al shl oM st hd x1 d1 pl mq S sh nc m σ H')
  (k:∀(Lp Dd:Addr) (gg:List Addr) (dG:List Dr) (gh:List Addr) (dH:List Dr) (t u:Int) (gO kj uA:Option V),OO K CA CD CS H6 shl oM x1 d1 pl mq S sh nc m H' Lp Dd gg dG gh dH t u->X [some (.ref a),some (.ref p),some (.ref wt),some (.ref al),some (.ref shl),some (.ref Lp),some (.int st),some (.ref hd),some (.ref x1),some (.ref S),some (.ref Dd),gO,kj,uA]):X σ:=by
 obtain⟨Lp,Dd,gg,dG,gh,dH,t,u,gO,kj,uA,rfl,f⟩:=h;exact k Lp Dd gg dG gh dH t u gO kj uA f
theorem KV.vl:∀ {kvs:List (Key×V)} {vs:List (Key×Value)},KV kvs vs->∀ {i:Nat} {p:Key×V},kvs[i]? = some p->∃k v,vs[i]? = some (k,v)/\RelV p.2 v
 | _,_,.nil,i,p,e=>by simp at e
 | _,_,.cons (b:=q) r t,0,p,e=>by
  cases e;exact⟨q.1,q.2,rfl,r.2⟩
 | _,_,.cons r t,i+1,p,e=>KV.vl t (i:=i) e
noncomputable def OQ(a:Addr)(ob:Obj)(kvs:List (Key×V)):It :=
 ⟨λi H=>H a=some (.cI ob (.dK kvs))/\i<kvs.length,λi H x H'=>H' = H/\∃p,kvs[i]? = some p/\x=p.2,λi H=>H a=some (.cI ob (.dK kvs))/\kvs.length<=i⟩
theorem acE{P:Program}{w:World}{K:PySem.W.Frag}{tg:Expr}(a it:Addr){ob:Obj}{kvs:List (Key×V)}{es:Array DictEntry}{ep:Nat}(mj:ob.data = .dict es ep) :
  Turn P w K tg (OQ a ob kvs) [it] it (λi h=>h.IsValIter it a i kvs.length ep) where
 mem:=by simp
 obj:=λi h st b hb=>by
  have e:b=it:=by simpa using hb
  subst e;obtain⟨o,e,c,d⟩:=st;exact⟨o,e,λv z=>by rw[d] at z;cases z⟩
 keep:=λi h h' st k=>let ⟨o,e,r⟩:=st;⟨o,k it (by simp) o e,r⟩
 item:=by
  intro X hP hw hK hc i pins s σ H E I hf st hg;subst hP hw hK;obtain⟨hq,hi⟩:=hg;obtain⟨vs,kv,da⟩:=ON mj (I.aL a _ hq);have ek:kvs[i]? = some kvs[i]:=List.getElem?_eq_getElem hi;obtain⟨k,v,ev,rv⟩:=kv.vl ek;obtain⟨f0,f1,f2,f3,f4,f5⟩:=hf it (by simp)
  have hl:kvs.length=vs.length:=kv.length;refine wpAny_pyNext_values_item (hl▸st) da ev λh' cA sb=>?_;have I1:Inv X pins σ H { s with heap:=h' }:=I.turned (t':=s.toks) (λb o hb e=>(sb.2 b hb).trans e) f0 f1 f3 f4 f5;obtain⟨o,e,c,d⟩:=id cA;exact⟨v,rfl,sO (s:={ s with heap:=h' }) e c d (by decide) ⟨_,H,I1,rv,⟨rfl,kvs[i],ek,rfl⟩,hl▸cA,λb hb=>(hf b hb).1⟩⟩
 done:=by
  intro X hP hw hK hc i pins s σ H E I hf st hg;subst hP hw hK;obtain⟨hq,hi⟩:=hg;obtain⟨vs,kv,da⟩:=ON mj (I.aL a _ hq);obtain⟨f0,f1,f2,f3,f4,f5⟩:=hf it (by simp)
  have hl:kvs.length=vs.length:=kv.length;exact wpAny_pyNext_values_end (I.ok.hd hc) (hl▸st) da (List.getElem?_eq_none (by lia)) λh' eb=>⟨rfl,I.turned (t':=s.toks) (λb o hb e=>eb b o hb e) f0 f1 f3 f4 f5⟩
 self:=λA i s Q E st h=>wpAny_pyIter_valiter st h
section
variable{X:Cx}{o:Expr}{to:TE}{apos dR:Pos}{tg:Expr}
noncomputable def Fj(K:PySem.W.Frag)(td:TE):TI:=λσ H R=>td σ H λx H1=>∃a kvs,x = .ref a/\H1 a=some (.dK kvs)/\∀ob,R (OQ a ob kvs) (upd H1 a (.cI ob (.dK kvs)))
theorem OR(ho:PE X o to)(D3:attributeBase o "values" X.env (eval o X.env)=eval o X.env:=by rfl)(D4:(apos.endLine == dR.line)=true:=by rfl):PI X tg (.Call (.Attribute o "values" apos) [] [] dR) (Fj X.K to):=by
 intro pins s σ H R I h;refine wpAny_Call_method0_late D3 D4 (aM (ho pins s σ H _ I h) λv s1 ⟨x,H1,I1,r1,q1⟩=>?_);obtain⟨a,kvs,e,hq,q⟩:=q1;subst e;have ty:xj X.K "dict" (.ref a) H1:=.inr (.inr (.inl ⟨rfl,.inl ⟨kvs,hq⟩⟩));obtain⟨h1,h2⟩:=MY I1 r1 ty;refine⟨"dict", "dict.values",PySem.F.plainAttrs_dict,PySem.F.slot_dict_values,PySem.F.type_dict_values,h1,h2,Calls.callWith_builtin rfl (PySem.evalArgs_none ?_)⟩;cases r1;obtain⟨hz,hS,vs,kv,ob,es,ep,mj,c,d,r⟩:=D_ I1.aL hq;have ln:kvs.length=vs.length:=kv.length;refine call_meetsIn PySem.F.slot_dict_values h1 PySem.F.entry_dict_values (PySem.F.args_dict_values_1 _) (meets_dict_values (eZ X.prog X.w) a hS) ⟨⟨vs,ob,es,ep,mj,c,d,r⟩,?_⟩;have I2:=I1.freeze hq mj;have I3:=I2.kept (t':=s1.toks) (h':=s1.heap.push { cls:=.type "dict_values",data:=.fields #[.ref a] }) λb o e=>Heap.get?_push_of_some _ e;refine wpAny_pyIter_values (knd:=eZ X.prog X.w) (kvs:=vs) (ep:=ep) ⟨_,Heap.get?_push_size _ rfl,rfl,rfl⟩ ⟨ob,es,Heap.get?_push_of_some _ mj,c,d,r⟩ ?_;have I4:=I3.kept (t':=s1.toks) (h':=(s1.heap.push { cls:=.type "dict_values",data:=.fields #[.ref a] }).push { cls:=.type "dict_valueiterator",data:=.fields #[.ref a,.int 0 0,.int vs.length 0,.int ep 0] }) λb o e=>Heap.get?_push_of_some _ e;refine⟨(s1.heap.push { cls:=.type "dict_values",data:=.fields #[.ref a] }).objs.size,[(s1.heap.push { cls:=.type "dict_values",data:=.fields #[.ref a] }).objs.size],_,_,_,rfl,I4,acE a _ d,⟨_,Heap.get?_push_size _ rfl,rfl,by rw[ln];rfl⟩,λb hb=>?_,q ob⟩
 have e:b=(s1.heap.push { cls:=.type "dict_values",data:=.fields #[.ref a] }).objs.size:=by simpa using hb
 subst e;exact I3.lQ (Nat.le_refl _) (I3.aL.fresh (Nat.le_refl _))
theorem Inv.acF{pins:List (Addr×Obj)}{σ:St}{H:Hp}{s:Shared}{a:Addr}{kvs:List (Key×V)}{ob:Obj}(I:Inv X pins σ H s)(e:H a=some (.cI ob (.dK kvs)))(h0:∀o u,X.f9 a≠some (.cI o u)):Inv X pins σ (upd H a (.dK kvs)) s:=by
 have up:∀b v,H b=some v->b≠a->upd H a (.dK kvs) b=some v:=λb v q n=>by rw[aD n];exact q
 have na:∀b v,H b=some v->(∀o u,v≠.cI o u)->b≠a:=λb v q n z=>by rw[z,e] at q;exact n _ _ (Option.some.inj q).symm
 have un:∀b,H b=none->upd H a (.dK kvs) b=none:=λb q=>by rw[aD (λz=>by rw[z,e] at q;cases q)];exact q
 refine⟨I.ok,I.os,I.bare,⟨I.base.keep,I.base.slot,λb o q n hx=>un b (I.base.free b o q n hx),I.base.there,λb xs q=>up b _ (I.base.kG b xs q) (na b _ (I.base.kG b xs q) λ_ _ z=>nomatch z),λb o u q=>up b _ (I.base.jP b o u q) (λz=>by rw[z] at q;exact h0 _ _ q),λb ps q=>let ⟨m,z⟩:=I.base.kH b ps q;⟨m,up b _ z (na b _ z λ_ _ y=>nomatch y)⟩⟩,
  I.loc,I.cell,un _ I.free,λx c q=>un c (I.ju x c q),λp hp=>let ⟨q1,q2,q3⟩:=I.pin p hp;⟨q1,un _ q2,q3⟩,λb v q=>?_,I.len⟩
 by_cases z:b=a
 ·subst z;rw[aI] at q;cases q;have x:=(I.aL b _ e).2;exact x.iy (λ_ _ _ e=>e) (λd q=>up d _ q (na d _ q λ_ _ z=>nomatch z)) (λd xs q=>up d _ q (na d _ q λ_ _ z=>nomatch z))
 ·rw[aD z] at q;exact(I.aL b v q).iy (λ_ _ _ e=>e) (λd q=>up d _ q (na d _ q λ_ _ z=>nomatch z)) λd xs q=>up d _ q (na d _ q λ_ _ z=>nomatch z)
noncomputable def acG(f9:Hp)(t:TE):TE:=λσ H Q=>t σ H λv H1=>∃a ob kvs,H1 a=some (.cI ob (.dK kvs))/\(∀o u,f9 a≠some (.cI o u))/\Q v (upd H1 a (.dK kvs))
end
theorem acH{prog:Program}{w:World}{A:Around}{s:Shared}{a b:Int}{t u:Tok}{Q:Value->Shared->Prop}{E:Value->Shared->Prop}(h:Q (.bool (decide (a<b))) s):wpAny (model prog w) A (richCompare .Lt (.int a t) (.int b u)) Q E s :=
 CmpOf.ints_lt (P:=λi v=>(i=0/\v = .int a t)\/(i=1/\v = .int b u)) (λi=>if i=0 then a else b) (by
  rintro i v (⟨rfl,rfl⟩ | ⟨rfl,rfl⟩)
  ·exact⟨t,rfl⟩
  ·exact⟨u,rfl⟩) 0 1 _ _ s Q E (.inl ⟨rfl,rfl⟩) (.inr ⟨rfl,rfl⟩) h
theorem Fl:∀ {us:List Value} {ns:List Int},IntsAre us ns->∀ {j:Nat} {v:Value},us[j]? = some v->∃n t,ns[j]? = some n/\v = .int n t
 | _,_,.nil,j,v,e=>by simp at e
 | _,_,.cons n t r,0,v,e=>⟨n,t,rfl,by simpa using e.symm⟩
 | _,_,.cons n t r,j+1,v,e=>Fl r (j:=j) (by simpa using e)
noncomputable def pH(ns:List Int)(j:Nat)(m:Int):Prop:=m∈ns.take j/\∀a∈ns.take j,m<=a
theorem pH.step{ns:List Int}{j:Nat}{m v:Int}(h:pH ns j m)(e:ns[j]? = some v):pH ns (j+1) (if v<m then v else m):=by
 unfold pH;rw[take_succ_get e];obtain⟨h1,h2⟩:=h;by_cases c:v<m
 ·rw[if_pos c];refine⟨by simp,λa ha=>?_⟩
  rcases List.mem_append.mp ha with ha | ha
  ·have:=h2 a ha;lia
  ·rw[List.mem_singleton.mp ha];exact Int.le_refl _
 ·rw[if_neg c];refine⟨List.mem_append_left _ h1,λa ha=>?_⟩;rcases List.mem_append.mp ha with ha | ha
  ·exact h2 a ha
  ·rw[List.mem_singleton.mp ha];lia
noncomputable def acI(v:Value)(c:Nat):Obj:={ cls:=.type "list",dict:=none,data:=.seq #[v,v] c,slots := #[] }
section
variable{prog:Program}{w:World}{A:Around}{R:Result->Shared->Prop}{l I S:Addr}{us:List Value}{ns:List Int}{kw:List (Str×Value)}
theorem acJ(hh:A.handled=none)(yy:l≠I)(yz:S≠l)(gu:S≠I)(hi:IntsAre us ns):∀(k j:Nat) (s:Shared) (m:Int) (t:Tok) (c:Nat),j+k=us.length->
  s.heap.IsListIter I l j->s.heap.IsList l us.toArray->s.heap.get? S=some (acI (.int m t) c)->pH ns j m->
  (∀h' tk M t',pH ns us.length M->(∀b o,b≠S->b≠I->s.heap.get? b=some o->h'.get? b=some o)->R (.ok (.ret (.int M t'))) { s with heap:=h',toks:=tk })->
  codeAny (model prog w) A (.builtin "min.loop" ⟨[.ref I,.none,.ref S],kw⟩) R s:=by
 have W:=Walks.list (prog:=prog) (w:=w) (A:=A.in1) hh I l yy us.toArray;have fS:S∉[I]:=by simpa using gu
 have nm:(toString "min" ++ toString ".loop" : String) = "min.loop" := by decide
 intro k
 induction k with
 | zero =>
  intro j s m t c hj hit hl hS lo hR;have hj:j=us.length:=hj;subst hj;refine codeAny_builtin F.entry_min_loop ?_;rw[Around.under_plainId F.plain_min_loop _]
  show wpAny _ A.in1 (seqItems? (.ref S) >>= _) _ _ _;apply wpAny_bind;refine wpAny_seqItems hS rfl ?_
  show wpAny _ A.in1 (tryCatch (pyNext (.ref I)) _ >>= _) _ _ _;apply wpAny_bind;refine wpAny_tryCatch (W.done s _ _ ⟨by simpa using hit,hl⟩ λh' tk kk=>?_)
  show wpAny _ A.in1 (updateSeq S (λ_ => #[]) >>= _) _ _ _;apply wpAny_bind;refine wpAny_updateSeq (kk S _ fS hS) rfl (wpAny_bind (wpAny_letGo (wpAny_pure ?_)));exact hR _ tk m t lo λb o b1 b2 e=>(Heap.get?_update_other _ _ (Ne.symm b1)).trans (kk b o (by simpa using b2) e)
 | succ k ih =>
  intro j s m t c hj hit hl hS lo hR;have jl:j<us.length:=by lia
  refine codeAny_builtin F.entry_min_loop ?_;rw[Around.under_plainId F.plain_min_loop _]
  show wpAny _ A.in1 (seqItems? (.ref S) >>= _) _ _ _;apply wpAny_bind;refine wpAny_seqItems hS rfl ?_
  show wpAny _ A.in1 (tryCatch (pyNext (.ref I)) _ >>= _) _ _ _;apply wpAny_bind;refine wpAny_tryCatch (W.item j s _ _ (by simpa using jl) ⟨hit,hl⟩ λv h' tk hP cA kk=>?_)
  have ev:us[j]? = some v:=by simpa using hP
  obtain⟨n,tn,en,rfl⟩:∃n tn,ns[j]? = some n/\v = .int n tn:=Fl hi ev;have lg:=kk S _ fS hS;have yC:=lo.step en;have old:∀b o,b≠S->b≠I->s.heap.get? b=some o->h'.get? b=some o:=λb o _ b2 e=>kk b o (by simpa using b2) e
  show wpAny _ A.in1 (tryCatch (holding [.int n tn,.int n tn] (richCompare .Lt (.int n tn) (.int m t) >>= _)) _ >>= _) _ _ _;apply wpAny_bind;refine wpAny_tryCatch (wpAny_holding (wpAny_bind (acH ?_)));refine wpAny_bind (wpAny_holding (wpAny_truthy_bool (wpAny_bind (wpAny_letGo (wpAny_pure ?_)))));by_cases hc:n<m
  ·rw[decide_eq_true hc,if_pos rfl];rw[if_pos hc] at yC;apply wpAny_bind;refine wpAny_updateSeq lg rfl (wpAny_bind (wpAny_letGo ?_));rw[nm];have eE:=W.frame (j+1) h' (h'.update S (Obj.mapSeq λ_ => #[.int n tn,.int n tn])) cA λb hb o e=>(Heap.get?_update_other _ _ (λz:S=b=>by
    rw[← z] at hb;rcases List.mem_cons.mp hb with y | y
    ·exact gu y
    ·exact yz (List.mem_singleton.mp y))).trans e
   refine wpAny_pure ⟨plainId_quiet F.plain_min_loop _,ih (j+1) _ n tn _ (by lia) eE.1 eE.2 (Heap.get?_update_self _ lg rfl) yC λh2 cJ M t2 a1 a2=>hR h2 cJ M t2 a1 λb o b1 b2 e=>a2 b o b1 b2 ((Heap.get?_update_other _ _ (Ne.symm b1)).trans (old b o b1 b2 e))⟩
  ·rw[decide_eq_false hc,if_neg (by decide)]
   rw[if_neg hc] at yC;apply wpAny_bind;refine wpAny_letGo ?_;rw[nm];exact wpAny_pure ⟨plainId_quiet F.plain_min_loop _,ih (j+1) _ m t c (by lia) cA.1 cA.2 lg yC λh2 cJ M t2 a1 a2=>hR h2 cJ M t2 a1 λb o b1 b2 e=>a2 b o b1 b2 (old b o b1 b2 e)⟩
theorem acK{n0:Int}{nr:List Int}(hh:A.handled=none)(yy:l≠I)(yz:S≠l)(gu:S≠I)(hi:IntsAre us (n0::nr)){s:Shared}{c:Nat}(hit:s.heap.IsListIter I l 0)(hl:s.heap.IsList l us.toArray)(hS:s.heap.get? S=some { cls:=.type "list",dict:=none,data:=.seq #[] c,slots := #[] })
  (hR:∀h' tk M t',pH (n0::nr) us.length M->(∀b o,b≠S->b≠I->s.heap.get? b=some o->h'.get? b=some o)->R (.ok (.ret (.int M t'))) { s with heap:=h',toks:=tk }) :
  codeAny (model prog w) A (.builtin "min.loop" ⟨[.ref I,.none,.ref S],kw⟩) R s:=by
 have W:=Walks.list (prog:=prog) (w:=w) (A:=A.in1) hh I l yy us.toArray;have fS:S∉[I]:=by simpa using gu
 have nm:(toString "min" ++ toString ".loop" : String) = "min.loop" := by decide
 have ul:0<us.length:=by have:=hi.length;simp at this;lia
 refine codeAny_builtin F.entry_min_loop ?_;rw[Around.under_plainId F.plain_min_loop _]
 show wpAny _ A.in1 (seqItems? (.ref S) >>= _) _ _ _;apply wpAny_bind;refine wpAny_seqItems hS rfl ?_
 show wpAny _ A.in1 (tryCatch (pyNext (.ref I)) _ >>= _) _ _ _;apply wpAny_bind;refine wpAny_tryCatch (W.item 0 s _ _ (by simpa using ul) ⟨hit,hl⟩ λv h' tk hP cA kk=>?_)
 have ev:us[0]? = some v:=by simpa using hP
 obtain⟨n,tn,en,rfl⟩:=Fl hi ev;cases en;have lg:=kk S _ fS hS
 show wpAny _ A.in1 (updateSeq S (λ_ => #[.int n0 tn,.int n0 tn]) >>= _) _ _ _;apply wpAny_bind;refine wpAny_updateSeq lg rfl ?_;rw[nm];have eE:=W.frame 1 h' (h'.update S (Obj.mapSeq λ_ => #[.int n0 tn,.int n0 tn])) cA λb hb o e=>(Heap.get?_update_other _ _ (λz:S=b=>by
  rw[← z] at hb;rcases List.mem_cons.mp hb with y | y
  ·exact gu y
  ·exact yz (List.mem_singleton.mp y))).trans e
 exact wpAny_pure ⟨plainId_quiet F.plain_min_loop _,acJ hh yy yz gu hi (us.length - 1) 1 _ n0 tn _ (by lia) eE.1 eE.2 (Heap.get?_update_self _ lg rfl) ⟨by simp,λa ha=>by simp at ha;lia⟩ λh2 cJ M t2 a1 a2=>hR h2 cJ M t2 a1 λb o b1 b2 e=>a2 b o b1 b2 ((Heap.get?_update_other _ _ (Ne.symm b1)).trans (kk b o (by simpa using b2) e))⟩
end
section
variable{X:Cx}{e d:Expr}{tl td:TE}{p1 p4 kp:Pos}
theorem acL(a v:Value):argsOk "min" ⟨[a],[(Str.ofString "default",v)]⟩:=by unfold argsOk;kernel_rfl
noncomputable def OS(K:PySem.W.Frag)(tl td:TE):TE:=λσ H Q=>tl σ H λx H1=>∃(l:Addr) (ns:List Int),x = .ref l/\td σ H1 λ_ H2=>aE K H2 l (ns.map V.int)/\0<ns.length/\∀M,M∈ns->(∀a,a∈ns->M<=a)->Q (.int M) H2
theorem acM(hg:Gl X "min")(hm:X.mg "min" = none)(hc:X.calm=true)(hl:PE X e tl)(hd:PE X d td)(hs:starEach [e] X.env = [(false,eval e X.env)]:=by rfl) :
  PE X (.Call (.Name "min" p1) [e] [⟨some "default",d,kp⟩] p4) (OS X.K tl td):=by
 intro pins s σ H Q I h;refine wpAny_Call_Name_kw (jQ I hg hm boot_min (callWith_kw (he:=by rw[hs];rfl) (hplain:=by rw[hs];rfl) ?_))
 rw[hs];refine Calls.spliced_cons (aM (hl pins s σ H _ I h) λu s1 ⟨v,H1,I1,r1,q1⟩=>?_);obtain⟨l,ns,rfl,q1⟩:=q1;cases r1;refine Calls.spliced_nil (kws_cons (aM (hd pins s1 σ H1 _ I1 q1) λdv s2 ⟨_,H2,I2,_,hq,hn,q⟩=>kws_nil ?_));have hh:=I2.ok.hd hc;obtain⟨us,rv,pl,_⟩:=I2.list hq;have hi:IntsAre us ns:=intsAre_of rv;obtain⟨n0,nr,rfl⟩:=List.exists_cons_of_ne_nil (List.length_pos_iff.mp hn);have nm:(toString "min" ++ toString ".loop" : String) = "min.loop" := by decide
 refine kmk_tree PySem.F.kind_min PySem.F.plain_min PySem.F.entry_min (acL _ _) ?_
 show wpAny _ X.A.in1 (Builtin.Builtins.bindParams "min" ["key", "default"] 0 ⟨[],[(Str.ofString "default",dv)]⟩ >>= _) _ _ s2;refine wpAny_bind (wpAny_of_eq (show Builtin.Builtins.bindParams "min" ["key", "default"] 0 ⟨[],[(Str.ofString "default",dv)]⟩=pure [none,some dv] from rfl) (wpAny_bind (wpAny_pure ?_)));refine wpAny_bind (wpAny_pyIter_list pl.isList (wpAny_bind (wpAny_newList ?_ (Nat.zero_le _))));rw[nm];have k1:∀b o,s2.heap.get? b=some o->(s2.heap.push { cls:=.type "list_iterator",data:=.fields #[.ref l,.int 0 0] }).get? b=some o:=λb o e=>Heap.get?_push_of_some _ e;generalize hq1:s2.heap.push { cls:=.type "list_iterator",data:=.fields #[.ref l,.int 0 0] }=hp at k1 ⊢;have hI:hp.get? s2.heap.objs.size=some { cls:=.type "list_iterator",data:=.fields #[.ref l,.int 0 0] }:=hq1▸Heap.get?_push_size _ rfl;have lI:s2.heap.objs.size<hp.objs.size:=Heap.lt_size hI;have qU:=pl.isList;obtain⟨ol,gl,_⟩:=id qU;have ll:l<s2.heap.objs.size:=Heap.lt_size gl;refine wpAny_pure ⟨plainId_quiet F.plain_min_loop _,acK (I:=s2.heap.objs.size) (S:=hp.objs.size) hh (Nat.ne_of_lt ll) (Nat.ne_of_gt (Nat.lt_trans ll lI)) (Nat.ne_of_gt lI) hi ⟨_,Heap.get?_push_of_some _ hI,rfl,rfl⟩ ((qU.at λo e=>Heap.get?_push_of_some _ (k1 _ _ e))) (Heap.get?_push_size _ rfl) λh' tk M t' lo old=>?_⟩;obtain⟨m1,m2⟩:=lo;have e:(n0::nr).take us.length=n0::nr:=List.take_of_length_le (by have:=hi.length;lia)
 rw[e] at m1 m2;refine⟨.int M,H2,I2.kept (t':=tk) λb o e=>old b o (λz=>?_) (λz=>?_) (Heap.get?_push_of_some _ (k1 b o e)),⟨_,rfl⟩,q M m1 m2⟩
 ·exact absurd (Nat.lt_trans (z▸Heap.lt_size e) lI) (Nat.lt_irrefl _)
 ·exact absurd (z▸Heap.lt_size e) (Nat.lt_irrefl _)
end
noncomputable def yD(K:PySem.W.Frag)(a:Addr)(ss:List Str):Prop :=
 ∃(o:Obj) (aC:Array Value) (n:Nat),K.lookup a=some o/\o.cls = .type "tuple"/\o.data = .seq aC n/\aC.size<=sizeLine/\Vals (ss.map V.str) aC.toList
theorem yD.sq{K:PySem.W.Frag}{a:Addr}{ss:List Str}{H:Hp}(h:yD K a ss):bE K H a (ss.map V.str):=.inr h
theorem OT(ss:List Str):(ss.map V.str).all jW=true:=by
 rw[List.all_eq_true];intro x hx;obtain⟨s,_,rfl⟩:=List.mem_map.mp hx
 rfl
theorem OU(w:Str)(ss:List Str):qA (.str w) (ss.map V.str)=decide (w∈ss):=by
 unfold qA;rw[List.any_map]
 induction ss with
 | nil=>simp
 | cons s ss ih =>
  rw[List.any_cons,ih];by_cases e:w=s
  ·subst e;simp[Function.comp,jX]
  ·have e':¬ s=w:=λz=>e z.symm;simp[Function.comp,jX,e,e']
section
variable{X:Cx}{CX:e9}{k1 k2:Nat}{f1 f2:Addr}{uu uv:List Addr}{qX qY:FuncData}{E_ ux:List Str}{pF uw:Sp}{E:XK}{m:Str}{pos apos:Pos}{o:Expr}{ta:TE}
end
noncomputable def yE:Sp:=λvs H Q _=>∃(x:Addr),vs = [.ref x]/\Q .aN H
noncomputable def lu(f a s:Int):Ak:=⟨"read",f,1,[],a,s,none,[],false⟩
section
variable{K:PySem.W.Frag}{C:Addr}{H H':Hp}{l p D:Addr}{ps:List Addr}{qs:List Ak}{q:Ak}{m b dx:Addr}{xs ys:List V}
theorem dN.i9(hD:H D=some (.lst xs))(h:dN K C H p q m b dx):dN K C (upd H D (.lst ys)) p q m b dx :=
 ⟨by rw[aD (λz=>by have:=h.o;rw[z,hD] at this;cases this)];exact h.o,
  by rw[aD (λz=>by have:=h.ms;rw[z,hD] at this;cases this)];exact h.ms,
  by rw[aD (λz=>by have:=h.bh;rw[z,hD] at this;cases this)];exact h.bh⟩
theorem cW.snoc(h:cW K C H l ps qs)(ha:dN K C H p q m b dx):cW K C (upd H l (.lst (ps.map V.ref++[V.ref p]))) l (ps++[p]) (qs++[q]):=by
 refine⟨by rw[aI,List.map_append];rfl,by simp[h.n],λi p' q' e1 e2=>?_⟩
 have hn:=h.n;by_cases hi:i<ps.length
 ·rw[List.getElem?_append_left hi] at e1;rw[List.getElem?_append_left (by lia)] at e2
  obtain⟨m',b',eu,z⟩:=h.t i p' q' e1 e2;exact⟨m',b',eu,z.i9 h.l⟩
 ·rw[List.getElem?_append_right (by lia)] at e1
  rw[List.getElem?_append_right (by lia)] at e2
  have gH:i - ps.length=0:=by
   have:=(List.getElem?_eq_some_iff.mp e1).1;simp at this;lia
  rw[gH] at e1;rw[← hn,gH] at e2;simp at e1 e2;subst e1 e2;exact⟨m,b,dx,ha.i9 h.l⟩
end
structure pI(P:Pl)(n:Int):Prop where
 r2:2<=P.rc.length
 c1:1<=P.rc.getD 1 0
 v:cC (qI P.nc) (kT (1,0))=some (.int n)
 n0:0<=n
 n1:n<=1000000
noncomputable def acN(K:PySem.W.Frag)(cs:List Addr)(CA:Addr):Sp:=λvs H Q _=>∃(C p:Addr) (P:Pl) (fp:List Addr) (n:Int),vs = [.ref p]/\C∈cs/\bY K C H p P fp/\pI P n/\
 ∀a mk b dx H',ah H H'->H a=none->dN K CA H' a (lu n 0 0) mk b dx->Q (.ref a) H'
noncomputable def Fo:List Str:=["first", "calm lift", "calm sweep"]
noncomputable def iG:List Str:=["nearest", "soonest", "latest", "lift", "sweep"]
section
variable{x:Addr}{H H1 H2:Hp}
end
noncomputable def acO(K:PySem.W.Frag)(CA CD:Addr)(cs:List Addr):Sp:=λvs H Q _=>∃(C x dx B:Addr) (st:Lt) (D:Addr) (ps:List Addr) (ds:List Dr),vs = [.ref x,.ref D]/\C∈cs/\pG K C/\eG C H x st dx B/\eS K CA CD H D ps ds/\ds.length<=100/\
 ∀D' fj B' H',(B' = B\/H B' = none)->SameBut x H H'->eG C H' x (gf st ds) dx B'->eS K CA CD H' D' fj (fK st ds)->Q (.ref D') H'
theorem acP{K:PySem.W.Frag}{f9 H:Hp}{σ:St}{g:TG}{tt:TT}{te td:TE}{nt:Nat}{fv:List Nat}{Q:VK}(a:Addr)(kvs:List (Key×V))(Pv:Obj->Addr->Nat->List V->St->Hp->Prop)(Fp:∀Q:VK,Q (.ref a) H->td σ H Q)(hq:H a=some (.dK kvs))(Fq:∀o u,f9 a≠some (.cI o u))
  (h0:∀ob D,H D=none->Pv ob D 0 [] (jc σ nt fv) (upd (upd H a (.cI ob (.dK kvs))) D (.lst []))) (hD:∀ob D i ys σ H,Pv ob D i ys σ H->H D=some (.lst ys)/\ys.length<sizeLine/\H a=some (.cI ob (.dK kvs)))
  (hs:∀ob D i x ys aq H2 (N:List V->St->Hp->Prop),(∀ys σ H,Pv ob D (i+1) ys σ H->N ys σ H)->kvs[i]? = some x->Pv ob D i ys aq H2->g x.2 aq H2 λbV H4=>tt bV H4 λb H5=>if b=true then te bV H5 λv H6=>H6 D=some (.lst ys)/\N (ys++[v]) bV (upd H6 D (.lst (ys++[v]))) else N ys bV H5)
  (hd:∀ob D ys aq H2,Pv ob D kvs.length ys aq H2->Q (.ref D) (upd H2 a (.dK kvs))):acG f9 (jD (Fj K td) g tt te nt fv) σ H Q:=by
 refine Fp _ ⟨a,kvs,rfl,hq,λob D fU=>?_⟩;have na:D≠a:=λz=>by rw[z,aI] at fU;cases fU
 have hD1:H D=none:=by rw[aD na] at fU;exact fU
 refine⟨λi m ys aq H2=>m=kvs.length - i/\i<=kvs.length/\Pv ob D i ys aq H2,⟨_,rfl,Nat.zero_le _,h0 ob D hD1⟩,?_⟩;rintro i m ys aq H2 ⟨rfl,h_,p⟩;obtain⟨d1,d2,d3⟩:=hD ob D i ys aq H2 p;refine⟨d1,d2,?_⟩;by_cases bT:i<kvs.length
 ·refine .inr ⟨⟨d3,bT⟩,λx H3 y=>?_⟩;obtain⟨e1,c,e2,e3⟩:=y;subst e1;subst e3;exact hs ob D i c ys aq H3 (λFt bz H'=>∃m',m' < kvs.length - i/\m' = kvs.length - (i+1)/\i+1<=kvs.length/\Pv ob D (i+1) Ft bz H') (λys σ H p=>⟨_,by lia,rfl,by lia,p⟩) e2 p
 ·have:i=kvs.length:=by lia
  subst this;exact .inl ⟨⟨d3,Nat.le_refl _⟩,a,ob,kvs,d3,Fq,hd ob D ys aq H2 p⟩
noncomputable def OV(f9:Hp)(t:TS):TS:=λD σ H=>t { D with nx:=λeN H1=>∃a ob kvs,H1 a=some (.cI ob (.dK kvs))/\(∀o u,f9 a≠some (.cI o u))/\D.nx eN (upd H1 a (.dK kvs))} σ H
theorem OW{X:Cx}{st:Stmt}{t:TS}(h:PS X st t):PS X st (OV X.f9 t):=by
 intro pins s σ H D I q;refine aM (h pins s σ H _ I q) λf s1 z=>?_;cases f with
 | next =>
  obtain⟨eN,H1,I1,a,ob,kvs,e,h0,q1⟩:=z;exact⟨eN,_,I1.acF e h0,q1⟩
 | ret v=>exact z
 | brk=>exact z
 | cont=>exact z
theorem OX{K:PySem.W.Frag}{f9 H:Hp}{σ:St}{g:TG}{tt:TT}{te td:TE}{nt:Nat}{fv:List Nat}{E:Ends}{j:Nat}(a:Addr)(kvs:List (Key×V))(Pv:Obj->Addr->Nat->List V->St->Hp->Prop)(Fp:∀Q:VK,Q (.ref a) H->td σ H Q)(hq:H a=some (.dK kvs))(Fq:∀o u,f9 a≠some (.cI o u))
  (h0:∀ob D,H D=none->Pv ob D 0 [] (jc σ nt fv) (upd (upd H a (.cI ob (.dK kvs))) D (.lst []))) (hD:∀ob D i ys σ H,Pv ob D i ys σ H->H D=some (.lst ys)/\ys.length<sizeLine/\H a=some (.cI ob (.dK kvs)))
  (hs:∀ob D i x ys aq H2 (N:List V->St->Hp->Prop),(∀ys σ H,Pv ob D (i+1) ys σ H->N ys σ H)->kvs[i]? = some x->Pv ob D i ys aq H2->g x.2 aq H2 λbV H4=>tt bV H4 λb H5=>if b=true then te bV H5 λv H6=>H6 D=some (.lst ys)/\N (ys++[v]) bV (upd H6 D (.lst (ys++[v]))) else N ys bV H5)
  (hd:∀ob D ys aq H2,Pv ob D kvs.length ys aq H2->E.nx (σ.set j (some (.ref D))) (upd H2 a (.dK kvs))):OV f9 (wU (jD (Fj K td) g tt te nt fv) (mV j)) E σ H :=
 acP (Q:=λv H'=>E.nx (σ.set j (some v)) H') a kvs Pv Fp hq Fq h0 hD hs hd
section
variable{K:PySem.W.Frag}{H:Hp}{σ:St}{g:TG}{tt:TT}{te tl:TE}{nt:Nat}{fv:List Nat}{Q:VK}
theorem acQ(a:Addr)(xs:List V)(Pv:Addr->Nat->List V->St->Hp->Prop)(j8:∀Q:VK,Q (.ref a) H->tl σ H Q)(e_:bE K H a xs)
  (h0:∀D,H D=none->Pv D 0 [] (jc σ nt fv) (upd H D (.lst []))) (hD:∀D i ys σ H,Pv D i ys σ H->H D=some (.lst ys)/\ys.length<sizeLine/\bE K H a xs)
  (hs:∀D i x ys aq H2 (N:List V->St->Hp->Prop),(∀ys σ H,Pv D (i+1) ys σ H->N ys σ H)->xs[i]? = some x->Pv D i ys aq H2->g x aq H2 λbV H4=>tt bV H4 λb H5=>if b=true then te bV H5 λv H6=>H6 D=some (.lst ys)/\N (ys++[v]) bV (upd H6 D (.lst (ys++[v]))) else N ys bV H5)
  (hd:∀D ys aq H2,Pv D xs.length ys aq H2->Q (.ref D) H2):jD (DH K tl) g tt te nt fv σ H Q:=by
 refine j8 _ ⟨a,rfl,⟨xs,e_⟩,λD fU=>?_⟩;refine⟨λi m ys aq H2=>m=xs.length - i/\i<=xs.length/\Pv D i ys aq H2,⟨_,rfl,Nat.zero_le _,h0 D fU⟩,?_⟩;rintro i m ys aq H2 ⟨rfl,h_,p⟩;obtain⟨d1,d2,d3⟩:=hD D i ys aq H2 p;refine⟨d1,d2,?_⟩;by_cases bT:i<xs.length
 ·refine .inr ⟨⟨xs,xs[i],d3,by simp[bT]⟩,λx H3 y=>?_⟩
  obtain⟨e1,e2⟩:=y;subst e1;exact hs D i x ys aq _ (λFt bz H'=>∃m',m' < xs.length - i/\m' = xs.length - (i+1)/\i+1<=xs.length/\Pv D (i+1) Ft bz H') (λys σ H p=>⟨_,by lia,rfl,by lia,p⟩) (e2 xs d3) p
 ·have e:i=xs.length:=by lia
  subst e;exact .inl ⟨⟨xs,d3,Nat.le_refl _⟩,hd D ys aq H2 p⟩
end
theorem OY{K:PySem.W.Frag}{H:Hp}{σ:St}{g:TG}{tt:TT}{te tl:TE}{nt:Nat}{fv:List Nat}{Q:VK}(h:tl σ H λv H1=>jD (oN K λ_ H' Q'=>Q' v H') g tt te nt fv σ H1 Q):jD (oN K tl) g tt te nt fv σ H Q:=h
theorem acR(P:Pl)(s:Int×Int){xs:List (Int×Int)}(h:xs≠[]):∃zs a b,gc P s xs=zs++[[(c9 P s xs).1,a,b,(c9 P s xs).2]]:=by
 obtain⟨ys,q,rfl⟩:∃ys q,xs=ys++[q]:=⟨xs.dropLast,xs.getLast h,(List.dropLast_concat_getLast h).symm⟩;rw[EH,EG];exact⟨_,_,_,rfl⟩
theorem Zt.last{H:Hp}{l:Addr}{ts:List Addr}{z:List (List Int)}{r:List Int}(h:Zt H l ts (z++[r])):∃q9 t,ts=q9++[t]/\H t=some (.tup (r.map V.int)):=by
 have hn:=h.n;rw[List.length_append,List.length_singleton] at hn;have fV:ts≠[]:=λe=>by rw[e] at hn;simp at hn
 refine⟨ts.dropLast,ts.getLast fV,(List.dropLast_concat_getLast fV).symm,h.t z.length _ r ?_ (by simp)⟩
 rw[List.getLast_eq_getElem,List.getElem?_eq_getElem (by lia)]
 simp[hn]
theorem acS{r:List Int}(h:r.length=4):∃a b c d,r = [a,b,c,d]:=by
 match r,h with
 | [a,b,c,d],_=>exact⟨a,b,c,d,rfl⟩
noncomputable def cO(ls:List (Dr×Addr)):List (Key×V):=ls.map λy=>(cN y.1.n,V.ref y.2)
noncomputable def kq(ls:List (Dr×Addr))(n:Int):Bool:=ls.any λy=>decide (y.1.n=n)
theorem uB{a b:Int}:cN a=cN b↔a=b:=by unfold cN;exact⟨λz=>Sum.inl.inj z,λz=>by rw[z]⟩
theorem OZ(ls:List (Dr×Addr))(n:Int):(cC (cO ls) (cN n)).isSome=kq ls n:=by
 induction ls with
 | nil=>rfl
 | cons y ls ih =>
  unfold cC cO kq at *
  rw[List.map_cons,List.find?_cons,List.any_cons];by_cases e:y.1.n=n
  ·subst e;simp
  ·have:¬ cN y.1.n=cN n:=λz=>e (uB.mp z);simp only[this,e,decide_false,Bool.false_or];exact ih
theorem acT{ls:List (Dr×Addr)}(up:ls.Pairwise λa b=>a.1.n<b.1.n){y:Dr×Addr}(hy:y∈ls):cC (cO ls) (cN y.1.n)=some (.ref y.2):=by
 induction ls with
 | nil=>cases hy
 | cons z ls ih =>
  rw[List.pairwise_cons] at up;unfold cC cO at *
  rw[List.map_cons,List.find?_cons];rcases List.mem_cons.mp hy with rfl | hy
  ·simp
  ·have:=up.1 y hy;have:¬ cN z.1.n=cN y.1.n:=λe=>by have:=uB.mp e;lia
   simp only[this,decide_false];exact ih up.2 hy
theorem O0(ls:List (Dr×Addr))(n:Int):iD (cO ls) (cN n)=cO (ls.filter λy=>decide (y.1.n≠n)):=by
 unfold iD cO;rw[List.filter_map];congr 1;refine List.filter_congr λy _=>?_
 show decide (cN y.1.n≠cN n)=_;rw[decide_eq_decide];exact not_congr uB
noncomputable def dW(kp p:Addr)(r b:Int)(Dx:Addr):List (Str×V):=[("keeping",.ref kp),("plate",.ref p),("ring",.int r),("beat",.int b),("left",.ref Dx)]
noncomputable def yF(K:PySem.W.Frag)(CA CD:Addr)(H:Hp)(y:Dr×Addr):Prop:=∃dx ap l ts m b bC,gM K CA CD H y.2 y.1 dx ap l ts m b bC
structure bN(K:PySem.W.Frag)(CC CA CD:Addr)(H:Hp)(x dx kp:Addr)(ks:List Addr)(kk:List (List Int))(p:Addr)(r b:Int)(Dx:Addr)(ls:List (Dr×Addr)):Prop where
 o:H x=some (.ins CC dx (dW kp p r b Dx))
 k:Zt H kp ks kk
 d:H Dx=some (.dK (cO ls))
 t:∀y∈ls,yF K CA CD H y
 up:ls.Pairwise λa b=>a.1.n<b.1.n
 n:ls.length<=100
 kn:∀y∈ls,0<=y.1.n/\y.1.n<kk.length
noncomputable def bW(x Dx:Addr)(H H':Hp):Prop:=∀b o,H b=some o->b≠x->b≠Dx->H' b=some o
section
variable{K:PySem.W.Frag}{CC CA CD:Addr}{H H' H1:Hp}{x dx kp:Addr}{ks:List Addr}{kk:List (List Int)}{p:Addr}{r b:Int}{Dx:Addr}{ls:List (Dr×Addr)}
theorem bW.of(s:ah H H'):bW x Dx H H':=λ_ _ e _ _=>s _ _ e
theorem bW.trans(s:bW x Dx H H1)(t:bW x Dx H1 H'):bW x Dx H H':=λ_ _ e n1 n2=>t _ _ (s _ _ e n1 n2) n1 n2
theorem bW.Fv{o:HO}(s:bW x Dx H H'):bW x Dx H (upd H' x o):=λ_ _ e n1 n2=>by rw[aD n1];exact s _ _ e n1 n2
theorem bW.q_{o:HO}(s:bW x Dx H H'):bW x Dx H (upd H' Dx o):=λ_ _ e n1 n2=>by rw[aD n2];exact s _ _ e n1 n2
theorem bW.put{l:Addr}{o:HO}(s:bW x Dx H H')(n:H l=none):bW x Dx H (upd H' l o):=λ_ _ e n1 n2=>by rw[aD (λz=>by rw[z,n] at e;cases e)];exact s _ _ e n1 n2
theorem bN.nf(h:bN K CC CA CD H x dx kp ks kk p r b Dx ls):∀o u,H Dx≠some (.cI o u):=λo u z=>by rw[h.d] at z;cases z
theorem bN.ne(h:bN K CC CA CD H x dx kp ks kk p r b Dx ls):x≠Dx:=λz=>by have:=h.o;rw[z,h.d] at this;cases this
theorem uC:(cO ls).length=ls.length:=by simp[cO]
theorem bN.lst(h:bN K CC CA CD H x dx kp ks kk p r b Dx ls)(s:bW x Dx H H'){a:Addr}{xs:List V}(e:H a=some (.lst xs)):H' a=some (.lst xs) :=
 s _ _ e (λz=>by have:=h.o;rw[← z,e] at this;cases this) (λz=>by have:=h.d;rw[← z,e] at this;cases this)
theorem bN.tup(h:bN K CC CA CD H x dx kp ks kk p r b Dx ls)(s:bW x Dx H H'){a:Addr}{xs:List V}(e:H a=some (.tup xs)):H' a=some (.tup xs) :=
 s _ _ e (λz=>by have:=h.o;rw[← z,e] at this;cases this) (λz=>by have:=h.d;rw[← z,e] at this;cases this)
theorem bN.ins(h:bN K CC CA CD H x dx kp ks kk p r b Dx ls)(s:bW x Dx H H'){a C d:Addr}{fs:List (Str×V)}(e:H a=some (.ins C d fs))(n:fs.lookup ("keeping" : Str)=none):H' a=some (.ins C d fs) :=
 s _ _ e (λz=>by have:=h.o;rw[← z,e] at this;cases this;simp[dW,List.lookup_cons] at n) (λz=>by have:=h.d;rw[← z,e] at this;cases this)
theorem bN.zt(h:bN K CC CA CD H x dx kp ks kk p r b Dx ls)(s:bW x Dx H H'){a:Addr}{ts:List Addr}{z:List (List Int)}(e:Zt H a ts z):Zt H' a ts z:=⟨h.lst s e.l,e.n,λi t r e1 e2=>h.tup s (e.t i t r e1 e2)⟩
theorem bN.zn(h:bN K CC CA CD H x dx kp ks kk p r b Dx ls)(s:bW x Dx H H'){a:Addr}{ts:List Addr}{z:List (Int×Int)}(e:Zn H a ts z):Zn H' a ts z:=⟨h.lst s e.l,e.n,λi t r e1 e2=>h.tup s (e.t i t r e1 e2)⟩
theorem bN.ak(h:bN K CC CA CD H x dx kp ks kk p r b Dx ls)(s:bW x Dx H H'){a C m b2 d:Addr}{q:Ak}(e:dN K C H a q m b2 d):dN K C H' a q m b2 d:=⟨h.ins s e.o (by simp[fh,List.lookup_cons,fc]),h.tup s e.ms,h.tup s e.bh⟩
theorem bN.du(h:bN K CC CA CD H x dx kp ks kk p r b Dx ls)(s:bW x Dx H H'){a d ap l m b2 bC:Addr}{y:Dr}{ts:List Addr}(e:gM K CA CD H a y d ap l ts m b2 bC):gM K CA CD H' a y d ap l ts m b2 bC:=⟨h.ins s e.o (by simp[ig,List.lookup_cons,fc]),h.ak s e.a,h.zn s e.c⟩
theorem bN.rm(h:bN K CC CA CD H x dx kp ks kk p r b Dx ls)(s:bW x Dx H H'){y:Dr×Addr}(e:yF K CA CD H y):yF K CA CD H' y:=let ⟨a,b,c,d,e,f,g,z⟩:=e;⟨a,b,c,d,e,f,g,h.du s z⟩
theorem bN.Fw(h:bN K CC CA CD H x dx kp ks kk p r b Dx ls)(s:bW x Dx H H'){C a:Addr}{P:Pl}{fp:List Addr}(e:bY K C H a P fp):bY K C H' a P fp:=by
 obtain⟨eu,a1,a2,a3,a4,ts,fs,e,g⟩:=e;have f1:=g.f1;refine⟨eu,a1,a2,a3,a4,ts,fs,e,{ g with o:=s _ _ g.o (λz=>?_) (λz=>?_),rc:=h.lst s g.rc,sw:=h.lst s g.sw,nc:=h.zn s g.nc,cn:=s _ _ g.cn (λz=>?_) (λz=>?_)}⟩
 ·have:=h.o;rw[← z,g.o] at this;cases this;simp[dW,List.lookup_cons,fc] at f1
 ·have:=h.d;rw[← z,g.o] at this;cases this
 ·have:=h.o;rw[← z,g.cn] at this;cases this
 ·have:=h.d;rw[← z,g.cn] at this;cases this
theorem bN.step(h:bN K CC CA CD H x dx kp ks kk p r b Dx ls)(s:bW x Dx H H'){r2 b2:Int}{c_:List (Dr×Addr)}(sub:c_.Sublist ls)(o:H' x=some (.ins CC dx (dW kp p r2 b2 Dx)))(d:H' Dx=some (.dK (cO c_))):bN K CC CA CD H' x dx kp ks kk p r2 b2 Dx c_ :=
 ⟨o,h.zt s h.k,d,λy hy=>h.rm s (h.t y (sub.subset hy)),h.up.sublist sub,Nat.le_trans sub.length_le h.n,λy hy=>h.kn y (sub.subset hy)⟩
theorem bN.free(h:bN K CC CA CD H' x dx kp ks kk p r b Dx ls)(s:bW x Dx H H'){a:Addr}(n:H' a=none):H a=none:=by
 cases e:H a with
 | none=>rfl
 | some o =>
  have:=s _ _ e (λz=>by have:=h.o;rw[← z,n] at this;cases this) (λz=>by have:=h.d;rw[← z,n] at this;cases this)
  rw[n] at this;cases this
theorem bN.same(h:bN K CC CA CD H x dx kp ks kk p r b Dx ls)(s:ah H H'):bN K CC CA CD H' x dx kp ks kk p r b Dx ls:=h.step (bW.of s) (.refl _) (s _ _ h.o) (s _ _ h.d)
theorem bN.kt(h:bN K CC CA CD H x dx kp ks kk p r b Dx ls)(s:cu H H'):bN K CC CA CD H' x dx kp ks kk p r b Dx ls :=
 ⟨s.ins h.o (by simp[jg,dW,List.lookup_cons,fc]),⟨s.lst h.k.l,h.k.n,λi t r e1 e2=>s.tup (h.k.t i t r e1 e2)⟩,s _ _ h.d (.of (λ_ z=>nomatch z) (λ_ _ _ z=>nomatch z) λ_ z=>nomatch z),λy hy=>let ⟨a,b,c,d,e,f,g,z⟩:=h.t y hy;⟨a,b,c,d,e,f,g,z.kt s⟩,h.up,h.n,h.kn⟩
end
noncomputable def O1(ls:List (Dr×Addr))(b b2:Int):Prop:=∃M,(∃y∈ls,y.1.q.at_=M)/\(∀y∈ls,M<=y.1.q.at_)/\b2=if b<M then M else b
noncomputable def acU(K:PySem.W.Frag)(CC CA CD:Addr):Sp:=λvs H Q _=>∃(x dx kp:Addr) (ks:List Addr) (kk:List (List Int)) (p:Addr) (r b:Int) (Dx:Addr) (ls:List (Dr×Addr)),vs = [.ref x]/\bN K CC CA CD H x dx kp ks kk p r b Dx ls/\1<=ls.length/\
 ∀b2 H',O1 ls b b2->bW x Dx H H'->bN K CC CA CD H' x dx kp ks kk p r b2 Dx ls->Q .aN H'
noncomputable def acV(K:PySem.W.Frag)(CC CA CD:Addr):Sp:=λvs H Q _=>∃(x dx kp:Addr) (ks:List Addr) (kk:List (List Int)) (p:Addr) (r b:Int) (Dx:Addr) (ls:List (Dr×Addr)) (n:Nat) (ns:List Int),vs = [.ref x,.int (n:Int)]/\bN K CC CA CD H x dx kp ks kk p r b Dx ls/\kk[n]? = some ns/\ns.length<=1000/\
 ∀H',ah H H'->Q (.bl (ns.any (kq ls))) H'
noncomputable def uD(kk:List (List Int))(b:Int)(ls:List (Dr×Addr)):List (Dr×Addr):=(ls.filter λy=>decide (y.1.q.at_<=b)).filter λy => !((kk.getD y.1.n.toNat []).any (kq ls))
noncomputable def acW(K:PySem.W.Frag)(CC CA CD:Addr):Sp:=λvs H Q _=>∃(x dx kp:Addr) (ks:List Addr) (kk:List (List Int)) (p:Addr) (r b:Int) (Dx:Addr) (ls:List (Dr×Addr)),vs = [.ref x]/\bN K CC CA CD H x dx kp ks kk p r b Dx ls/\1<=ls.length/\(∀ns∈kk,ns.length<=1000)/\
 ∀b2 D H',O1 ls b b2->bW x Dx H H'->bN K CC CA CD H' x dx kp ks kk p r b2 Dx ls->H D=none->eS K CA CD H' D ((uD kk b2 ls).map (·.2)) ((uD kk b2 ls).map (·.1))->Q (.ref D) H'
noncomputable def acX(K:PySem.W.Frag)(cs:List Addr)(CC CA CD:Addr):Sp:=λvs H Q _=>∃(C x dx kp:Addr) (ks:List Addr) (kk:List (List Int)) (p:Addr) (P:Pl) (fp:List Addr) (r b:Int) (Dx:Addr) (ls:List (Dr×Addr)) (y:Dr×Addr),vs = [.ref x,.int y.1.n]/\bN K CC CA CD H x dx kp ks kk p r b Dx ls/\y∈ls/\
 C∈cs/\bY K C H p P fp/\jF P/\0<=r/\r<P.rc.length/\k8 P y.1.c/\1<=y.1.c.length/\y.1.c.length<=1000/\
 ∀l ts H',bW x Dx H H'->H l=none->bN K CC CA CD H' x dx kp ks kk p (c9 P (r,b) y.1.c).1 (c9 P (r,b) y.1.c).2 Dx (ls.filter λz=>decide (z.1.n≠y.1.n))->Zt H' l ts ((gc P (r,b) y.1.c).map λrow=>y.1.n::row)->Q (.ref l) H'
noncomputable def dX(nc:List (Int×Int)):Nat->List Ak->List Dr
 | _,[]=>[]
 | k,q::r=>⟨(k:Int),q,cH nc q.first q.many⟩::dX nc (k+1) r
theorem O2(nc:List (Int×Int))(q:Ak):∀(qs:List Ak) (k:Nat),dX nc k (qs++[q])=dX nc k qs++[⟨((k+qs.length:Nat):Int),q,cH nc q.first q.many⟩]
 | [],k=>by simp[dX]
 | a::qs,k=>by
  have e:k+1+qs.length=k+(qs.length+1):=by lia
  simp[dX,O2 nc q qs (k+1),e]
theorem Fx(nc:List (Int×Int)):∀(qs:List Ak) (k:Nat),(dX nc k qs).length=qs.length
 | [],k=>rfl
 | a::qs,k=>by simp[dX,Fx nc qs (k+1)]
theorem uE(nc:List (Int×Int)):∀(qs:List Ak) (k:Nat) (d:Dr),d∈dX nc k qs->(k:Int)<=d.n/\d.n<((k+qs.length:Nat):Int)
 | [],k,d,h=>by cases h
 | a::qs,k,d,h=>by
  rcases List.mem_cons.mp h with rfl | h
  ·dsimp only;simp only[List.length_cons];lia
  ·have:=uE nc qs (k+1) d h;simp only[List.length_cons];lia
theorem O3{r:List Int}(h:r.length=5):∃a b c d e,r = [a,b,c,d,e]:=by
 match r,h with
 | [a,b,c,d,e],_=>exact⟨a,b,c,d,e,rfl⟩
section
variable{K:PySem.W.Frag}{CC CA CD:Addr}{H H':Hp}{x dx:Addr}
theorem rq(hx:H x=some (.ins CC dx []))(s:SameBut x H H'){a:Addr}{xs:List V}(e:H a=some (.lst xs)):H' a=some (.lst xs):=s _ _ e (λz=>by rw[z,hx] at e;cases e)
theorem yG(hx:H x=some (.ins CC dx []))(s:SameBut x H H'){a:Addr}{xs:List V}(e:H a=some (.tup xs)):H' a=some (.tup xs):=s _ _ e (λz=>by rw[z,hx] at e;cases e)
theorem acY(hx:H x=some (.ins CC dx []))(s:SameBut x H H'){a:Addr}{ts:List Addr}{z:List (List Int)}(e:Zt H a ts z):Zt H' a ts z:=⟨rq hx s e.l,e.n,λi t r e1 e2=>yG hx s (e.t i t r e1 e2)⟩
theorem acZ(hx:H x=some (.ins CC dx []))(s:SameBut x H H'){a C m b d:Addr}{q:Ak}(e:dN K C H a q m b d):dN K C H' a q m b d:=⟨s _ _ e.o (λz=>by have:=e.o;rw[z,hx] at this;simp[fh] at this),yG hx s e.ms,yG hx s e.bh⟩
theorem ac0(hx:H x=some (.ins CC dx []))(s:SameBut x H H'){C a:Addr}{P:Pl}{fp:List Addr}(e:bY K C H a P fp):bY K C H' a P fp:=by
 obtain⟨eu,a1,a2,a3,a4,ts,fs,e,g⟩:=e;have f1:=g.f1;refine⟨eu,a1,a2,a3,a4,ts,fs,e,{ g with o:=s _ _ g.o (λz=>?_),rc:=rq hx s g.rc,sw:=rq hx s g.sw,nc:=⟨rq hx s g.nc.l,g.nc.n,λi t r e1 e2=>yG hx s (g.nc.t i t r e1 e2)⟩,cn:=s _ _ g.cn (λz=>?_)}⟩
 ·have:=g.o;rw[z,hx] at this;cases this;simp at f1
 ·have:=g.cn;rw[z,hx] at this;cases this
end
section
variable{K:PySem.W.Frag}{CC CA CD:Addr}{H:Hp}{x dx kp:Addr}{ks:List Addr}{kk:List (List Int)}{p:Addr}{r b:Int}{Dx:Addr}{ls:List (Dr×Addr)}
theorem bN.add(h:bN K CC CA CD H x dx kp ks kk p r b Dx ls){y:Dr×Addr}(hy:yF K CA CD H y)(n0:0<=y.1.n)(n1:y.1.n<kk.length)(up:∀z∈ls,z.1.n<y.1.n)(hn:ls.length<100):bN K CC CA CD (upd H Dx (.dK (putK (cO ls) (cN y.1.n) (.ref y.2)))) x dx kp ks kk p r b Dx (ls++[y]):=by
 have s:bW x Dx H (upd H Dx (.dK (putK (cO ls) (cN y.1.n) (.ref y.2)))):=(bW.of (λ_ _ e=>e)).q_;have nv:cC (cO ls) (cN y.1.n)=none:=by
  cases e:cC (cO ls) (cN y.1.n) with
  | none=>rfl
  | some v =>
   have:=OZ ls y.1.n;rw[e] at this;obtain⟨z,hz,e2⟩:=List.any_eq_true.mp this.symm;have:=of_decide_eq_true e2;have:=up z hz;lia
 refine⟨by rw[aD h.ne];exact h.o,h.zt s h.k,?_,λz hz=>?_,?_,by rw[List.length_append,List.length_singleton];lia,λz hz=>?_⟩
 ·rw[aI,ZW _ nv];unfold cO;rw[List.map_append];rfl
 ·rcases List.mem_append.mp hz with hz | hz
  ·exact h.rm s (h.t z hz)
  ·rw[List.mem_singleton.mp hz];exact h.rm s hy
 ·rw[List.pairwise_append];exact⟨h.up,List.pairwise_singleton _ _,λa ha c hc=>by rw[List.mem_singleton.mp hc];exact up a ha⟩
 ·rcases List.mem_append.mp hz with hz | hz
  ·exact h.kn z hz
  ·rw[List.mem_singleton.mp hz];exact⟨n0,n1⟩
end
noncomputable def ac1(K:PySem.W.Frag)(cs:List Addr)(CC CA CD:Addr):Sp:=λvs H Q _=>∃(C x dx p la:Addr) (P:Pl) (fp ps:List Addr) (qs:List Ak) (r:Int),vs = [.ref x,.ref p,.ref la,.int r]/\H x=some (.ins CC dx [])/\C∈cs/\bY K C H p P fp/\P.nc.length<=1000000/\cW K CA H la ps qs/\x8 P.nc.length qs/\(∀q∈qs,q.kind≠"rest")/\
 ∀kp ks Dx ls H',SameBut x H H'->H Dx=none->bN K CC CA CD H' x dx kp ks (iQ qs qs.length) p r 0 Dx ls->ls.map (·.1)=dX P.nc 0 qs->Q .aN H'
noncomputable def O4(CP:Addr):Sp:=λvs H Q _=>∃(x dx:Addr) (v1 v2 v3 v4 v5:V),vs = [.ref x,v1,v2,v3,v4,v5]/\H x=some (.ins CP dx [])/\
 Q .aN (upd H x (.ins CP dx [("rows",v1),("taken",v2),("told",v3),("answers",v4),("end",v5)]))
noncomputable def ac2(K:PySem.W.Frag):Sp:=λvs H Q _=>∃(l:Addr) (ts:List Addr) (z:List (List Int)),vs = [.ref l]/\Zt H l ts z/\z.length<=100000/\(∀r∈z,r.length=5)/\
 ∀E kvs H',ah H H'->H E=none->H' E=some (.dK kvs)->(∀n:Int,(∃r∈z,r.head? = some n)->∃e:Int,cC kvs (cN n)=some (.int e))->Q (.ref E) H'
noncomputable def ac3(K:PySem.W.Frag)(CA:Addr):Sp:=λvs H Q _=>∃(a:Addr) (q:Ak) (m b dx:Addr),vs = [.ref a]/\dN K CA H a q m b dx/\0<=q.first/\q.first<=1000000/\0<=q.many/\q.many<=16/\
 ∀l (ns:List Int) H',ah H H'->H l=none->ns.length=q.many.toNat->H' l=some (.lst (ns.map V.int))->Q (.ref l) H'
noncomputable def O5(K:PySem.W.Frag)(CA:Addr):Sp:=λvs H Q _=>∃(la:Addr) (ps:List Addr) (qs:List Ak) (pi:Addr) (ns:List Int),vs = [.ref la,.ref pi]/\cW K CA H la ps qs/\qs.length<=100/\(∀q∈qs,q.kind = "read"/\0<=q.first/\q.first<=1000000/\0<=q.many/\q.many<=16)/\H pi=some (.lst (ns.map V.int))/\ns.length<=100/\(∀n∈ns,0<=n/\n<qs.length)/\
 ∀l H',ah H H'->Q (.ref l) H'
noncomputable def O6(K:PySem.W.Frag)(CA:Addr):Sp:=λvs H Q _=>∃(la:Addr) (ps:List Addr) (qs:List Ak) (E:Addr) (kvs:List (Key×V)) (sh:Int),vs = [.ref la,.ref E,.int sh]/\cW K CA H la ps qs/\qs.length<=100/\(∀q∈qs,q.kind = "read"/\q.early=false)/\H E=some (.dK kvs)/\(∀n:Int,0<=n->n<qs.length->∃e:Int,cC kvs (cN n)=some (.int e))/\
 ∀l H',ah H H'->Q (.ref l) H'
structure yH(P:Pl)(q:Ak):Prop where
 k:q.kind = "read"
 e:q.early=false
 b:q.behind = []
 f0:0<=q.first
 f1:q.first<=1000000
 m0:1<=q.many
 m1:q.many<=16
 c:k8 P (cH P.nc q.first q.many)
 cn:(cH P.nc q.first q.many).length=q.many.toNat
noncomputable def O7(ds:List Dr)(b b2:Int):Prop:=∃M,(∃d∈ds,d.q.at_=M)/\(∀d∈ds,M<=d.q.at_)/\b2=if b<M then M else b
noncomputable def cY(n:Nat)(tk:List (Int×Int)):List V:=tk.foldl (λxs p=>xs.set p.1.toNat (.int p.2)) (List.replicate n .aN)
theorem ac4(n:Nat)(tk:List (Int×Int))(p:Int×Int):cY n (tk++[p])=(cY n tk).set p.1.toNat (.int p.2):=by
 unfold cY;rw[List.foldl_append];rfl
theorem Fy(n:Nat)(tk:List (Int×Int)):(cY n tk).length=n:=by
 unfold cY
 suffices ∀xs:List V,(tk.foldl (λxs p=>xs.set p.1.toNat (.int p.2)) xs).length=xs.length by rw[this,List.length_replicate]
 induction tk with
 | nil=>intro xs;rfl
 | cons p tk ih=>intro xs;rw[List.foldl_cons,ih,List.length_set]
theorem ac5(n:Nat)(tk:List (Int×Int)):iV (cY n tk):=by
 have h:∀v∈cY n tk,v = .aN\/∃i,v=V.int i:=by
  unfold cY
  suffices ∀xs:List V,(∀v∈xs,v = .aN\/∃i,v=V.int i)->∀v∈tk.foldl (λxs p=>xs.set p.1.toNat (.int p.2)) xs,v = .aN\/∃i,v=V.int i from
   this _ λv hv=>.inl (List.eq_of_mem_replicate hv)
  induction tk with
  | nil=>intro xs h;exact h
  | cons p tk ih =>
   intro xs h;rw[List.foldl_cons];refine ih _ λv hv=>?_;rcases List.mem_or_eq_of_mem_set hv with hv | rfl
   ·exact h v hv
   ·exact .inr ⟨_,rfl⟩
 intro i j z;have:=h (.bl i) (by rw[z];simp)
 rcases this with e | ⟨_,e⟩ <;> cases e
noncomputable def ac6(v1:V)(ta:Addr)(v3 v4 v5:V):List (Str×V):=[("rows",v1),("taken",.ref ta),("told",v3),("answers",v4),("end",v5)]
section
variable{K:PySem.W.Frag}{cf:List Addr}{CL CS CC CA CD:Addr}{o:Option Bool}{st:Lt}{H H' H1:Hp}{ru dx B x dc kp p Dx:Addr}{ks:List Addr}{kk:List (List Int)}{r b:Int}{ls:List (Dr×Addr)}{TP:Addr}{pos:Pos}{qual:Str}
theorem cu.iH(k:cu H H')(s:bW x Dx H' H1)(nx:H x=none)(nd:H Dx=none):cu H H1:=λ_ _ e n=>s _ _ (k _ _ e n) (λw=>by rw[w,nx] at e;cases e) (λw=>by rw[w,nd] at e;cases e)
theorem bS.iH(t:bS TP pos qual H)(c:bN K CC CA CD H x dc kp ks kk p r b Dx ls)(s:bW x Dx H H'):bS TP pos qual H':=by
 obtain⟨ps,e,tr,w⟩:=t;have go:∀ {a:Addr} {u:HO},H a=some u->(∀C d fs,u≠.ins C d fs)->(∀k,u≠.dK k)->H' a=some u:=λ{a u} e n1 n2=>s _ _ e (λz=>by have:=c.o;rw[← z,e] at this;exact n1 _ _ _ (Option.some.inj this)) (λz=>by have:=c.d;rw[← z,e] at this;exact n2 _ (Option.some.inj this))
 refine⟨ps,go e (λ_ _ _ z=>nomatch z) (λ_ z=>nomatch z),tr,?_⟩;rcases w with w | ⟨c',e1,e2⟩
 ·exact .inl w
 ·exact .inr ⟨c',e1,go e2 (λ_ _ _ z=>nomatch z) (λ_ z=>nomatch z)⟩
noncomputable def jG(x Dx:Addr)(H H':Hp):Prop:=∀b o,H b=some o->l8 o->b≠x->b≠Dx->H' b=some o
theorem jG.iH(k:jG x Dx H H')(s:bW x Dx H' H1):jG x Dx H H1:=λ_ _ e n n1 n2=>s _ _ (k _ _ e n n1 n2) n1 n2
theorem jG.kt(k:jG x Dx H H')(s:cu H' H1):jG x Dx H H1:=λ_ _ e n n1 n2=>s _ _ (k _ _ e n n1 n2) n
theorem jG.put{l:Addr}{u:HO}(k:jG x Dx H H')(nl:H l=none):jG x Dx H (upd H' l u):=λ_ _ e n n1 n2=>by rw[aD (λw=>by rw[w,nl] at e;cases e)];exact k _ _ e n n1 n2
theorem bN.O8(h:bN K CC CA CD H x dc kp ks kk p r b Dx ls)(s:jG x Dx H H'){r2 b2:Int}{c_:List (Dr×Addr)}(sub:c_.Sublist ls)(o:H' x=some (.ins CC dc (dW kp p r2 b2 Dx)))(d:H' Dx=some (.dK (cO c_))):bN K CC CA CD H' x dc kp ks kk p r2 b2 Dx c_:=by
 have hl:∀ {a:Addr} {xs:List V},H a=some (.lst xs)->iV xs->H' a=some (.lst xs):=λ{a xs} e n=>s _ _ e (.lst n) (λz=>by have:=h.o;rw[← z,e] at this;cases this) (λz=>by have:=h.d;rw[← z,e] at this;cases this)
 have ht:∀ {a:Addr} {xs:List V},H a=some (.tup xs)->H' a=some (.tup xs):=λ{a xs} e=>s _ _ e (.of (λ_ z=>nomatch z) (λ_ _ _ z=>nomatch z) λ_ z=>nomatch z) (λz=>by have:=h.o;rw[← z,e] at this;cases this) (λz=>by have:=h.d;rw[← z,e] at this;cases this)
 have hi:∀ {a C d:Addr} {fs:List (Str×V)},H a=some (.ins C d fs)->jg fs=false->fs.lookup ("keeping" : Str)=none->H' a=some (.ins C d fs):=λ{a C d fs} e n1 n2=>s _ _ e (.ins n1) (λz=>by have:=h.o;rw[← z,e] at this;cases this;simp[dW,List.lookup_cons] at n2) (λz=>by have:=h.d;rw[← z,e] at this;cases this)
 refine⟨o,⟨hl h.k.l iV.refs,h.k.n,λi t r e1 e2=>ht (h.k.t i t r e1 e2)⟩,d,λy hy=>?_,h.up.sublist sub,Nat.le_trans sub.length_le h.n,λy hy=>h.kn y (sub.subset hy)⟩;obtain⟨eu,ap,l,ts,m,b',bC,g⟩:=h.t y (sub.subset hy);exact⟨eu,ap,l,ts,m,b',bC,hi g.o OB (by simp[ig,List.lookup_cons,fc]),⟨hi g.a.o OA (by simp[fh,List.lookup_cons,fc]),ht g.a.ms,ht g.a.bh⟩,⟨hl g.c.l iV.refs,g.c.n,λi t r e1 e2=>ht (g.c.t i t r e1 e2)⟩⟩
end
theorem nBD{K:PySem.W.Frag}{CC CA CD:Addr}{H:Hp}{x dc kp p Dx B B':Addr}{ks:List Addr}{kk:List (List Int)}{r b:Int}{ls:List (Dr×Addr)}(n:B≠Dx)(c:bN K CC CA CD H x dc kp ks kk p r b Dx ls)(h:B' = B\/H B' = none):B'≠Dx:=λz=>by
 rcases h with h | h
 ·exact n (h▸z)
 ·rw[z,c.d] at h;cases h
theorem bS.i9{H:Hp}{TP l:Addr}{pos:Pos}{qual:Str}{xs:List V}{u:HO}(t:bS TP pos qual H)(e:H l=some (.lst xs)):bS TP pos qual (upd H l u):=by
 obtain⟨ps,e1,tr,w⟩:=t;refine⟨ps,by rw[aD (λz=>by rw[z,e] at e1;cases e1)];exact e1,tr,?_⟩
 rcases w with w | ⟨c',e2,e3⟩
 ·exact .inl w
 ·exact .inr ⟨c',e2,by rw[aD (λz=>by rw[z,e] at e3;cases e3)];exact e3⟩
theorem ac7{ls:List (Dr×Addr)}(up:ls.Pairwise λa b=>a.1.n<b.1.n){y:Dr×Addr}(hy:y∈ls):(ls.filter λz=>decide (z.1.n≠y.1.n)).length+1=ls.length:=by
 have nd:((cO ls).map (·.1)).Nodup:=by
  unfold cO;rw[List.map_map,List.nodup_iff_pairwise_ne,List.pairwise_map];exact up.imp λ{a b} h z=>by
   have:=uB.mp z;lia
 have:=Nj (k:=cN y.1.n) nd (by
  unfold cO;rw[List.map_map];exact List.mem_map.mpr ⟨y,hy,rfl⟩)
 rw[O0,uC,uC] at this;exact this
theorem cW.kt{K:PySem.W.Frag}{C:Addr}{H H':Hp}{l:Addr}{ps:List Addr}{qs:List Ak}(h:cW K C H l ps qs)(k:cu H H'):cW K C H' l ps qs:=⟨k.lst h.l,h.n,λi p q e1 e2=>let ⟨m,b,dx,z⟩:=h.t i p q e1 e2;⟨m,b,dx,z.kt k⟩⟩
theorem Fz(nc:List (Int×Int)):∀(qs:List Ak) (k i:Nat),i<qs.length->∃d∈dX nc k qs,d.n=((k+i:Nat):Int)
 | [],k,i,h=>by simp at h
 | q::qs,k,0,h=>⟨_,List.mem_cons_self ..,rfl⟩
 | q::qs,k,i+1,h=>by
  obtain⟨d,hd,e⟩:=Fz nc qs (k+1) i (by simpa using h)
  exact⟨d,List.mem_cons_of_mem _ hd,by rw[e];congr 1;lia⟩
theorem uF(nc:List (Int×Int)):∀(qs:List Ak) (k:Nat) (d:Dr),d∈dX nc k qs->d.q∈qs/\d.c=cH nc d.q.first d.q.many
 | [],k,d,h=>by cases h
 | q::qs,k,d,h=>by
  rcases List.mem_cons.mp h with rfl | h
  ·exact⟨List.mem_cons_self ..,rfl⟩
  ·obtain⟨a,b⟩:=uF nc qs (k+1) d h;exact⟨List.mem_cons_of_mem _ a,b⟩
theorem ac8{P:Pl}{qs:List Ak}(rd:∀q∈qs,yH P q):∀ns∈iQ qs qs.length,ns = []:=by
 intro ns h;unfold iQ at h;obtain⟨k,hk,rfl⟩:=List.mem_map.mp h;unfold x6;rw[List.map_eq_nil_iff,List.filter_eq_nil_iff];intro j hj;have h1:=List.mem_range.mp hk;have h2:=List.mem_range.mp hj;have h3:j<qs.length:=by lia
 rw[List.getElem?_eq_getElem h1,List.getElem?_eq_getElem h3];have a:=rd _ (List.getElem_mem h1);have b:=rd _ (List.getElem_mem h3);have n6:((Str.ofString "read"):Str)≠"write" := ES (by decide)
 simp[a.b,qM,a.k,b.k,n6]
theorem ac9{kk:List (List Int)}(h:∀ns∈kk,ns = [])(b:Int)(ls:List (Dr×Addr)):uD kk b ls=ls.filter λy=>decide (y.1.q.at_<=b):=by
 unfold uD;refine List.filter_eq_self.mpr λy _=>?_;have:kk.getD y.1.n.toNat [] = []:=by
  rw[List.getD_eq_getElem?_getD];cases e:kk[y.1.n.toNat]? with
  | none=>rfl
  | some ns=>exact h ns (List.mem_of_getElem? e)
 rw[this];rfl
theorem Zt.cat{H:Hp}{R l:Addr}{ts tw:List Addr}{z z2:List (List Int)}(h:Zt H R ts z)(h2:Zt H l tw z2):Zt (upd H R (.lst (ts.map V.ref++tw.map V.ref))) R (ts++tw) (z++z2):=by
 have ne:∀ {t:Addr} {xs:List V},H t=some (.tup xs)->t≠R:=λe q=>by rw[q,h.l] at e;cases e
 have hn:=h.n;refine⟨by rw[aI,List.map_append],by simp[h.n,h2.n],λi t x e1 e2=>?_⟩
 by_cases hi:i<ts.length
 ·rw[List.getElem?_append_left hi] at e1;rw[List.getElem?_append_left (by lia)] at e2
  have:=h.t i t x e1 e2;rw[aD (ne this)];exact this
 ·rw[List.getElem?_append_right (by lia)] at e1
  rw[List.getElem?_append_right (by lia),← hn] at e2
  have:=h2.t _ t x e1 e2;rw[aD (ne this)];exact this
section
variable{X:Cx}
theorem ac_(hu:X.A.units<cLine):dZ X (compareOp .Eq) (λx y H Q=>∃(a b:Addr) (ns ms:List Int),x = .ref a/\y = .ref b/\H a=some (.tup (ns.map V.int))/\H b=some (.tup (ms.map V.int))/\Q (.bl (decide (ns=ms))) H):=by
 rintro pins s σ H x y v u Q I rx ry ⟨p,q,ns,ms,rfl,rfl,h,h',hq⟩;cases rx;cases ry;obtain⟨aC,r1,q1,_⟩:=I.tuple (bE.of (K:=X.K) h);obtain⟨i_,r2,q2,_⟩:=I.tuple (bE.of (K:=X.K) h');have l1:ns.length=aC.length:=by have:=r1.length;simpa using this
 have l2:ms.length=i_.length:=by have:=r2.length;simpa using this
 have e0:((List.range (min aC.toArray.size i_.toArray.size)).all (λj=>decide (ns[j]? = ms[j]?)) && aC.toArray.size == i_.toArray.size)=decide (ns=ms):=by
  rw[Bool.eq_iff_iff];simp only[Bool.and_eq_true,List.all_eq_true,List.mem_range,decide_eq_true_eq,beq_iff_eq,List.size_toArray];constructor
  ·rintro⟨h1,h2⟩;refine List.ext_getElem? λj=>?_
   by_cases hj:j<min aC.length i_.length
   ·exact h1 j hj
   ·rw[List.getElem?_eq_none (by lia),List.getElem?_eq_none (by lia)]
  ·rintro rfl;exact⟨λ_ _=>rfl,by lia⟩
 have fin:=SeqAt.RcAt.tuples (A:=X.A) (s:=s) (e:=λj=>decide (ns[j]? = ms[j]?)) q1 q2 (by lia) (λj h1 h2=>?_)
 ·rw[e0] at fin;exact fin X.prog X.w _ _ ⟨.bl (decide (ns=ms)),H,I,rfl,hq⟩
 ·have j1:j<ns.length:=by rw[l1];simpa using h1
  have j2:j<ms.length:=by rw[l2];simpa using h2
  obtain⟨u1,g1,w1⟩:=r1.get (show (ns.map V.int)[j]? = some (.int ns[j]) by simp[j1])
  obtain⟨u2,g2,w2⟩:=r2.get (show (ms.map V.int)[j]? = some (.int ms[j]) by simp[j2])
  have e1:aC.toArray[j] = u1:=by
   rw[List.getElem_toArray];exact Option.some.inj ((List.getElem?_eq_getElem (by simpa using h1)).symm.trans g1)
  have e2:i_.toArray[j] = u2:=by
   rw[List.getElem_toArray];exact Option.some.inj ((List.getElem?_eq_getElem (by simpa using h2)).symm.trans g2)
  obtain⟨t1,rfl⟩:=w1;obtain⟨t2,rfl⟩:=w2;rw[e1,e2];have:=SeqAt.EqAt.int_int (A:=X.A.in1) (s:=s) ns[j] t1 ms[j] t2;have e3:(ns[j] == ms[j])=decide (ns[j]? = ms[j]?):=by
   simp only[List.getElem?_eq_getElem j1,List.getElem?_eq_getElem j2,Option.some.injEq];rw[Bool.eq_iff_iff];simp
  rwa [e3] at this
end
section
variable{X:Cx}
end
noncomputable def ku(z:List (Int×Int))(aG sk:Int)(sw:List Int):Pl:=⟨counts z,aG,sk,sw,jE (counts z) 0⟩
noncomputable def ada(K:PySem.W.Frag)(C:Addr):Sp:=λvs H Q _=>∃(sc:Addr) (ns:List Int),vs = [.ref sc]/\aE K H sc (ns.map V.int)/\ns.length<=63/\
 ∀t p wt z aG sk sw fp H',ah H H'->H' t=some (.tup [.ref p,.ref wt])->bY K C H' p (ku z aG sk sw) fp->qO z aG sk sw->Q (.ref t) H'
section
variable{X:Cx}
theorem vals3{x y z:V}{us:List Value}(r:Vals [x,y,z] us):∃u v w',us = [u,v,w']/\RelV x u/\RelV y v/\RelV z w':=by
 cases r with
 | cons r1 r =>
  obtain⟨v,w',rfl,r2,r3⟩:=vals2 r;exact⟨_,v,w',rfl,r1,r2,r3⟩
theorem step_size{i j c:Int}(hi:0<=i)(hj:j<=1000000)(hc:1<=c):∃n:Nat,Builtin.Range.rangeSize i j c=(n:Int)/\n<=1000001/\∀k:Nat,k<n->0<=i+(k:Int)*c/\i+(k:Int)*c<j:=by
 unfold Builtin.Range.rangeSize;rw[if_pos (by lia)]
 by_cases h:i<j
 ·rw[if_pos h];have h0:0<=(j - i - 1) / c:=Int.ediv_nonneg (by lia) (by lia)
  have h1:(j - i - 1) / c<=j - i - 1:=Int.ediv_le_self _ (by lia)
  refine⟨((j - i - 1) / c+1).toNat,by lia,by lia,λk hk=>?_⟩
  have FA:(k:Int)<=(j - i - 1) / c:=by lia
  have h2:(k:Int)*c<=j - i - 1:=(Int.le_ediv_iff_mul_le (by lia)).mp FA
  have h3:0<=(k:Int)*c:=Int.mul_nonneg (by lia) (by lia)
  lia
 ·rw[if_neg h];exact⟨0,rfl,by lia,λk hk=>by lia⟩
theorem adb{i j c:Int}(h1:0<=i)(h2:i<=1000000)(h3:0<=j)(h4:j<=1000000)(h5:1<=c)(h6:c<=1000000):Builtin.Range.small i j c=true:=by
 obtain⟨n,en,n1,_⟩:=step_size (i:=i) (j:=j) (c:=c) h1 h4 h5;have fl:∀x:Int,0<=x->x<=3000000->Builtin.Range.rangeFitsLong x=true:=λx g1 g2=>by
  unfold Builtin.Range.rangeFitsLong;simp;lia
 unfold Builtin.Range.small;rw[en,fl i h1 (by lia),fl j h3 (by lia),fl c (by lia) (by lia),fl n (by lia) (by lia),if_pos (by lia),fl (j+(c - 1)) (by lia) (by lia)]
 simp
end
noncomputable def uG(lo c:Int)(n:Nat):It:=⟨λi _=>i<n,λi H x H'=>H' = H/\x = .int (lo+i*c),λi _=>n<=i⟩
theorem ade{P:Program}{w:World}{K:PySem.W.Frag}{tg:Expr}(it:Addr)(lo c:Int)(n:Nat):Turn P w K tg (uG lo c n) [it] it (λi h=>IsRangeIter h it (lo+(i:Nat)*c) ((n:Int) - (i:Nat)) c) where
 mem:=by simp
 obj:=λi h st b hb=>by
  have e:b=it:=by simpa using hb
  subst e;exact⟨_,st,λv z=>by
   have z':Data.fields _=Data.cell v:=z;cases z'⟩
 keep:=λi h h' st k=>k it (by simp) _ st
 item:=by
  intro X hP hw hK hc i pins s σ H E I hf st hg;subst hP hw hK;obtain⟨f0,f1,f2,f3,f4,f5⟩:=hf it (by simp)
  have W:=Walks.range (prog:=X.prog) (w:=X.w) (I.ok.hd hc) it lo c n;refine W.item i s _ _ hg st λv h' tk hv cA kk=>?_;obtain⟨t,rfl⟩:=hv;have I1:Inv X pins σ H { s with heap:=h',toks:=tk }:=I.turned (λb o hb e=>kk b o (by simpa using hb) e) f0 f1 f3 f4 f5
  exact⟨_,rfl,sO (s:={ s with heap:=h',toks:=tk }) (n := "range_iterator") cA rfl rfl (by decide) ⟨.int (lo+i*c),H,I1,⟨t,rfl⟩,⟨rfl,rfl⟩,cA,λb hb=>(hf b hb).1⟩⟩
 done:=by
  intro X hP hw hK hc i pins s σ H E I hf st hg;subst hP hw hK;obtain⟨f0,f1,f2,f3,f4,f5⟩:=hf it (by simp)
  exact wpAny_pyNext_range_end (I.ok.hd hc) st (by have:n<=i:=hg;lia) λh' eb=>⟨rfl,I.turned (t':=s.toks) (λb o hb e=>eb b o hb e) f0 f1 f3 f4 f5⟩
 self:=λ_ _ _ _ _ st h=>wpAny_pyIter_rangeiter st h
section
variable{X:Cx}{tg:Expr}
structure mz(i j c:Int)(n:Nat):Prop where
 b:n<=1000001
 lt:∀k:Nat,k<n->i+(k:Int)*c<j
 ge:j<=i+(n:Int)*c
theorem O9{i j c:Int}(hi:0<=i)(hj:j<=1000000)(hc:1<=c)(ij:i<=j):∃n:Nat,Builtin.Range.rangeSize i j c=(n:Int)/\mz i j c n:=by
 unfold Builtin.Range.rangeSize;rw[if_pos (by lia)]
 by_cases h:i<j
 ·rw[if_pos h];have h0:0<=(j - i - 1) / c:=Int.ediv_nonneg (by lia) (by lia)
  have h1:(j - i - 1) / c<=j - i - 1:=Int.ediv_le_self _ (by lia)
  refine⟨((j - i - 1) / c+1).toNat,by lia,by lia,λk hk=>?_,?_⟩
  ·have FA:(k:Int)<=(j - i - 1) / c:=by lia
   have h2:(k:Int)*c<=j - i - 1:=(Int.le_ediv_iff_mul_le (by lia)).mp FA
   lia
  ·have:=Int.lt_ediv_add_one_mul_self (j - i - 1) (show 0<c by lia)
   rw[show ((((j - i - 1) / c+1).toNat:Nat):Int)=(j - i - 1) / c+1 by lia]
   lia
 ·rw[if_neg h];exact⟨0,rfl,by lia,λk hk=>by lia,by simp;lia⟩
noncomputable def O_(ta:TA):TI:=λσ H R=>ta σ H λvs H1=>∃i j c:Int,vs = [.int i,.int j,.int c]/\(0<=i/\i<=j/\j<=1000000/\1<=c/\c<=1000000)/\∀n,mz i j c n->R (uG i c n) H1
theorem adf{a b c:Expr}{ta:TA}{p pos:Pos}(hg:Gl X "range")(hm:X.mg "range" = none)(ha:PA X [a,b,c] ta)
  (hs:starEach [a,b,c] X.env = [(false,eval a X.env),(false,eval b X.env),(false,eval c X.env)]:=by rfl) (gY:starEach [b,c] X.env = [(false,eval b X.env),(false,eval c X.env)]:=by rfl) :
  PI X tg (.Call (.Name "range" p) [a,b,c] [] pos) (O_ ta):=by
 intro pins s σ H R I h;refine Call_ (jQ I hg hm boot_range (PyProof.Rows.callWith_type1 (aM (ha pos pins s σ H _ I h) λus s1 ⟨vs,H1,I1,r1,q1⟩=>?_) (by rw[hs,gY]) (by rw[gY];rfl)))
 obtain⟨i,j,c',e,⟨b1,b2,b3,b4,b5⟩,q⟩:=q1;subst e;obtain⟨u,v,w',rfl,ru,rv,f_⟩:=vals3 r1;obtain⟨t,rfl⟩:=ru;obtain⟨t',rfl⟩:=rv;obtain⟨t2,rfl⟩:=f_;refine call_range_3 (by lia) ?_ (Or.inl (PyProof.noPylong_small (by lia)))
 obtain⟨n,en,st⟩:=O9 (i:=i) (j:=j) (c:=c') b1 b3 b4 b2;refine wpAny_pyIter_range (IsRange.new ..) (adb b1 (by lia) (by lia) b3 b4 b5) ?_
 have I2:Inv X pins σ H1 { s1 with heap:=s1.heap.push { cls:=.type "range",data:=.fields #[.int i t,.int j t',.int c' t2] }}:=I1.kept (t':=s1.toks) λb o e=>Heap.get?_push_of_some _ e;refine⟨(s1.heap.push { cls:=.type "range",data:=.fields #[.int i t,.int j t',.int c' t2] }).objs.size,[(s1.heap.push { cls:=.type "range",data:=.fields #[.int i t,.int j t',.int c' t2] }).objs.size],_,_,H1,rfl,
  I2.kept (t':=s1.toks) λb o e=>Heap.get?_push_of_some _ e,ade _ i c' n,?_,λb hb=>?_,q n st⟩
 ·have e1:i+((0:Nat):Int)*c' = i:=by simp
  have e2:(((n:Nat):Int)) - ((0:Nat):Int)=Builtin.Range.rangeSize i j c':=by rw[en];simp
  show IsRangeIter _ _ (i+((0:Nat):Int)*c') (((n:Nat):Int) - ((0:Nat):Int)) c';rw[e1,e2];exact Heap.get?_push_size _ rfl
 ·have e:b=(s1.heap.push { cls:=.type "range",data:=.fields #[.int i t,.int j t',.int c' t2] }).objs.size:=by simpa using hb
  subst e;exact I2.lQ (Nat.le_refl _) (I2.aL.fresh (Nat.le_refl _))
end
theorem adg{lo c:Int}{n:Nat}{g:TG}{tb:TS}{D:Ends}{σ:St}{H:Hp}(Pv:Nat->St->Hp->Prop)(h0:Pv 0 σ H)
  (hs:∀i σ H,i<n->Pv i σ H->g (.int (lo+i*c)) σ H λaq H2=>tb { D with nx:=Pv (i+1),ct:=Pv (i+1),bk:=D.nx } aq H2) (hd:∀σ H,Pv n σ H->D.nx σ H) :
  ∃W:Nat->Nat->St->Hp->Prop,(∃m,W 0 m σ H)/\∀i m σ H,W i m σ H->
   ((uG lo c n).stop i H/\D.nx σ H)\/((uG lo c n).go i H/\∃N:St->Hp->Prop,(∀bz H',N bz H'->∃m',m' < m/\W (i+1) m' bz H')/\∀x H',(uG lo c n).kL i H x H'->g x σ H' λaq H2=>tb { D with nx:=N,ct:=N,bk:=D.nx } aq H2):=by
 refine⟨λi m σ H=>m=n - i/\i<=n/\Pv i σ H,⟨n,by simp,Nat.zero_le _,h0⟩,?_⟩
 rintro i m σ H ⟨rfl,hi,p⟩;by_cases bT:i<n
 ·refine .inr ⟨bT,Pv (i+1),λbz H' p'=>⟨n - (i+1),by lia,rfl,bT,p'⟩,λx H' y=>?_⟩
  obtain⟨e,y⟩:=y;subst e y;exact hs i σ _ bT p
 ·have e:i=n:=by lia
  subst e;exact .inl ⟨Nat.le_refl _,hd σ H p⟩
theorem rr3{ta:TA}{g:TG}{tb:TS}{D:Ends}{σ:St}{H:Hp}(lo hi c:Int)(Pv:Nat->Nat->St->Hp->Prop)(dU:∀Q:List V->Hp->Prop,Q [.int lo,.int hi,.int c] H->ta σ H Q)(b1:0<=lo)(b2:lo<=hi)(b3:hi<=1000000)(b4:1<=c)(b5:c<=1000000)(h0:∀n,mz lo hi c n->Pv n 0 σ H)
  (hs:∀n,mz lo hi c n->∀i σ H (N:St->Hp->Prop),(∀σ H,Pv n (i+1) σ H->N σ H)->i<n->Pv n i σ H->g (.int (lo+(i:Int)*c)) σ H λaq H2=>tb { D with nx:=N,ct:=N,bk:=D.nx } aq H2) (hd:∀n,mz lo hi c n->∀σ H,Pv n n σ H->D.nx σ H):iM (O_ ta) g tb D σ H :=
 dU _ ⟨lo,hi,c,rfl,⟨b1,b2,b3,b4,b5⟩,λn st=>adg (Pv n) (h0 n st) (λi σ H hx p=>hs n st i σ H _ (λ_ _ z=>z) hx p) (hd n st)⟩
structure nK(X:Cx)(CX:e9)(m:Str)(C:Addr)(sp:Sp):Prop where
 ex:∃k f fd ps,bZ X.K C/\Meth X.K C m f/\aW X.prog X.w X.K X.mg X.base CX k f fd ps sp/\cB k X.A/\Binds X.K fd ps []
theorem nK.of{X:Cx}{CX:e9}{m:Str}{C:Addr}{sp:Sp}{k:Nat}{f:Addr}{fd:FuncData}{ps:List Str}(c:bZ X.K C)(hm:Meth X.K C m f)(F:aW X.prog X.w X.K X.mg X.base CX k f fd ps sp)(hr:cB k X.A)(hb:Binds X.K fd ps []):nK X CX m C sp:=⟨k,f,fd,ps,c,hm,F,hr,hb⟩
theorem Pa{X:Cx}{CX:e9}{m:Str}:∀q∈([]:List (Addr×Sp)),nK X CX m q.1 q.2:=λq h=>by cases h
theorem lz{X:Cx}{CX:e9}{m:Str}{C:Addr}{sp:Sp}{l:List (Addr×Sp)}(h:nK X CX m C sp)(hl:∀q∈l,nK X CX m q.1 q.2):∀q∈(C,sp)::l,nK X CX m q.1 q.2:=λq hq=>by
 rcases List.mem_cons.mp hq with rfl | hq
 ·exact h
 ·exact hl q hq
noncomputable def Pb(l:List (Addr×Sp))(m:Str)(E:XK)(ta:TE)(t:TA):TE:=λσ H Q=>ta σ H λx H1=>∃C a dx fs sp,x = .ref a/\H1 a=some (.ins C dx fs)/\fs.lookup m=none/\(C,sp)∈l/\t σ H1 λvs H2=>sp (x::(vs++[])) H2 Q E
section
variable{X:Cx}{CX:e9}{l:List (Addr×Sp)}{E:XK}{m:Str}{pos apos:Pos}{o e:Expr}{es:List Expr}{ta:TE}{t:TA}
theorem adh{pl:Sem Bool}(ho:PE X o ta)(hl:∀q∈l,nK X CX m q.1 q.2)(hx:Passes CX X E)(ha:PA X (e::es) t)
  (gW:starEach (e::es) X.env=(false,eval e X.env)::starEach es X.env:=by rfl) (fF:(backTo pos (starEach es X.env)).any (·.1)=false:=by rfl)
  (lZ:eval (.Call (.Attribute o m apos) (e::es) [] pos) X.env=(do
   let ov ← eval o X.env
   standAt apos.atName
   let (f,first) ← holding [ov] (getMethod ov m pl)
   callWith pos f first (backTo pos (starEach (e::es) X.env)) (backToKw pos (keywordEach [] X.env))):=by rfl):PE X (.Call (.Attribute o m apos) (e::es) [] pos) (Pb l m E ta t):=by
 intro pins s σ H Q I h;refine PySem.W.methodCall_KW (pl:=pl) (aM (ho pins s σ H _ I h) λu s1 hz=>?_) lZ;obtain⟨x,H1,I1,rx,C,a,dx,fs,sp,ex,ea,qV,hC,q⟩:=hz;subst ex;cases (show u=Value.ref a from rx);obtain⟨k,f,fd,ps,c1,c2,F,hr,hb⟩:=(hl _ hC).ex;refine ng I1 ea c1 c2 qV (PySem.W.callWith_K (first:=[.ref a]) (h₀:=X.base) I.ok.mod.kI c2.kp (aM (ha pos pins s1 σ H1 _ I1 q) λus s2 hw=>?_) gW fF)
 obtain⟨vs,H2,I2,r,q2⟩:=hw;exact⟨I2.cK,lU (us:=.ref a::us) (vs:=.ref a::vs) F hr hb .nil hx I2 (.cons rfl r) q2⟩
theorem adi{pl:Sem Bool}(ho:PE X o ta)(hl:∀q∈l,nK X CX m q.1 q.2)(hx:Passes CX X E)
  (lZ:eval (.Call (.Attribute o m apos) [] [] pos) X.env=(do
   let ov ← eval o X.env
   standAt apos.atName
   let (f,first) ← holding [ov] (getMethod ov m pl)
   callWith pos f first (backTo pos (starEach [] X.env)) (backToKw pos (keywordEach [] X.env))):=by rfl):PE X (.Call (.Attribute o m apos) [] [] pos) (Pb l m E ta qy):=by
 intro pins s σ H Q I h;refine PySem.W.methodCall_KW (pl:=pl) (aM (ho pins s σ H _ I h) λu s1 hz=>?_) lZ;obtain⟨x,H1,I1,rx,C,a,dx,fs,sp,ex,ea,qV,hC,q⟩:=hz;subst ex;cases (show u=Value.ref a from rx);obtain⟨k,f,fd,ps,c1,c2,F,hr,hb⟩:=(hl _ hC).ex;refine ng I1 ea c1 c2 qV (PySem.W.callWith_K0 (first:=[.ref a]) I1.cK c2.kp ?_)
 exact lU (us:=[.ref a]) (vs:=[.ref a]) F hr hb .nil hx I1 (.cons rfl .nil) q
end
noncomputable def bO(x TP:Addr)(H H':Hp):Prop:=∀b o,H b=some o->b≠x->b≠TP->H' b=some o
section
variable{x TP:Addr}{H H1 H2:Hp}
theorem bO.of(s:SameBut x H H1):bO x TP H H1:=λ_ _ e n _=>s _ _ e n
theorem bO.tb(s:SameBut TP H H1):bO x TP H H1:=λ_ _ e _ n=>s _ _ e n
theorem bO.trans(a:bO x TP H H1)(b:bO x TP H1 H2):bO x TP H H2:=λ_ _ e n z=>b _ _ (a _ _ e n z) n z
theorem bO.same(k:bO x TP H H1)(s:ah H1 H2):bO x TP H H2:=λ_ _ e n z=>s _ _ (k _ _ e n z)
end
noncomputable def Pc(K:PySem.W.Frag)(CA CD C:Addr)(sw:Bool)(P:Addr)(pos:Pos)(qual:Str):Sp:=λvs H Q _=>∃(x dx B:Addr) (st:Lt) (r:Int) (D:Addr) (ps:List Addr) (ds:List Dr) (P':Pl) (b:Int),vs = [.ref x,.int r,.ref D]/\eG C H x st dx B/\eS K CA CD H D ps ds/\1<=ds.length/\ds.length<=100/\(∀d∈ds,1<=d.c.length)/\bS P pos qual H/\
 ∀d H',bO x P H H'->bS P pos qual H'->eG C H' x (nI sw st r ds) dx B->bestOf (kh P' (q8 sw r ds) b) (nJ sw (nI sw st r ds).i r ds) d->Q (.int d.n) H'
noncomputable def Pd(K:PySem.W.Frag)(CA CD CL CS P:Addr)(pos:Pos)(qual:Str):Sp:=λvs H Q _=>∃(C x dx B:Addr) (sw:Bool) (st:Lt) (p:Addr) (r b:Int) (D:Addr) (ps:List Addr) (ds:List Dr) (P':Pl),vs = [.ref x,.ref p,.int r,.int b,.ref D]/\yw CL CS C sw/\pG K C/\eG C H x st dx B/\eS K CA CD H D ps ds/\1<=ds.length/\ds.length<=100/\(∀d∈ds,1<=d.c.length)/\bS P pos qual H/\
 ∀d B' H',(B' = B\/H B' = none)->bO x P H H'->bS P pos qual H'->eG C H' x (nI sw (gf st ds) r (fK st ds)) dx B'->bestOf (kh P' (q8 sw r (fK st ds)) b) (nJ sw (nI sw (gf st ds) r (fK st ds)).i r (fK st ds)) d->Q (.int d.n) H'
inductive Rk where
 | near | gP | gQ
 | li (sw:Bool)
structure RC where
 n:Addr
 s:Addr
 l:Addr
 li:Addr
 sw:Addr
noncomputable def cF(K:PySem.W.Frag)(c:RC)(o:Rk)(st:Lt)(H:Hp)(ru dx B:Addr):Prop:=match o with
 | .near=>H ru=some (.ins c.n dx [])
 | .gP=>H ru=some (.ins c.s dx [])
 | .gQ=>H ru=some (.ins c.l dx [])
 | .li sw=>∃C,yw c.li c.sw C sw/\pG K C/\eG C H ru st dx B
noncomputable def yI(o:Rk)(st:Lt)(P:Pl)(r b:Int)(ds:List Dr)(d:Dr)(cA:Lt):Prop:=match o with
 | .near=>bestOf (kh P r b) ds d/\cA=st
 | .gP=>bestOf (yq P r b) ds d/\cA=st
 | .gQ=>bestOf iX ds d/\cA=st
 | .li sw=>cA=nI sw (gf st ds) r (fK st ds)/\bestOf (kh P (q8 sw r (fK st ds)) b) (nJ sw (nI sw (gf st ds) r (fK st ds)).i r (fK st ds)) d
theorem yI.mem{o:Rk}{st cA:Lt}{P:Pl}{r b:Int}{ds:List Dr}{d:Dr}(h:yI o st P r b ds d cA):d∈ds:=by
 cases o with
 | near=>exact h.1.1
 | gP=>exact h.1.1
 | gQ=>exact h.1.1
 | li sw=>exact Fd (acA h.2.1)
structure iu where
 n:Addr×Pos×Str
 s:Addr×Pos×Str
 l:Addr×Pos×Str
noncomputable def iu.of(T:iu):Rk->Addr×Pos×Str
 | .gP=>T.s
 | .gQ=>T.l
 | _=>T.n
noncomputable abbrev eK(q:Addr×Pos×Str)(H:Hp):Prop:=bS q.1 q.2.1 q.2.2 H
structure Pe(P:Pl)(o:Rk)(J:List Dr->Int->Int->Lt->List (Int×Int)->Prop):Prop where
 go:∀ds r b st tk b2 d cA,J ds r b st tk->ds≠[]->O7 ds b b2->yI o st P r b2 (ds.filter λd=>decide (d.q.at_<=b2)) d cA->J (ds.filter λe=>decide (e.n≠d.n)) (c9 P (r,b2) d.c).1 (c9 P (r,b2) d.c).2 cA (tk++[(d.n,b2)])
noncomputable def adk(K:PySem.W.Frag)(cs:List Addr)(c:RC)(CA CP:Addr)(T:iu):Sp:=λvs H Q _=>∃(C p la ru dx B:Addr) (P:Pl) (fp ps:List Addr) (qs:List Ak) (o:Rk) (st:Lt) (J:List Dr->Int->Int->Lt->List (Int×Int)->Prop),
 vs = [.ref p,.ref la,.ref ru,.int 0,.int 0]/\C∈cs/\bY K C H p P fp/\jF P/\P.nc.length<=1000000/\cW K CA H la ps qs/\x8 P.nc.length qs/\(∀q∈qs,yH P q)/\cF K c o st H ru dx B/\eK (T.of o) H/\
 J (dX P.nc 0 qs) 0 0 ⟨st.c,true,[]⟩ []/\Pe P o J/\
 ∀x eu v1 ta v3 v4 v5 r b cA tk uH B' H',bO ru (T.of o).1 H H'->eK (T.of o) H'->J [] r b cA tk->cF K c o cA H' ru uH B'->H' x=some (.ins CP eu (ac6 v1 ta v3 v4 v5))->H' ta=some (.lst (cY qs.length tk))->Q (.ref x) H'
section
variable{K:PySem.W.Frag}{c:RC}{CC CA CD:Addr}{o:Rk}{st:Lt}{H H' H1:Hp}{ru dx B x dc kp p Dx TP:Addr}{ks:List Addr}{kk:List (List Int)}{r b:Int}{ls:List (Dr×Addr)}
theorem bO.iH(k:bO ru TP H H')(s:bW x Dx H' H1)(nx:H x=none)(nd:H Dx=none):bO ru TP H H1:=λ_ _ e n z=>s _ _ (k _ _ e n z) (λw=>by rw[w,nx] at e;cases e) (λw=>by rw[w,nd] at e;cases e)
structure lA(ru TP:Addr)(H:Hp)(l:Addr):Prop where
 x:∀o,H l=some o->l≠ru->l≠TP->False
 t:∀o,H l=some o->l8 o->False
theorem lA.of(kx:bO ru TP H H')(kt:cu H H'){l:Addr}(n:H' l=none):lA ru TP H l :=
 ⟨λo e n1 n2=>(by have:=kx _ _ e n1 n2;rw[n] at this;cases this),λo e n1=>(by have:=kt _ _ e n1;rw[n] at this;cases this)⟩
theorem bO.put{l:Addr}{u:HO}(k:bO ru TP H H')(nl:lA ru TP H l):bO ru TP H (upd H' l u):=λc o e n z=>by
 by_cases w:c=l
 ·subst w;exact(nl.x o e n z).elim
 ·rw[aD w];exact k _ _ e n z
theorem cu.FD{l:Addr}{u:HO}(k:cu H H')(nl:lA ru TP H l):cu H (upd H' l u):=λc o e n=>by
 by_cases w:c=l
 ·subst w;exact(nl.t o e n).elim
 ·rw[aD w];exact k _ _ e n
theorem eG.adl{C:Addr}(h:eG C H ru st dx B)(t:∃ps,H TP=some (.e7 ps))(k:bO ru TP H H1):cu H H1:=λ_ _ e n=>k _ _ e (λz=>by rw[z,h.o] at e;cases e;have:=n.2.1 _ _ _ rfl;rw[OG] at this;cases this) (λz=>by obtain⟨ps,et⟩:=t;rw[z,et] at e;cases e;exact n.1 _ rfl)
theorem cF.iH(h:cF K c o st H ru dx B)(cc:bN K CC CA CD H x dc kp ks kk p r b Dx ls)(s:bW x Dx H H')(nx:ru≠x)(nB:B≠Dx):cF K c o st H' ru dx B:=by
 have go:∀ {C:Addr} {fs:List (Str×V)},H ru=some (.ins C dx fs)->H' ru=some (.ins C dx fs):=λe=>s _ _ e nx (λz=>by have:=cc.d;rw[← z,e] at this;cases this)
 cases o with
 | near=>exact go h
 | gP=>exact go h
 | gQ=>exact go h
 | li sw =>
  obtain⟨C,h1,h2,h3⟩:=h;refine⟨C,h1,h2,go h3.o,?_⟩;obtain⟨kvs,a,l,v⟩:=h3.d;exact⟨kvs,s _ _ a (λz=>by have:=cc.o;rw[← z,a] at this;cases this) nB,l,v⟩
theorem cF.same(h:cF K c o st H ru dx B)(s:ah H H'):cF K c o st H' ru dx B:=by
 cases o with
 | near=>exact s _ _ h
 | gP=>exact s _ _ h
 | gQ=>exact s _ _ h
 | li sw =>
  obtain⟨C,h1,h2,h3⟩:=h;exact⟨C,h1,h2,h3.same s⟩
theorem cF.ins(h:cF K c o st H ru dx B):∃C fs,H ru=some (.ins C dx fs):=by
 cases o with
 | near=>exact⟨_,_,h⟩
 | gP=>exact⟨_,_,h⟩
 | gQ=>exact⟨_,_,h⟩
 | li sw =>
  obtain⟨C,h1,h2,h3⟩:=h;exact⟨C,_,h3.o⟩
theorem cF.i9(h:cF K c o st H ru dx B){l:Addr}{xs:List V}{u:HO}(e:H l=some (.lst xs)):cF K c o st (upd H l u) ru dx B:=by
 have go:∀ {C:Addr} {fs:List (Str×V)},H ru=some (.ins C dx fs)->upd H l u ru=some (.ins C dx fs):=λe2=>by rw[aD (λz=>by rw[← z,e2] at e;cases e)];exact e2
 cases o with
 | near=>exact go h
 | gP=>exact go h
 | gQ=>exact go h
 | li sw =>
  obtain⟨C,h1,h2,h3⟩:=h;obtain⟨kvs,a,lv⟩:=h3.d;exact⟨C,h1,h2,go h3.o,kvs,by rw[aD (λz=>by rw[z,e] at a;cases a)];exact a,lv⟩
end
structure Pf(K:PySem.W.Frag)(c:RC)(CC CA CD:Addr)(tq:Addr×Pos×Str)(o:Rk)(P:Pl)(qs:List Ak)(J:List Dr->Int->Int->Lt->List (Int×Int)->Prop)(H H3 H':Hp)(uI:List (Dr×Addr))(ru dx B x dc kp p Dx R Pk Tk:Addr)(ks:List Addr)(kk:List (List Int))(r b:Int)(ls:List (Dr×Addr))(st:Lt)(tk:List (Int×Int))(ts:List Addr)(rows:List (List Int)):Prop where
 kx:bO ru tq.1 H H'
 kt:cu H H'
 tb:eK tq H'
 rA:cF K c o st H' ru dx B
 nB:B≠Dx
 nx:ru≠x
 co:bN K CC CA CD H' x dc kp ks kk p r b Dx ls
 j:J (ls.map (·.1)) r b st tk
 fx:H x=none
 fd:H Dx=none
 c3:bN K CC CA CD H3 x dc kp ks kk p 0 0 Dx uI
 bt:jG x Dx H3 H'
 sub:ls.Sublist uI
 n3:H3 R=none/\H3 Pk=none/\H3 Tk=none
 fR:lA ru tq.1 H R
 fP:lA ru tq.1 H Pk
 fT:lA ru tq.1 H Tk
 ne:R≠Pk/\R≠Tk/\Pk≠Tk
 rr:Zt H' R ts rows
 r5:∀w∈rows,w.length=5
 rl:rows.length<=16*tk.length
 rh:∀q∈tk,∃w∈rows,w.head? = some q.1
 pP:H' Pk=some (.lst ((tk.map (·.1)).map V.int))
 tT:H' Tk=some (.lst (cY qs.length tk))
 n:tk.length+ls.length=qs.length
 all:∀d∈dX P.nc 0 qs,d∈ls.map (·.1)\/∃q∈tk,q.1=d.n
 dr:∀y∈ls,y.1∈dX P.nc 0 qs
 tn:∀q∈tk,0<=q.1/\q.1<qs.length
 r0:0<=r
 r1:r<P.rc.length
noncomputable def FE(t:Tok):List Value->List Value->List Value
 | [a,b,c],[w]=>[a,b,c,.int 0 t,w,.none]
 | _,_=>[]
noncomputable def Pg:List V->List V->List V
 | [a,b,c],[w]=>[a,b,c,.int 0,w,.aN]
 | _,_=>[]
theorem adm{K:PySem.W.Frag}{fd:FuncData}{ps ks:List Str}{t:Tok}(h:∀(s:Shared) (a b c w:Value),K.In s.heap->BindsTo s fd ⟨[a,b,c],ks.zip [w]⟩ (ps.zip [a,b,c,.int 0 t,w,.none]))(hp:ps.length=6):w_ K fd ps ks (FE t) Pg where
 to:=λs us ws X hl=>by
  unfold FE at hl ⊢;split at hl
  ·exact h s _ _ _ _ X
  ·rw[hp] at hl;cases hl
 rel:=λ{vs us zs ws} h1 h2=>by
  cases h1 with
  | nil=>exact .nil
  | cons r1 h1 =>
   cases h1 with
   | nil=>exact .nil
   | cons r2 h1 =>
    cases h1 with
    | nil=>exact .nil
    | cons r3 h1 =>
     cases h1 with
     | nil =>
      cases h2 with
      | nil=>exact .nil
      | cons r4 h2 =>
       cases h2 with
       | nil=>exact .cons r1 (.cons r2 (.cons r3 (.cons ⟨_,rfl⟩ (.cons r4 (.cons rfl .nil)))))
       | cons _ _=>exact .nil
     | cons _ _=>exact .nil
noncomputable def c0(P:Pl):Int:=P.rc.getD 0 0
noncomputable def cD(P:Pl):Int:=P.aG / P.rc.getD 0 0
noncomputable def jH(P:Pl)(k:Nat):Ak:=⟨"read",(k:Int)*16,min 16 (c0 P - (k:Int)*16),[],(k:Int)*16*cD P,0,some ((k:Int)*16*cD P),[],false⟩
noncomputable def fL(P:Pl)(n:Nat):List Ak:=(List.range n).map (jH P)
noncomputable def adn(K:PySem.W.Frag)(cs:List Addr)(CA:Addr):Sp:=λvs H Q _=>∃(C p:Addr) (P:Pl) (fp:List Addr),vs = [.ref p]/\C∈cs/\bY K C H p P fp/\2<=P.rc.length/\1<=c0 P/\c0 P<=60/\0<=cD P/\cD P<=1000000000/\
 ∀l ps n H',ah H H'->H l=none->mz 0 (c0 P) 16 n->cW K CA H' l ps (fL P n)->Q (.ref l) H'
noncomputable def ado(K:PySem.W.Frag)(cs:List Addr)(CA:Addr):Sp:=λvs H Q _=>∃(C p:Addr) (P:Pl) (fp:List Addr) (n most:Int) (w:Str),vs = [.ref p,.str w,.int most]/\C∈cs/\bY K C H p P fp/\pI P n/\1<=c0 P/\c0 P<=60/\0<=cD P/\cD P<=1000000000/\w∈iG/\w∉Fo/\
 ∀t l1 p1 l2 p2 m H',ah H H'->H' t=some (.tup [.str "ever",.ref l1,.ref l2,.int P.aG])->mz 0 (c0 P) 16 m->cW K CA H' l1 p1 [lu n 0 0]->cW K CA H' l2 p2 (fL P m)->Q (.ref t) H'
noncomputable def nN(q:Ak)(x:Int):Ak:=⟨"read",q.first,q.many,[],q.at_+x,q.k9,q.gK.map (· + x),[],false⟩
noncomputable def adp(K:PySem.W.Frag)(CA:Addr):Sp:=λvs H Q _=>∃(a:Addr) (x:Int) (q:Ak) (m b dx:Addr),vs = [.ref a,.int x]/\dN K CA H a q m b dx/\xX q.first q.many (q.at_+x) q.k9 (q.gK.map (· + x))/\
 ∀a' m' b' eu H',ah H H'->H a' = none->dN K CA H' a' (nN q x) m' b' eu->Q (.ref a') H'
noncomputable def adq(K:PySem.W.Frag)(CA:Addr):Sp:=λvs H Q _=>∃(la:Addr) (ps:List Addr) (qs:List Ak) (lo most:Int),vs = [.ref la,.int lo,.int most]/\cW K CA H la ps qs/\lo<=qs.length/\(qs.length:Int)<=most/\most<=100/\(∀q∈qs,q.kind = "read"/\q.behind = [])/\∀H',ah H H'->Q (.bl true) H'
noncomputable def ads(K:PySem.W.Frag)(CA:Addr):Sp:=λvs H Q _=>∃(t l1 l2:Addr) (p1 p2:List Addr) (q1 q2:List Ak) (x:Int),vs = [.ref t]/\H t=some (.tup [.str "ever",.ref l1,.ref l2,.int x])/\1<=x/\cW K CA H l1 p1 q1/\cW K CA H l2 p2 q2/\1<=q1.length/\q1.length<=40/\1<=q2.length/\q2.length<=60/\(∀q∈q1,q.kind = "read"/\q.behind = [])/\(∀q∈q2,q.kind = "read"/\q.behind = [])/\∀H',ah H H'->Q (.bl true) H'
theorem adt{rc:List Int}(h2:2<=rc.length)(hc:∀c∈rc,1<=c):∃n:Int,1<=n/\rc.getD 0 0=n/\(jE rc 0)[0]? = some (0,0)/\(jE rc 0)[n.toNat]? = some (1,0):=by
 match rc,h2 with
 | a::b::r,_ =>
  have ha:=hc a (by simp)
  have hb:=hc b (by simp)
  refine⟨a,ha,rfl,?_,?_⟩
  ·unfold jE;rw[eF,List.getElem?_append_left (by rw[List.length_map,List.length_range];lia),List.getElem?_map,List.getElem?_range (by lia)]
   rfl
  ·unfold jE;rw[eF,List.getElem?_append_right (by rw[List.length_map,List.length_range];lia),List.length_map,List.length_range,show a.toNat - (a - 0).toNat=0 by lia]
   rw[eF,List.getElem?_append_left (by rw[List.length_map,List.length_range];lia),List.getElem?_map,List.getElem?_range (by lia)]
   rfl
theorem Ph{nc:List (Int×Int)}{f:Int}{q:Int×Int}(h:nc[f.toNat]? = some q):cH nc f 1 = [q]:=by
 unfold cH;have hl:=(List.getElem?_eq_some_iff.mp h).1;rw[List.drop_eq_getElem_cons hl];have:=(List.getElem?_eq_some_iff.mp h).2;simp[this]
theorem adu{z:List (Int×Int)}{aG sk:Int}{sw:List Int}(h2:2<=(counts z).length)(hc:∀c∈counts z,1<=c/\c<=60):∃n,pI (ku z aG sk sw) n/\1<=n/\n<=60/\cH (ku z aG sk sw).nc n 1 = [(1,0)]/\cH (ku z aG sk sw).nc 0 1 = [(0,0)]:=by
 obtain⟨n,n1,e0,c0,c1⟩:=adt h2 λc h=>(hc c h).1;have m0:(counts z).getD 0 0∈counts z:=by rw[show (counts z).getD 0 0=(counts z)[0]'(by lia) by simp[show 0<(counts z).length by lia]];exact List.getElem_mem _
 have m1:(counts z).getD 1 0∈counts z:=by rw[show (counts z).getD 1 0=(counts z)[1]'(by lia) by simp[show 1<(counts z).length by lia]];exact List.getElem_mem _
 rw[e0] at m0;have:=hc _ m0;refine⟨n,⟨h2,(hc _ m1).1,?_,by lia,by lia⟩,n1,this.2,Ph c1,Ph c0⟩
 have:=aa_ (NO (counts z) 0) c1;rwa [show ((n.toNat:Nat):Int)=n by lia] at this
theorem Pj:∀(tk:List (Int×Int)) (xs:List V) (k:Int),0<=k->(∀q∈tk,0<=q.1)->k∉tk.map (·.1)->(tk.foldl (λxs p=>xs.set p.1.toNat (.int p.2)) xs)[k.toNat]? = xs[k.toNat]?
 | [],xs,k,_,_,_=>rfl
 | p::tk,xs,k,h0,hb,h=>by
  rw[List.map_cons,List.mem_cons,not_or] at h;have:=hb p (List.mem_cons_self ..);rw[List.foldl_cons,Pj tk _ k h0 (λq hq=>hb q (List.mem_cons_of_mem _ hq)) h.2,List.getElem?_set_ne (by lia)]
theorem Pn:∀(tk:List (Int×Int)) (xs:List V),(tk.map (·.1)).Nodup->(∀q∈tk,0<=q.1/\q.1<xs.length)->∀q∈tk,(tk.foldl (λxs p=>xs.set p.1.toNat (.int p.2)) xs)[q.1.toNat]? = some (.int q.2)
 | [],xs,_,_,q,h=>by cases h
 | p::tk,xs,nd,hb,q,h=>by
  rw[List.map_cons,List.nodup_cons] at nd;have bp:=hb p (List.mem_cons_self ..);rw[List.foldl_cons];rcases List.mem_cons.mp h with rfl | h
  ·rw[Pj tk _ _ bp.1 (λq hq=>(hb q (List.mem_cons_of_mem _ hq)).1) nd.1,List.getElem?_set_self (by lia)]
  ·exact Pn tk _ nd.2 (λq hq=>by rw[List.length_set];exact hb q (List.mem_cons_of_mem _ hq)) q h
theorem FF{n:Nat}{tk:List (Int×Int)}(nd:(tk.map (·.1)).Nodup)(hb:∀q∈tk,0<=q.1/\q.1<n){q:Int×Int}(hq:q∈tk):(cY n tk)[q.1.toNat]? = some (.int q.2) :=
 Pn tk _ nd (λq h=>by rw[List.length_replicate];exact hb q h) q hq
structure JB(all:List Dr)(m:Nat)(ds:List Dr)(b:Int)(tk:List (Int×Int)):Prop where
 nd:(tk.map (·.1)).Nodup
 bd:∀q∈tk,0<=q.1/\q.1<m
 al:∀d∈all,d∈ds\/∃q∈tk,q.1=d.n
 sb:∀d∈ds,d∈all
 dj:∀q∈tk,∀d∈ds,d.n≠q.1
 b0:0<=b
theorem JB.step{all:List Dr}{m:Nat}{ds:List Dr}{b b2 b3:Int}{tk:List (Int×Int)}(h:JB all m ds b tk)(ha:∀d∈all,0<=d.n/\d.n<m){d:Dr}(hd:d∈ds)(hb:0<=b3):JB all m (ds.filter λe=>decide (e.n≠d.n)) b3 (tk++[(d.n,b2)]) where
 nd:=by
  rw[List.map_append,List.nodup_append];refine⟨h.nd,by simp,λx hx y hy=>?_⟩
  obtain⟨q,hq,rfl⟩:=List.mem_map.mp hx;simp at hy;subst hy;exact λz=>h.dj q hq d hd z.symm
 bd:=λq hq=>by
  rcases List.mem_append.mp hq with hq | hq
  ·exact h.bd q hq
  ·rw[List.mem_singleton.mp hq];exact ha d (h.sb d hd)
 al:=λe he=>by
  rcases h.al e he with h1 | ⟨q,hq,e1⟩
  ·by_cases z:e.n=d.n
   ·exact .inr ⟨(d.n,b2),by simp,z.symm⟩
   ·exact .inl (List.mem_filter.mpr ⟨h1,decide_eq_true z⟩)
  ·exact .inr ⟨q,List.mem_append_left _ hq,e1⟩
 sb:=λe he=>h.sb e (List.mem_filter.mp he).1
 dj:=λq hq e he=>by
  obtain⟨h1,h2⟩:=List.mem_filter.mp he;rcases List.mem_append.mp hq with hq | hq
  ·exact h.dj q hq e h1
  ·rw[List.mem_singleton.mp hq];exact of_decide_eq_true h2
 b0:=hb
theorem adv{P:Pl}(ok:jF P)(hl:∀i:Nat,i<P.rc.length->1<=P.aG / P.rc.getD i 0){s q:Int×Int}(s0:0<=s.1)(s1:s.1<P.rc.length)(q0:0<=q.1)(q1:q.1<P.rc.length):s.2+1<=(c9 P s [q]).2:=by
 show s.2+1<=ie P s q+P.aG / P.rc.getD q.1.toNat 0;have h1:=hl q.1.toNat (by lia)
 have hs:0<=P.sw.getD (s.1 - q.1).natAbs 0:=by
  have l:=ok.sw.len;by_cases e:(s.1 - q.1).natAbs=0
  ·rw[e,ok.sw.z];exact Int.le_refl _
  ·have:=(ok.sw.pos (s.1 - q.1).natAbs (by lia) (by lia)).1
   lia
 unfold ie tZ;have h2:=Int.emod_nonneg (tY P q.1 q.2 - (s.2+P.sw.getD (s.1 - q.1).natAbs 0)) (show P.aG≠0 by have:=ok.aG;lia)
 lia
noncomputable def iw(s:Int):Nat->List (Int×Int)
 | 0=>[]
 | n+1=>(0,s)::iw (s+1) n
noncomputable def Ch(P:Pl):Int->List Ak->Int->Prop
 | b,[],e=>b=e
 | b,q::l,e=>q.at_=b/\q.gK=some b/\(∃s k,cH P.nc q.first q.many=iw s (k+1))/\(ie P (0,b) (cj ⟨0,q,cH P.nc q.first q.many⟩)=b)/\∃b1,b<b1/\c9 P (0,b) (cH P.nc q.first q.many)=(0,b1)/\Ch P b1 l e
theorem Ch.append{P:Pl}{m e:Int}{l2:List Ak}(h2:Ch P m l2 e):∀ {l1:List Ak} {b:Int},Ch P b l1 m->Ch P b (l1++l2) e
 | [],b,h=>by
  have:b=m:=h;subst this;exact h2
 | q::l,b,h=>by
  obtain⟨a1,a2,a3,a4,b1,a5,a6,a7⟩:=h;exact⟨a1,a2,a3,a4,b1,a5,a6,Ch.append h2 a7⟩
theorem Ch.ge{P:Pl}{e:Int}:∀ {l:List Ak} {b:Int},Ch P b l e->∀q∈l,b<=q.at_
 | [],b,_,q,hq=>by cases hq
 | a::l,b,h,q,hq=>by
  obtain⟨a1,a2,a3,a4,b1,a5,a6,a7⟩:=h;rcases List.mem_cons.mp hq with rfl | hq
  ·lia
  ·have:=Ch.ge a7 q hq;lia
theorem Ch.up{P:Pl}{e:Int}:∀ {l:List Ak} {b:Int},Ch P b l e->l.Pairwise λa b=>a.at_<b.at_
 | [],b,_=>.nil
 | a::l,b,h=>by
  obtain⟨a1,a2,a3,a4,b1,a5,a6,a7⟩:=h;exact .cons (λq hq=>by have:=Ch.ge a7 q hq;lia) (Ch.up a7)
theorem adw{P:Pl}(ok:jF P){τ:Int}:∀(k:Nat) (s:Int),ie P (0,s*cD P+τ*P.aG) (0,s)=s*cD P+τ*P.aG/\c9 P (0,s*cD P+τ*P.aG) (iw s k)=(0,(s+k)*cD P+τ*P.aG):=by
 have FG:∀s:Int,ie P (0,s*cD P+τ*P.aG) (0,s)=s*cD P+τ*P.aG:=λs=>by
  unfold ie tZ tY
  show s*cD P+τ*P.aG+P.sw.getD 0 0+(_ - (s*cD P+τ*P.aG+P.sw.getD 0 0)) % P.aG=_;rw[ok.sw.z,Int.add_zero];have e:((s*cD P+0*P.dF) % P.aG - (s*cD P+τ*P.aG)) % P.aG=0:=by
   rw[Int.zero_mul,Int.add_zero,Int.emod_sub_emod,show s*cD P - (s*cD P+τ*P.aG)=(-τ)*P.aG by rw[Int.neg_mul];lia]
   exact Int.mul_emod_left _ _
  have e':((s*(P.aG / P.rc.getD (0:Int).toNat 0)+0*P.dF) % P.aG - (s*cD P+τ*P.aG)) % P.aG=0:=e;rw[e',Int.add_zero]
 intro k
 induction k with
 | zero=>intro s;exact⟨FG s,by simp[iw,c9]⟩
 | succ k ih =>
  intro s;refine⟨FG s,?_⟩
  show c9 P (j_ P (0,s*cD P+τ*P.aG) (0,s)) (iw (s+1) k)=_;have e:j_ P (0,s*cD P+τ*P.aG) (0,s)=(0,(s+1)*cD P+τ*P.aG):=by
   unfold j_;rw[FG s]
   show (0,s*cD P+τ*P.aG+cD P)=_;rw[Int.add_mul,Int.one_mul];congr 1;lia
  rw[e,(ih (s+1)).2];congr 2;rw[show s+1+(k:Int)=s+((k+1:Nat):Int) by lia]
structure d8(P:Pl)(n1:Int)(n:Nat):Prop where
 ok:jF P
 hl:∀i:Nat,i<P.rc.length->1<=P.aG / P.rc.getD i 0
 nx:pI P n1
 FH:1<=n1
 c1:cH P.nc n1 1 = [(1,0)]
 cR:∀(s k:Nat),s+k<=(c0 P).toNat->cH P.nc s k=iw s k
 ca:1<=c0 P
 cb:c0 P<=60
 lp:c0 P*cD P=P.aG
 l9:P.aG<=1000000000
 st:mz 0 (c0 P) 16 n
 nM:P.nc.length<=1000000
section
variable{P:Pl}{n1:Int}{n:Nat}
theorem d8.b1(h:d8 P n1 n):1<=cD P:=h.hl 0 (by have:=h.ok.n2;lia)
theorem d8.round(h:d8 P n1 n)(τ:Int):Ch P (τ*P.aG) ((fL P n).map (nN · (τ*P.aG))) ((τ+1)*P.aG):=by
 have b1:=h.b1
 suffices ∀k:Nat,k<=n->Ch P (τ*P.aG) (((List.range k).map (jH P)).map (nN · (τ*P.aG))) (min ((k:Int)*16) (c0 P)*cD P+τ*P.aG) by
  have g:=this n (Nat.le_refl _);have ge:=h.st.ge;rw[Int.min_eq_right (by lia),h.lp] at g
  unfold fL;rw[Int.add_mul,Int.one_mul,Int.add_comm];exact g
 intro k
 induction k with
 | zero =>
  intro _
  show τ*P.aG=min (((0:Nat):Int)*16) (c0 P)*cD P+τ*P.aG;have ca:=h.ca;rw[Int.min_eq_left (by lia)]
  simp
 | succ k ih =>
  intro hk;have g:=ih (by lia)
  have lt:=h.st.lt k (by lia)
  rw[List.range_succ,List.map_append,List.map_append];refine Ch.append ?_ g;rw[Int.min_eq_left (by lia)]
  obtain⟨c,hc⟩:∃c:Nat,min 16 (c0 P - (k:Int)*16)=((c+1:Nat):Int):=⟨(min 16 (c0 P - (k:Int)*16)).toNat - 1,by lia⟩
  have cells:cH P.nc (jH P k).first (jH P k).many=iw ((k:Int)*16) (c+1):=by
   show cH P.nc ((k:Int)*16) (min 16 (c0 P - (k:Int)*16))=_;rw[hc];have:=h.cR (k*16) (c+1) (by lia)
   rw[show ((k*16:Nat):Int)=(k:Int)*16 by lia] at this
   exact this
  have r:=adw h.ok (τ:=τ) (c+1) ((k:Int)*16);refine⟨rfl,rfl,⟨_,_,cells⟩,?_,((k:Int)*16+((c+1:Nat):Int))*cD P+τ*P.aG,?_,?_,?_⟩
  ·unfold cj
   show ie P _ ((cH P.nc (jH P k).first (jH P k).many).getD 0 (0,0))=_;rw[cells];exact r.1
  ·have:=Int.mul_lt_mul_of_pos_right (show (k:Int)*16<(k:Int)*16+((c+1:Nat):Int) by lia) (show 0<cD P by lia)
   lia
  ·show c9 P _ (cH P.nc (jH P k).first (jH P k).many)=_;rw[cells];exact r.2
  ·show _=min (((k+1:Nat):Int)*16) (c0 P)*cD P+τ*P.aG;rw[show min (((k+1:Nat):Int)*16) (c0 P)=(k:Int)*16+((c+1:Nat):Int) by lia]
noncomputable def rounds(P:Pl)(n:Nat):Nat->List Ak
 | 0=>[]
 | k+1=>rounds P n k++(fL P n).map (nN · ((k:Int)*P.aG))
theorem d8.yJ(h:d8 P n1 n):∀k:Nat,Ch P 0 (rounds P n k) ((k:Int)*P.aG)
 | 0=>by show (0:Int)=((0:Nat):Int)*P.aG;simp
 | k+1=>by
  have:=h.round (k:Int);exact Ch.append this (h.yJ k)
noncomputable def fX(P:Pl)(n1:Int)(n k:Nat):List Ak:=lu n1 0 0::rounds P n k
end
noncomputable def fq(n1:Int):Dr:=⟨0,lu n1 0 0,[(1,0)]⟩
structure JE(P:Pl)(n1:Int)(all:List Dr)(qs:List Ak)(ds:List Dr)(r b:Int)(st:Lt)(tk:List (Int×Int)):Prop where
 jb:JB all qs.length ds b tk
 c:st.c=false
 i:st.i=true
 on:(∃e∈ds,e.n=0)->r=0/\∃(i:Nat) (l:List Ak) (e:Int),1<=i/\ds=fq n1::dX P.nc i l/\qs.drop i=l/\Ch P b l e/\∀q∈tk,q.1≠0/\q.2<b/\(qs[q.1.toNat]?).map (·.at_)=some q.2
 off:(¬ ∃e∈ds,e.n=0)->ds = []/\∃b0,(0,b0)∈tk/\∀q∈tk,q.1≠0->q.2<b0/\(qs[q.1.toNat]?).map (·.at_)=some q.2
theorem Po{sw:Bool}{st:Lt}{R:List Dr}(c:st.c=false)(i:st.i=true)(fV:R≠[])(hr:∀d∈R,0<=(cj d).1):fK st R=R/\gf st R=st/\nI sw st 0 R=st/\q8 sw 0 R=0/\nJ sw st.i 0 R=R:=by
 have wy:ez true 0 R=R:=List.filter_eq_self.mpr λe he=>by
  unfold l_;have:=hr e he;simp[this]
 have dl:¬ R.length=0:=λz=>fV (List.length_eq_zero_iff.mp z);refine⟨by unfold fK;rw[c];rfl,by unfold gf;rw[c];rfl,?_⟩
 have t:mh st 0 R=st:=by unfold mh;rw[i,wy,if_neg dl,← i]
 unfold nI q8 nJ;cases sw
 ·simp[t,i,wy]
 ·simp[wy,dl]
theorem JE.along{P:Pl}{n1:Int}{n:Nat}{qs:List Ak}{o:Rk}(G:d8 P n1 n)(ha:∀d∈dX P.nc 0 qs,0<=d.n/\d.n<qs.length):Pe P o (JE P n1 (dX P.nc 0 qs) qs) where
 go:=λds r b st tk b2 d cA h fV gW hp=>by
  have hz:∃e∈ds,e.n=0:=Classical.byContradiction λz=>fV (h.off z).1;obtain⟨rfl,i,l,e,i1,rB,el,ch,tq⟩:=h.on hz;obtain⟨M,⟨y,hy,ey⟩,hM,eb⟩:=gW;have b0:=h.jb.b0;have n2:=G.ok.n2;have yK:fq n1∈ds:=by rw[rB];exact List.mem_cons_self ..
  have e2:b2=b:=by
   have m0:M<=0:=hM _ yK;have m1:0<=M:=by
    rw[← ey];rw[rB] at hy;rcases List.mem_cons.mp hy with rfl | hy
    ·exact Int.le_refl _
    ·have:=ch.ge _ (uF _ _ _ _ hy).1;lia
   rw[eb];split <;> lia
  subst e2;have rz:∀ {R:List Dr},(∀x∈R,x∈ds)->∀x∈R,0<=(cj x).1:=λhR x hx=>by
   have:=hR x hx;rw[rB] at this;rcases List.mem_cons.mp this with rfl | this
   ·show (0:Int)<=1;decide
   ·obtain⟨m1,m2⟩:=uF _ _ _ _ this;have inl:∀ {l:List Ak} {b e:Int},Ch P b l e->∀q∈l,∃s k,cH P.nc q.first q.many=iw s (k+1):=by
     intro l
     induction l with
     | nil=>intro b e _ q hq;cases hq
     | cons a l ih =>
      intro b e hc q hq;obtain⟨_,_,c3,_,b1,_,_,c7⟩:=hc;rcases List.mem_cons.mp hq with rfl | hq
      ·exact c3
      ·exact ih c7 q hq
    obtain⟨s,k,ec⟩:=inl ch _ m1;unfold cj;rw[m2,ec];exact Int.le_refl _
  have f0:∀t:List Dr,List.filter (λd:Dr=>decide (d.q.at_<=b2)) (fq n1::t)=fq n1::List.filter (λd:Dr=>decide (d.q.at_<=b2)) t:=λt=>List.filter_cons_of_pos (p:=λd:Dr=>decide (d.q.at_<=b2)) (a:=fq n1) (decide_eq_true (show (0:Int)<=b2 from b0));cases l with
  | nil =>
   have fl:ds.filter (λd=>decide (d.q.at_<=b2)) = [fq n1]:=by
    rw[rB];exact f0 []
   rw[fl] at hp;have hd:d=fq n1:=List.mem_singleton.mp hp.mem;subst hd;have gW:cA=st:=by
    cases o with
    | near=>exact hp.2
    | gP=>exact hp.2
    | gQ=>exact hp.2
    | li sw =>
     obtain⟨l1,l2,l3,l4,l5⟩:=Po (sw:=sw) (R:=[fq n1]) h.c h.i (by simp) (rz λx hx=>by rw[List.mem_singleton.mp hx];exact yK)
     rw[hp.1,l1,l2,l3]
   subst gW;have emp:(ds.filter λe=>decide (e.n≠(fq n1).n)) = []:=by
    rw[rB];rfl
   have up:=adv G.ok G.hl (s:=(0,b2)) (q:=(1,0)) (Int.le_refl _) (by show (0:Int)<_;lia) (by show (0:Int)<=1;decide) (by show (1:Int)<_;lia)
   have up:b2+1<=(c9 P (0,b2) (fq n1).c).2:=up;refine⟨h.jb.step ha yK (by lia),h.c,h.i,λ⟨x,hx,_⟩=>?_,λ_=>⟨emp,b2,by simp[fq],λq hq q1=>?_⟩⟩
   ·rw[emp] at hx;cases hx
   ·rcases List.mem_append.mp hq with hq | hq
    ·exact(tq q hq).2
    ·rw[List.mem_singleton.mp hq] at q1;exact absurd rfl q1
  | cons q l =>
   obtain⟨c1,c2,⟨s,k,c3⟩,c4,b1,c5,c6,c7⟩:=ch;have yL:ds=fq n1::⟨(i:Int),q,cH P.nc q.first q.many⟩::dX P.nc (i+1) l:=rB;generalize uJ:(⟨(i:Int),q,cH P.nc q.first q.many⟩:Dr)=dj at yL;have FI:dj.n=(i:Int):=by rw[← uJ]
   have Pp:dj.q=q:=by rw[← uJ]
   have djc:dj.c=iw s (k+1):=by rw[← uJ];exact c3
   have djh:cj dj=(0,s):=by unfold cj;rw[djc];rfl
   have Pq:dj∈ds:=by rw[yL];exact List.mem_cons_of_mem _ (List.mem_cons_self ..)
   have fl:ds.filter (λd=>decide (d.q.at_<=b2)) = [fq n1,dj]:=by
    rw[yL,f0,List.filter_cons_of_pos (p:=λd:Dr=>decide (d.q.at_<=b2)) (a:=dj) (decide_eq_true (by rw[Pp];lia)),List.filter_eq_nil_iff.mpr λx hx=>?_]
    have:=c7.ge _ (uF _ _ _ _ hx).1;simp only[decide_eq_true_eq];lia
   rw[fl] at hp;have nb:∀ {rk:Dr->Int×Int} {x:Dr},bestOf rk [fq n1,dj] x->(rk dj).1<(rk (fq n1)).1->x=dj:=λ{rk x} hb bT=>by
    rcases List.mem_cons.mp hb.1 with rfl | hx
    ·exact absurd (.inl bT) (hb.2 dj (by simp))
    ·exact List.mem_singleton.mp hx
   have near:(kh P 0 b2 dj).1<(kh P 0 b2 (fq n1)).1:=by
    unfold kh;rw[djh]
    show (((0:Int) - 0).natAbs:Int)<(((1:Int) - 0).natAbs:Int);decide
   have both:d=dj/\cA=st:=by
    cases o with
    | near=>exact⟨nb hp.1 near,hp.2⟩
    | gP =>
     refine⟨nb hp.1 ?_,hp.2⟩
     show ie P (0,b2) (cj dj)<ie P (0,b2) (1,0);have e4:ie P (0,b2) (cj dj)=b2:=by
      have:cj dj=cj ⟨0,q,cH P.nc q.first q.many⟩:=by rw[← uJ];rfl
      rw[this];exact c4
     rw[e4];have l2:=G.ok.sw.len;have sp:=(G.ok.sw.pos 1 (by lia) (by lia)).1
     unfold ie tZ
     show b2<b2+P.sw.getD 1 0+(tY P 1 0 - (b2+P.sw.getD 1 0)) % P.aG;have:=Int.emod_nonneg (tY P 1 0 - (b2+P.sw.getD 1 0)) (show P.aG≠0 by have:=G.ok.aG;lia)
     lia
    | gQ =>
     refine⟨nb hp.1 ?_,hp.2⟩;unfold iX;rw[Pp,c2]
     show (0:Int)<1;decide
    | li sw =>
     obtain⟨l1,l2,l3,l4,l5⟩:=Po (sw:=sw) (R:=[fq n1,dj]) h.c h.i (by simp) (rz λx hx=>by
      rcases List.mem_cons.mp hx with rfl | hx
      ·exact yK
      ·rw[List.mem_singleton.mp hx];exact Pq)
     obtain⟨p1,p2⟩:=hp;rw[l1,l2,l3] at p1;rw[l1,l2,l3,l4,l5] at p2;exact⟨nb p2 near,p1⟩
   obtain⟨rfl,rfl⟩:=both;have Pr:ds.filter (λe=>decide (e.n≠d.n))=fq n1::dX P.nc (i+1) l:=by
    rw[yL,FI,List.filter_cons_of_pos (p:=λe:Dr=>decide (e.n≠(i:Int))) (a:=fq n1) (decide_eq_true (show (0:Int)≠i by lia)),List.filter_cons_of_neg (p:=λe:Dr=>decide (e.n≠(i:Int))) (by rw[FI];simp),List.filter_eq_self.mpr λx hx=>?_]
    have:=(uE _ _ _ _ hx).1;exact decide_eq_true (by lia)
   have ee:c9 P (0,b2) d.c=(0,b1):=by rw[← uJ];exact c6
   have el':qs.drop (i+1)=l:=by rw[← List.tail_drop,el];rfl
   have eq:qs[i]? = some q:=by
    have:=List.getElem?_drop (xs:=qs) (i:=i) (j:=0);rw[el,Nat.add_zero] at this;exact this.symm
   rw[ee];refine⟨h.jb.step ha Pq (by show 0<=b1;lia),h.c,h.i,λ_=>⟨rfl,i+1,l,e,by lia,Pr,el',c7,λp hp=>?_⟩,λno=>?_⟩
   ·rcases List.mem_append.mp hp with hp | hp
    ·obtain⟨t1,t2,t3⟩:=tq p hp;exact⟨t1,by show p.2<b1;lia,t3⟩
    ·rw[List.mem_singleton.mp hp];refine⟨by show d.n≠0;lia,c5,?_⟩
     show Option.map _ (qs[d.n.toNat]?)=some b2;rw[FI,Int.toNat_natCast,eq]
     show some q.at_=some b2;rw[c1]
   ·exact absurd ⟨fq n1,by rw[Pr];exact List.mem_cons_self ..,rfl⟩ no
section
variable{P:Pl}{n1:Int}{n:Nat}
theorem yM:∀(k:Nat) (s:Int),(iw s k).length=k
 | 0,s=>rfl
 | k+1,s=>by show (iw (s+1) k).length+1=_;rw[yM k (s+1)]
theorem Pu:∀(k:Nat) (s:Int) (q:Int×Int),q∈iw s k->q.1=0/\s<=q.2/\q.2<s+k
 | 0,s,q,h=>by cases h
 | k+1,s,q,h=>by
  rcases List.mem_cons.mp (show q∈(0,s)::iw (s+1) k from h) with rfl | h
  ·exact⟨rfl,Int.le_refl _,by show s<s+((k+1:Nat):Int);lia⟩
  ·have:=Pu k (s+1) q h;exact⟨this.1,by lia,by lia⟩
theorem FJ:∀(k:Nat) (q:Ak),q∈rounds P n k->∃(κ τ:Nat),κ<n/\q=nN (jH P κ) ((τ:Int)*P.aG)
 | 0,q,h=>by cases h
 | k+1,q,h=>by
  rcases List.mem_append.mp (show q∈rounds P n k++(fL P n).map (nN · ((k:Int)*P.aG)) from h) with h | h
  ·exact FJ k q h
  ·obtain⟨a,ha,rfl⟩:=List.mem_map.mp h;obtain⟨κ,hk,rfl⟩:=List.mem_map.mp ha;exact⟨κ,k,List.mem_range.mp hk,rfl⟩
theorem uK:∀k:Nat,(rounds P n k).length=k*n
 | 0=>by simp[rounds]
 | k+1=>by
  show (rounds P n k++(fL P n).map (nN · ((k:Int)*P.aG))).length=_;rw[List.length_append,List.length_map,uK k];unfold fL;rw[List.length_map,List.length_range,Nat.succ_mul]
theorem d8.uL(h:d8 P n1 n):c0 P<=P.nc.length:=by
 have ca:=h.ca;have e:=congrArg List.length (h.cR 0 (c0 P).toNat (by lia))
 rw[yM] at e;unfold cH at e;rw[List.length_take,List.length_drop] at e;have e:min (((c0 P).toNat:Nat):Int).toNat (P.nc.length - 0)=(c0 P).toNat:=e;lia
theorem d8.nc1(h:d8 P n1 n):n1+1<=P.nc.length:=by
 have e:=congrArg List.length h.c1;unfold cH at e;rw[List.length_take,List.length_drop] at e;have:=h.FH;have e:min 1 (P.nc.length - n1.toNat)=1:=e;lia
theorem d8.chunk(h:d8 P n1 n){κ:Nat}(hk:κ<n):∃c:Nat,min 16 (c0 P - (κ:Int)*16)=((c+1:Nat):Int)/\c+1<=16/\(κ:Int)*16+((c+1:Nat):Int)<=c0 P/\cH P.nc ((κ:Int)*16) (min 16 (c0 P - (κ:Int)*16))=iw ((κ:Int)*16) (c+1):=by
 have lt:=h.st.lt κ hk;refine⟨(min 16 (c0 P - (κ:Int)*16)).toNat - 1,by lia,by lia,by lia,?_⟩
 have:=h.cR (κ*16) ((min 16 (c0 P - (κ:Int)*16)).toNat - 1+1) (by lia)
 rw[show ((κ*16:Nat):Int)=(κ:Int)*16 by lia,show (((min 16 (c0 P - (κ:Int)*16)).toNat - 1+1:Nat):Int)=min 16 (c0 P - (κ:Int)*16) by lia] at this
 exact this
theorem d8.rd(h:d8 P n1 n)(k:Nat):∀q∈fX P n1 n k,yH P q:=λq hq=>by
 have n2:=h.ok.n2;rcases List.mem_cons.mp hq with rfl | hq
 ·exact⟨rfl,rfl,rfl,h.nx.n0,h.nx.n1,by show (1:Int)<=1;decide,by show (1:Int)<=16;decide,by show k8 P (cH P.nc n1 1);rw[h.c1];intro q hq;rw[List.mem_singleton.mp hq];exact⟨by decide,by show (1:Int)<_;lia,by decide,by decide⟩,by show (cH P.nc n1 1).length=1;rw[h.c1];rfl⟩
 ·obtain⟨κ,τ,hk,rfl⟩:=FJ k q hq;obtain⟨c,e1,e2,e3,e4⟩:=h.chunk hk;have cb:=h.cb;refine⟨rfl,rfl,rfl,by show 0<=(κ:Int)*16;lia,by show (κ:Int)*16<=1000000;lia,by show 1<=min 16 (c0 P - (κ:Int)*16);lia,by show min 16 (c0 P - (κ:Int)*16)<=16;lia,?_,?_⟩
  ·show k8 P (cH P.nc ((κ:Int)*16) (min 16 (c0 P - (κ:Int)*16)));rw[e4];intro q hq;obtain⟨m1,m2,m3⟩:=Pu _ _ _ hq;exact⟨by lia,by lia,by lia,by lia⟩
  ·show (cH P.nc ((κ:Int)*16) (min 16 (c0 P - (κ:Int)*16))).length=(min 16 (c0 P - (κ:Int)*16)).toNat;rw[e4,yM,e1];rfl
theorem d8.up(h:d8 P n1 n)(k:Nat):∀(i:Nat) (q q':Ak),(fX P n1 n k)[i]? = some q->(fX P n1 n k)[i+1]? = some q'->q.at_<=q'.at_:=λi q q' e e'=>by
 have ch:=h.yJ k;have e':(rounds P n k)[i]? = some q':=e';cases i with
 | zero =>
  cases e;exact ch.ge _ (List.mem_of_getElem? e')
 | succ i =>
  have e:(rounds P n k)[i]? = some q:=e;have u:=List.pairwise_iff_getElem.mp ch.up;obtain⟨h1,rfl⟩:=List.getElem?_eq_some_iff.mp e;obtain⟨h2,rfl⟩:=List.getElem?_eq_some_iff.mp e';exact Int.le_of_lt (u i (i+1) h1 h2 (by lia))
theorem d8.rC(h:d8 P n1 n){k:Nat}(hn:(fX P n1 n k).length<=100):x8 P.nc.length (fX P n1 n k):=by
 have a:=h.uL;have b:=h.nc1;refine⟨hn,λi q e=>?_,h.up k,λi q e x hx=>?_⟩
 ·have rd:=h.rd k q (List.mem_of_getElem? e);rcases List.mem_cons.mp (List.mem_of_getElem? e) with rfl | hq
  ·exact⟨⟨h.nx.n0,by show (0:Int)<=1;decide,by show (1:Int)<=16;decide,b⟩,by show 0<=1000;decide⟩
  ·obtain⟨κ,τ,hk,rfl⟩:=FJ k q hq;obtain⟨c,e1,e2,e3,e4⟩:=h.chunk hk;exact⟨⟨by show 0<=(κ:Int)*16;lia,by show 0<=min 16 (c0 P - (κ:Int)*16);lia,by show min 16 (c0 P - (κ:Int)*16)<=16;lia,by show (κ:Int)*16+min 16 (c0 P - (κ:Int)*16)<=_;lia⟩,by show 0<=1000;decide⟩
 ·have rd:=h.rd k q (List.mem_of_getElem? e);rw[rd.b] at hx;cases hx
theorem d8.start(h:d8 P n1 n)(k:Nat){c:Bool}(hc:c=false):JE P n1 (dX P.nc 0 (fX P n1 n k)) (fX P n1 n k) (dX P.nc 0 (fX P n1 n k)) 0 0 ⟨c,true,[]⟩ []:=by
 have e:dX P.nc 0 (fX P n1 n k)=fq n1::dX P.nc 1 (rounds P n k):=by
  show ⟨((0:Nat):Int),lu n1 0 0,cH P.nc n1 1⟩::dX P.nc 1 (rounds P n k)=_;rw[h.c1];rfl
 refine⟨⟨by simp,λq h=>by(cases h),λd h=>.inl h,λd h=>h,λq h=>by(cases h),Int.le_refl _⟩,hc,rfl,λ_=>⟨rfl,1,rounds P n k,_,Nat.le_refl _,e,rfl,h.yJ k,λq hq=>by(cases hq)⟩,λno=>absurd ⟨fq n1,by rw[e];exact List.mem_cons_self ..,rfl⟩ no⟩
theorem d8.all(h:d8 P n1 n)(k:Nat):∀d∈dX P.nc 0 (fX P n1 n k),0<=d.n/\d.n<(fX P n1 n k).length:=λd hd=>by
 have:=uE _ _ _ _ hd;rw[Nat.zero_add] at this;exact⟨this.1,this.2⟩
end
theorem Pw:∀(xs:List V),(∀i:Nat,i<xs.length->∃b:Int,xs[i]? = some (.int b))->∃bs:List Int,xs=bs.map V.int
 | [],_=>⟨[],rfl⟩
 | x::xs,h=>by
  obtain⟨b,e⟩:=h 0 (by simp)
  obtain⟨bs,e2⟩:=Pw xs λi hi=>by
   obtain⟨c,ec⟩:=h (i+1) (by simp;lia)
   exact⟨c,by simpa using ec⟩
  exact⟨b::bs,by simp at e;rw[e,e2];rfl⟩
theorem JE.ends{P:Pl}{n1:Int}{qs:List Ak}{r b:Int}{st:Lt}{tk:List (Int×Int)}(J:JE P n1 (dX P.nc 0 qs) qs [] r b st tk)(h1:1<=qs.length):∃(b0:Int) (bs:List Int),cY qs.length tk=(b0::bs).map V.int/\bs.length+1=qs.length/\∀(i:Nat) (c:Int),bs[i]? = some c->c<b0/\(qs[i+1]?).map (·.at_)=some c:=by
 obtain⟨_,b0,hb,hq⟩:=J.off (λ⟨e,he,_⟩=>by cases he)
 have at_:∀i:Nat,i<qs.length->∃c,((i:Int),c)∈tk/\(cY qs.length tk)[i]? = some (.int c):=λi hi=>by
  obtain⟨d,hd,e⟩:=Fz P.nc qs 0 i hi;rcases J.jb.al d hd with z | ⟨q,hq,e2⟩
  ·cases z
  ·have:=FF J.jb.nd J.jb.bd hq;rw[e2,e,Nat.zero_add] at this;have eq:q=((i:Int),q.2):=Prod.ext (by rw[e2,e,Nat.zero_add]) rfl
   exact⟨q.2,eq▸hq,this⟩
 obtain⟨bs,eb⟩:=Pw (cY qs.length tk) λi hi=>by
  rw[Fy] at hi;obtain⟨c,_,e⟩:=at_ i hi;exact⟨c,e⟩
 have hl:bs.length=qs.length:=by
  have:=congrArg List.length eb;rwa [Fy,List.length_map,eq_comm] at this
 have mem:∀(i:Nat) (c:Int),bs[i]? = some c->((i:Int),c)∈tk:=λi c e=>by
  obtain⟨c',h1,e'⟩:=at_ i (by have:=(List.getElem?_eq_some_iff.mp e).1;lia)
  rw[eb,List.getElem?_map,e] at e';cases e';exact h1
 match bs,hl with
 | [],hl=>simp at hl;lia
 | yN::bs,hl =>
  have m0:=mem 0 yN rfl;have e0:yN=b0:=by
   have x:=FF J.jb.nd J.jb.bd m0;have y:=FF J.jb.nd J.jb.bd hb;rw[show ((((0:Nat):Int),yN).1)=(((0:Int),b0).1) from rfl,y] at x;cases x;rfl
  refine⟨yN,bs,eb,hl,λi c e=>?_⟩;have m:=mem (i+1) c e;have:=hq _ m (by show ((i+1:Nat):Int)≠0;lia)
  rw[e0];exact⟨this.1,this.2⟩
theorem Px{f:Nat->Bool}(inj:∀i j:Nat,1<=i->1<=j->f i=true->f j=true->i=j):∀m:Nat,(List.range m).countP f<=2/\((∀k:Nat,1<=k->k<m->f k=false)->(List.range m).countP f<=1)
 | 0=>by simp
 | m+1=>by
  have s:(List.range (m+1)).countP f=(List.range m).countP f+if f m=true then 1 else 0:=by rw[List.range_succ,List.countP_append,List.countP_singleton]
  obtain⟨i1,i2⟩:=Px inj m;rw[s];by_cases e:f m=true
  ·rw[if_pos e];by_cases m0:m=0
   ·subst m0;simp
   ·have:=i2 λk k1 km=>by
     cases ek:f k with
     | false=>rfl
     | true=>have:=inj k m k1 (by lia) ek e;lia
    refine⟨by lia,λall=>?_⟩
    rw[all m (by lia) (by lia)] at e;cases e
  ·rw[if_neg e];exact⟨by lia,λall=>i2 λk k1 km=>all k k1 (by lia)⟩
theorem Py:∀(k:Nat) (s:Int) (i:Nat),i<k->(iw s k)[i]? = some (0,s+(i:Int))
 | 0,s,i,h=>by lia
 | k+1,s,i,h=>by
  show ((0,s)::iw (s+1) k)[i]? = _;cases i with
  | zero=>simp
  | succ i =>
   rw[List.getElem?_cons_succ,Py k (s+1) i (by lia)]
   congr 2;lia
theorem adx{rc:List Int}(h1:1<=rc.length)(hc:∀c∈rc,1<=c){i:Nat}(hi:(i:Int)<rc.getD 0 0):(jE rc 0)[i]? = some (0,(i:Int)):=by
 match rc,h1 with
 | a::r,_ =>
  have hi:(i:Int)<a:=hi;unfold jE;rw[eF,List.getElem?_append_left (by rw[List.length_map,List.length_range];lia),List.getElem?_map,List.getElem?_range (by lia)]
  simp
theorem qO.ev{z:List (Int×Int)}{aG sk:Int}{sw:List Int}(wo:qO z aG sk sw){n:Nat}(st:mz 0 (c0 (ku z aG sk sw)) 16 n):∃n1,d8 (ku z aG sk sw) n1 n:=by
 have cl:=nA z λp hp=>(wo.zl.ok.r p hp).1;have NP:=wo.zl.sm;have c2:=wo.zl.ok.s2;have hc:∀c∈counts z,1<=c/\c<=60:=λc hc=>by
  obtain⟨p,hp,rfl⟩:=o_ hc;exact(wo.zl.ok.r p hp).2.2
 obtain⟨n1,nx,FH,n60,c1,_⟩:=adu (aG:=aG) (sk:=sk) (sw:=sw) (show 2<=(counts z).length by lia) hc
 have e0:c0 (ku z aG sk sw)=(counts z).getD 0 0:=rfl;have eb:cD (ku z aG sk sw)=aG / (counts z).getD 0 0:=rfl;have get:∀i:Nat,i<(counts z).length->∃p∈z,(counts z).getD i 0=p.2/\p.2*(aG / p.2)=aG/\1<=p.2/\p.2<=60:=λi hi=>by
  obtain⟨p,hp,e⟩:=o_ (get_mem (xP (counts z) hi));have nO:=wo.zl.ok.r p hp;have l3:=wo.l3 p hp;refine⟨p,hp,e,?_,nO.2.2⟩;have:=Int.mul_ediv_add_emod aG p.2;lia
 obtain⟨p0,_,ep,lp,a1,a2⟩:=get 0 (by lia)
 refine⟨n1,wo.pl _,λi hi=>?_,nx,FH,c1,λs k hk=>?_,by rw[e0,ep];exact a1,by rw[e0,ep];exact a2,by rw[e0,eb,ep];exact lp,wo.l2,st,?_⟩
 ·obtain⟨p,_,e,lp,a1,_⟩:=get i hi
  show 1<=aG / (counts z).getD i 0;have l1:=wo.l1;rw[e];by_cases z0:aG / p.2<=0
  ·have:=Int.mul_nonneg (show 0<=p.2 by lia) (show 0<=-(aG / p.2) by lia)
   rw[Int.mul_neg,lp] at this;lia
  ·lia
 ·rw[e0] at hk;unfold cH;refine List.ext_getElem? λi=>?_
  show (List.take ((k:Int)).toNat (List.drop ((s:Int)).toNat (jE (counts z) 0)))[i]? = _;rw[Int.toNat_natCast,Int.toNat_natCast];by_cases hi:i<k
  ·rw[List.getElem?_take_of_lt hi,List.getElem?_drop,Py k s i hi,adx (by lia) (λc h=>(hc c h).1) (by lia)]
   congr 2
  ·rw[List.getElem?_eq_none (by rw[List.length_take];lia),List.getElem?_eq_none (by rw[yM];lia)]
 ·have:=xO (s:=0) (by decide) (counts z) 0 λc h=>by have:=hc c h;lia
  show (eF 0 0 (counts z)).length<=1000000;lia
noncomputable def ady(K:PySem.W.Frag)(C:Addr)(c:RC)(CA:Addr)(T:iu):Sp:=λvs H Q _=>∃(p ru t dx B l1 l2:Addr) (times most n1:Int) (n:Nat) (P:Pl) (fp p1 p2:List Addr) (o:Rk) (st:Lt),vs = [.ref p,.ref ru,.ref t,.int times,.int most]/\bY K C H p P fp/\d8 P n1 n/\H t=some (.tup [.str "ever",.ref l1,.ref l2,.int P.aG])/\cW K CA H l1 p1 [lu n1 0 0]/\cW K CA H l2 p2 (fL P n)/\1<=times/\times<=100/\2<=most/\cF K c o st H ru dx B/\st.c=false/\eK (T.of o) H/\
 ∀H',bO ru (T.of o).1 H H'->eK (T.of o) H'->Q (.bl true) H'
section
variable{K:PySem.W.Frag}{c:RC}{o:Rk}{st:Lt}{H H':Hp}{ru dx B:Addr}{tq:Addr×Pos×Str}
theorem cF.FL(h:cF K c o st H ru dx B):∃C fs,H ru=some (.ins C dx fs)/\fs.lookup ("kind" : Str)=none/\fs.lookup ("ring_cells" : Str)=none:=by
 cases o with
 | near=>exact⟨_,_,h,rfl,rfl⟩
 | gP=>exact⟨_,_,h,rfl,rfl⟩
 | gQ=>exact⟨_,_,h,rfl,rfl⟩
 | li sw =>
  obtain⟨C,h1,h2,h3⟩:=h;exact⟨C,_,h3.o,by simp[iF,List.lookup_cons,fc],by simp[iF,List.lookup_cons,fc]⟩
theorem cF.kp(u:cF K c o st H ru dx B)(t:eK tq H)(k:bO ru tq.1 H H'){a:Addr}{x:HO}(e:H a=some x)(n1:∀C d fs,x≠.ins C d fs)(n2:∀ps,x≠.e7 ps):H' a=some x:=by
 obtain⟨C0,fs,e0,_⟩:=u.FL;exact k _ _ e (λz=>by rw[z,e0] at e;cases e;exact n1 _ _ _ rfl) (t.ne e n2)
theorem cF.lst(u:cF K c o st H ru dx B)(t:eK tq H)(k:bO ru tq.1 H H'){a:Addr}{xs:List V}(e:H a=some (.lst xs)):H' a=some (.lst xs):=u.kp t k e (λ_ _ _ z=>nomatch z) (λ_ z=>nomatch z)
theorem cF.tup(u:cF K c o st H ru dx B)(t:eK tq H)(k:bO ru tq.1 H H'){a:Addr}{xs:List V}(e:H a=some (.tup xs)):H' a=some (.tup xs):=u.kp t k e (λ_ _ _ z=>nomatch z) (λ_ z=>nomatch z)
theorem cF.seq(u:cF K c o st H ru dx B)(t:eK tq H)(k:bO ru tq.1 H H'){a:Addr}{xs:List V}(h:aE K H a xs):aE K H' a xs:=by
 rcases h with(h | ⟨o,h⟩) | h
 ·exact .inl (.inl (u.lst t k h))
 ·exact .inl (.inr ⟨o,u.kp t k h (λ_ _ _ z=>nomatch z) (λ_ z=>nomatch z)⟩)
 ·exact .inr h
theorem cF.Pz(u:cF K c o st H ru dx B)(t:eK tq H)(k:bO ru tq.1 H H'){a C d:Addr}{fs:List (Str×V)}(e:H a=some (.ins C d fs))(n:fs.lookup ("kind" : Str)≠none\/fs.lookup ("ring_cells" : Str)≠none):H' a=some (.ins C d fs):=by
 obtain⟨C0,fs0,e0,k1,k2⟩:=u.FL;refine k _ _ e (λz=>?_) (t.ne e (λ_ z=>nomatch z));rw[z,e0] at e;cases e;rcases n with n | n
 ·exact n k1
 ·exact n k2
theorem cF.rC(u:cF K c o st H ru dx B)(t:eK tq H)(k:bO ru tq.1 H H'){CA l:Addr}{ps:List Addr}{qs:List Ak}(h:cW K CA H l ps qs):cW K CA H' l ps qs:=⟨u.lst t k h.l,h.n,λi p q e1 e2=>by
 obtain⟨m,b,d,z⟩:=h.t i p q e1 e2;exact⟨m,b,d,u.Pz t k z.o (.inl (by simp[fh,List.lookup_cons,fc])),u.tup t k z.ms,u.tup t k z.bh⟩⟩
theorem cF.Fw(u:cF K c o st H ru dx B)(t:eK tq H)(k:bO ru tq.1 H H'){C a:Addr}{P:Pl}{fp:List Addr}(e:bY K C H a P fp):bY K C H' a P fp:=by
 obtain⟨eu,a1,a2,a3,a4,ts,fs,e,g⟩:=e;exact⟨eu,a1,a2,a3,a4,ts,fs,e,{ g with o:=u.Pz t k g.o (.inr (by rw[g.f1];simp)),rc:=u.lst t k g.rc,sw:=u.lst t k g.sw,nc:=⟨u.lst t k g.nc.l,g.nc.n,λi t' r e1 e2=>u.tup t k (g.nc.t i t' r e1 e2)⟩,cn:=u.kp t k g.cn (λ_ _ _ z=>nomatch z) (λ_ z=>nomatch z)}⟩
theorem cF.other{o2:Rk}{eE:Lt}{r2 d2 B2:Addr}(h:cF K c o2 eE H r2 d2 B2)(u:cF K c o st H ru dx B)(t:eK tq H)(k:bO ru tq.1 H H')(ne:r2≠ru):cF K c o2 eE H' r2 d2 B2:=by
 have go:∀ {C:Addr} {fs:List (Str×V)},H r2=some (.ins C d2 fs)->H' r2=some (.ins C d2 fs):=λe=>k _ _ e ne (t.ne e (λ_ z=>nomatch z));cases o2 with
 | near=>exact go h
 | gP=>exact go h
 | gQ=>exact go h
 | li sw =>
  obtain⟨C,h1,h2,h3⟩:=h;obtain⟨kvs,a,lv⟩:=h3.d;exact⟨C,h1,h2,go h3.o,kvs,u.kp t k a (λ_ _ _ z=>nomatch z) (λ_ z=>nomatch z),lv⟩
theorem cF.tab{t2:Addr×Pos×Str}(u:cF K c o st H ru dx B)(t:eK tq H)(k:bO ru tq.1 H H')(h:eK t2 H)(ne:t2.1≠tq.1):eK t2 H':=by
 obtain⟨C0,fs0,e0,_⟩:=u.FL;obtain⟨ps,e,tr,w⟩:=h;refine⟨ps,k _ _ e (λz=>by rw[z,e0] at e;cases e) ne,tr,?_⟩
 rcases w with w | ⟨c',e1,e2⟩
 ·exact .inl w
 ·exact .inr ⟨c',e1,u.kp t k e2 (λ_ _ _ z=>nomatch z) (λ_ z=>nomatch z)⟩
end
theorem adz{m:Nat}(h:m<=2000000):m<16777216:=by lia
noncomputable def lB(qs:List Ak)(bs:List Int)(c:Int)(k:Nat):Bool:=match qs[k]?,bs[k]? with
 | some q,some b=>decide (q.at_<=c/\c<=b)
 | _,_=>false
theorem adA{qs:List Ak}{bs:List Int}{c:Int}{k:Nat}{q:Ak}{b:Int}(h1:qs[k]? = some q)(h2:bs[k]? = some b):lB qs bs c k=decide (q.at_<=c/\c<=b):=by
 unfold lB;rw[h1,h2]
theorem PB{q0:Ak}{rs:List Ak}{b0 c:Int}{bs:List Int}(up:rs.Pairwise λa b=>a.at_<b.at_)(bf:∀(i:Nat) (c:Int),bs[i]? = some c->c<b0/\((q0::rs)[i+1]?).map (·.at_)=some c)(m:Nat):(List.range m).countP (lB (q0::rs) (b0::bs) c)<=2:=by
 have key:∀i:Nat,1<=i->lB (q0::rs) (b0::bs) c i=true->∃q,rs[i - 1]? = some q/\q.at_=c:=λi hi e=>by
  obtain⟨j,rfl⟩:∃j,i=j+1:=⟨i - 1,by lia⟩
  unfold lB at e;rw[List.getElem?_cons_succ,List.getElem?_cons_succ] at e;cases e1:rs[j]? with
  | none=>rw[e1] at e;cases e
  | some q =>
   cases e2:bs[j]? with
   | none=>rw[e1,e2] at e;cases e
   | some b =>
    rw[e1,e2] at e;have e:=of_decide_eq_true e;have:=(bf j b e2).2;rw[List.getElem?_cons_succ,e1] at this;have this:q.at_=b:=Option.some.inj this;exact⟨q,e1,by lia⟩
 refine(Px (λi j hi hj ei ej=>?_) m).1;obtain⟨q,e1,a1⟩:=key i hi ei;obtain⟨q',e2,a2⟩:=key j hj ej;have u:=List.pairwise_iff_getElem.mp up;obtain⟨h1,rfl⟩:=List.getElem?_eq_some_iff.mp e1;obtain⟨h2,rfl⟩:=List.getElem?_eq_some_iff.mp e2;by_cases lt:i - 1<j - 1
 ·have:=u _ _ h1 h2 lt;lia
 ·by_cases gt:j - 1<i - 1
  ·have:=u _ _ h2 h1 gt;lia
  ·lia
theorem adB{qs:List Ak}{bs:List Int}{c:Int}{i:Nat}:(List.range (i+1)).filter (lB qs bs c)=(List.range i).filter (lB qs bs c)++if lB qs bs c i=true then [i] else []:=by
 rw[List.range_succ,List.filter_append];by_cases h:lB qs bs c i=true <;> simp[h]
structure R5 where
 o:Rk
 ru:Addr
 dx:Addr
 B:Addr
noncomputable def nQ(K:PySem.W.Frag)(c:RC)(H:Hp)(rs:List R5)(S:Nat->Prop):Prop:=∀(j:Nat) (r:R5),rs[j]? = some r->S j->cF K c r.o ⟨false,true,[]⟩ H r.ru r.dx r.B
structure lC(T:iu)(H:Hp):Prop where
 n:eK T.n H
 s:eK T.s H
 l:eK T.l H
section
variable{K:PySem.W.Frag}{c:RC}{H H':Hp}{rs:List R5}{S:Nat->Prop}{T:iu}
theorem nQ.same(h:nQ K c H rs S)(s:ah H H'):nQ K c H' rs S:=λj r e sj=>(h j r e sj).same s
theorem lC.same(h:lC T H)(s:ah H H'):lC T H':=⟨h.n.same s,h.s.same s,h.l.same s⟩
theorem lC.of(h:lC T H)(o:Rk):eK (T.of o) H:=by
 cases o with
 | near=>exact h.n
 | gP=>exact h.s
 | gQ=>exact h.l
 | li sw=>exact h.n
theorem nQ.step{j:Nat}{r:R5}{tq:Addr×Pos×Str}(h:nQ K c H rs S)(nd:(rs.map (·.ru)).Nodup)(e:rs[j]? = some r)(sj:S j)(t:eK tq H)(k:bO r.ru tq.1 H H'):nQ K c H' rs (λi=>S i/\i≠j):=λi r2 e2 si=>by
 refine(h i r2 e2 si.1).other (h j r e sj) t k λz=>si.2 ?_;have f1:(rs.map (·.ru))[i]? = some r2.ru:=by rw[List.getElem?_map,e2];rfl
 have f2:(rs.map (·.ru))[j]? = some r2.ru:=by rw[List.getElem?_map,e,z];rfl
 exact(List.getElem?_inj (i:=i) (j:=j) (by rw[List.length_map];exact(List.getElem?_eq_some_iff.mp e2).1) nd).mp (f1.trans f2.symm)
theorem lC.step{o:Rk}{st:Lt}{ru dx B:Addr}(h:lC T H)(ns:T.n.1≠T.s.1)(nl:T.n.1≠T.l.1)(sl:T.s.1≠T.l.1)(u:cF K c o st H ru dx B)(k:bO ru (T.of o).1 H H')(t:eK (T.of o) H'):lC T H':=by
 have t0:=h.of o;cases o with
 | near=>exact⟨t,u.tab t0 k h.s (Ne.symm ns),u.tab t0 k h.l (Ne.symm nl)⟩
 | gP=>exact⟨u.tab t0 k h.n ns,t,u.tab t0 k h.l (Ne.symm sl)⟩
 | gQ=>exact⟨u.tab t0 k h.n nl,u.tab t0 k h.s sl,t⟩
 | li sw=>exact⟨t,u.tab t0 k h.s (Ne.symm ns),u.tab t0 k h.l (Ne.symm nl)⟩
end
theorem adC{k:Int}(h0:0<=k)(h5:k<5):∃w,gq (iG.map V.str) k=some (.str w)/\w∈iG/\w∉Fo:=by
 have hi:k.toNat<iG.length:=by have:iG.length=5:=rfl;lia
 have all:∀w∈iG,w∉Fo:=by decide +kernel
 refine⟨iG[k.toNat],?_,List.getElem_mem hi,all _ (List.getElem_mem hi)⟩;have:=fG (xs:=iG.map V.str) (j:=k.toNat) (v:=.str iG[k.toNat]) (by rw[List.getElem?_map,List.getElem?_eq_getElem hi];rfl)
 rwa [show ((k.toNat:Nat):Int)=k by lia] at this
theorem pI.one{P:Pl}{a b:Int}(h:pI P a)(g:pI P b):a=b:=by
 have:=h.v.symm.trans g.v;cases this;rfl
theorem d8.btl{P:Pl}{n1:Int}{n:Nat}(h:d8 P n1 n):cD P<=1000000000:=by
 have b1:=h.b1;have:=Int.mul_le_mul_of_nonneg_right h.ca (show 0<=cD P by lia)
 rw[Int.one_mul,h.lp] at this;have:=h.l9;lia
theorem adD{P:Pl}{n:Nat}:∀q∈fL P n,q.kind = "read"/\q.behind = []:=λq hq=>by
 obtain⟨κ,_,rfl⟩:=List.mem_map.mp hq;exact⟨rfl,rfl⟩
end _L
namespace _W
open PySem _L PyProof.Rows
theorem sc1{i j:Int}:kO (.int i) (.int j)=true:=rfl
theorem sc2{i j:Str}:kO (.str i) (.str j)=true:=rfl
theorem sc3{i j:Bool}:kO (.bl i) (.bl j)=true:=rfl
theorem sc4: kO (.aN) (.aN)=true:=rfl
theorem sc5{i:Int}:kO (.aN) (.int i)=true:=rfl
theorem sc6{i:Int}:kO (.int i) (.aN)=true:=rfl
theorem sc7{i:Str}:kO (.aN) (.str i)=true:=rfl
theorem sc8{i:Str}:kO (.str i) (.aN)=true:=rfl
local macro_rules | `(tactic| wp_walk using $ts,*)=>do
 let a ← ("ab3 ab5 akb akz ab0 pq aka Nd akB akf OL akA akw akc Pb Y7 Pg aku akv abg fh akq akp ake NK MV akd akg YA abW aky Zv Zq Zp ZG ZD and_assoc XO HO.ins.injEq Ey fc gC String.reduceBEq List.lookup_cons List.lookup_nil aI HO.lst.injEq HO.dT.injEq HO.tup.injEq String.reduceEq false_and or_false false_or pe aab aaa Z7 Z5 Z6 akh aaf Bool.not_eq_true' decide_eq_false_iff_not Classical.not_not Yj if_false_left if_false_right aau Yb jc List.length_map List.getElem?_nil L8 wU mV Ma DE DF Yk LX tC wX mY rI Yt rU Mn tB Yi Yh aj9 Yg ML My qy Y3 Ye X4 X5 X6 X7 aj8 X8 YZ YY ZK xj ZO ZQ ZR ZS MS MT Yx Yy sc1 sc2 sc3 sc4 sc5 sc6 sc7 sc8 DO Yu Yv Mw YT Mz MA _L.start akm akn ako List.map_cons List.map_nil List.cons_append List.nil_append List.append_nil List.length_cons List.length_nil List.getElem?_cons_zero List.getElem?_cons_succ Option.some.injEq exists_eq_left exists_eq_left' exists_and_left exists_eq V.int.injEq V.ref.injEq V.bl.injEq V.ty.injEq V.str.injEq List.cons.injEq and_true true_and List.set_cons_zero List.set_cons_succ decide_eq_true_eq Nat.reduceSub Nat.reduceAdd List.replicate_succ List.replicate_zero List.replicate Int.reduceLT Int.reduceLE Int.reducePow Int.reduceToNat Int.reduceNeg Nat.reduceLT Nat.reduceLeDiff Nat.reducePow Int.reduceMul Int.reduceAdd Int.reduceSub and_self or_true true_or gt_iff_lt ge_iff_le if_true if_false Bool.false_eq_true reduceIte Nat.sub_self Nat.sub_zero".splitOn " ").toArray.mapM λx => `(Lean.Parser.Tactic.simpLemma| $(Lean.mkIdent x.toName):ident)
 let d:Array (Lean.TSyntax `term):=("T.jL T.lF T.n_ T.kB T.mG T.mJ T.SQ T.SW T.vP T.vQ T.vR T.vL T.IM T.IP T.IQ T.n8 T.IS T.vM T.vN T.IT T.BG T.rN T.BH T.BI T.BJ T.BK T.BL T.BN T.BO T.BP T.BQ T.BR T.mH T.BS T.BU T.IU T.IV T.BV T.vO T.BW T.IW T.BX T.IX T.IY T.IZ".splitOn " ").toArray.map λx=>⟨Lean.mkIdent x.toName⟩
 let b ← (ts.getElems.flatMap λt=>if t.raw.getId == `T then d else #[t]).mapM λt => `(Lean.Parser.Tactic.simpLemma| $t:term)
 let c:=a++b
 `(tactic| simp (maxSteps:=4000000) only[$c,*])
local macro_rules | `(tactic| walk_at "rdm") => `(tactic| wp_walk using and_self)
seal gz PS PE PT PW PA PG qo PI PK PC PO qE
noncomputable def top(i:Nat):Stmt:=PySem.Challenge.pw_armswing_k54_whole_kept_waiting.main.body.getD i (.Pass ⟨0,0,0,0⟩)
noncomputable abbrev FN:Stmt:=inClass (top 15) 0
noncomputable abbrev FO:Stmt:=top 16
noncomputable abbrev FP:Stmt:=top 17
noncomputable abbrev FQ:Stmt:=top 18
noncomputable abbrev FT:Stmt:=top 19
noncomputable abbrev iI:Stmt:=top 20
noncomputable abbrev FU:Stmt:=top 21
noncomputable abbrev FW:Stmt:=top 23
noncomputable abbrev FY:Stmt:=top 24
noncomputable abbrev FZ:Stmt:=top 26
noncomputable abbrev F_:Stmt:=top 27
noncomputable abbrev dP:Stmt:=top 28
noncomputable abbrev Ga:Stmt:=top 29
noncomputable abbrev eT:Stmt:=top 30
noncomputable abbrev eU:Stmt:=top 31
noncomputable abbrev Gb:Stmt:=inClass (top 32) 1
noncomputable abbrev Gd:Stmt:=inClass (top 33) 0
noncomputable abbrev Ge:Stmt:=inClass (top 34) 0
noncomputable abbrev Gf:Stmt:=inClass (top 35) 0
noncomputable abbrev Gg:Stmt:=top 40
noncomputable abbrev Gh:Stmt:=top 43
noncomputable abbrev Gi:Stmt:=top 44
noncomputable abbrev Gj:Stmt:=top 46
noncomputable abbrev Gk:Stmt:=top 47
noncomputable abbrev jI:Stmt:=inClass (top 48) 0
noncomputable abbrev Gm:Stmt:=inClass (top 48) 1
noncomputable abbrev Gn:Stmt:=inClass (top 48) 2
noncomputable abbrev Gp:Stmt:=inClass (top 48) 3
noncomputable abbrev Gq:Stmt:=inClass (top 48) 4
noncomputable abbrev Gr:Stmt:=inClass (top 49) 0
noncomputable abbrev Gs:Stmt:=top 57
noncomputable abbrev Gu:Stmt:=top 58
noncomputable abbrev Gv:Stmt:=top 59
noncomputable abbrev Gw:Stmt:=top 60
noncomputable abbrev Gx:Stmt:=top 61
noncomputable abbrev Gy:Stmt:=top 62
noncomputable abbrev Gz:Stmt:=top 63
noncomputable abbrev GA:Stmt:=inClass (top 64) 0
noncomputable abbrev GB:Stmt:=inClass (top 64) 1
noncomputable abbrev GC:Stmt:=inClass (top 64) 3
noncomputable abbrev GD:Stmt:=inClass (top 64) 4
noncomputable abbrev GF:Stmt:=inClass (top 64) 5
noncomputable abbrev GG:Stmt:=inClass (top 64) 6
noncomputable abbrev GH:Stmt:=inClass (top 64) 7
noncomputable abbrev GI:Stmt:=inClass (top 64) 8
noncomputable abbrev GJ:Stmt:=inClass (top 64) 9
noncomputable abbrev GK:Stmt:=inClass (top 64) 10
noncomputable abbrev GL:Stmt:=top 66
noncomputable abbrev GN:Stmt:=top 67
noncomputable abbrev GO:Stmt:=inClass (top 68) 0
noncomputable abbrev GP:Stmt:=top 69
noncomputable abbrev GQ:Stmt:=top 70
noncomputable abbrev GR:Stmt:=top 71
noncomputable abbrev GS:Stmt:=top 72
noncomputable abbrev GU:Stmt:=inClass (top 74) 0
noncomputable abbrev GV:Stmt:=inClass (top 74) 1
noncomputable abbrev GW:Stmt:=inClass (top 74) 2
noncomputable abbrev GX:Stmt:=inClass (top 74) 3
noncomputable abbrev GY:Stmt:=inClass (top 74) 4
noncomputable abbrev GZ:Stmt:=inClass (top 76) 0
noncomputable abbrev G0:Stmt:=top 77
noncomputable abbrev G6:Stmt:=top 78
noncomputable abbrev G7:Stmt:=top 79
noncomputable abbrev G8:Stmt:=top 80
noncomputable abbrev jJ:Stmt:=top 81
noncomputable abbrev G9:Stmt:=top 83
noncomputable abbrev G_:Stmt:=top 84
noncomputable abbrev Hf:Stmt:=top 85
noncomputable abbrev Hg:Stmt:=top 86
noncomputable abbrev Hh:Stmt:=top 87
noncomputable abbrev Hi:Stmt:=top 88
noncomputable abbrev Hj:Stmt:=top 89
noncomputable abbrev Hl:Stmt:=top 90
noncomputable abbrev Ho:Stmt:=top 91
noncomputable abbrev jK:Stmt:=top 92
theorem adE:bw ["self", "kind", "first", "many", "marks", "at", "asker", "latest", "behind", "early"] ["self", "kind", "first", "many", "marks", "at", "asker", "latest", "behind", "early"] (aP FN):=bA
theorem adF:bw ["number", "least", "greatest", "words"] ["number", "least", "greatest", "words"] (aP FO):=bA
theorem yO:bw ["behind", "ahead", "number"] ["behind"] (aP FP):=bA
theorem adG:bw ["first", "many", "at", "asker", "latest", "behind"] ["first", "many", "at", "asker", "latest", "behind"] (aP FQ):=bA
theorem adH:bw ["behind"] ["behind"] (aP FT):=bA
theorem PD:bw ["first", "many", "at", "asker", "latest", "behind", "others"] ["first", "many", "at", "asker", "latest", "behind"] (aP iI):=bA
theorem adI:bw ["one", "other"] ["one", "other"] (aP FU):=bA
theorem adJ:bw ["plate", "ring", "place", "beat"] ["plate", "ring", "place", "beat"] (aP FW):=bA
theorem pJ:bw ["plate", "ring", "beat", "cells", "rows", "other", "place", "begun"] ["plate", "ring", "beat", "cells"] (aP FY):=bA
theorem adK:bw ["due"] ["due"] (aP FZ):=bA
theorem adL:bw ["dues"] ["dues"] (aP F_):=bA
theorem adM:bw ["ring", "dues"] ["ring", "dues"] (aP dP):=bA
theorem adN:bw ["plate", "ring", "beat", "due"] ["plate", "ring", "beat", "due"] (aP Ga):=bA
theorem adO:bw ["plate", "ring", "beat", "dues"] ["plate", "ring", "beat", "dues"] (aP eT):=bA
theorem PF:bw ["dues", "bound"] ["dues"] (aP eU):=bA
theorem adP:bw ["self"] ["self"] (aP Gb):=bA
theorem adQ:bw ["self", "plate", "ring", "beat", "dues"] ["self", "plate", "ring", "beat", "dues"] (aP Gd):=bA
theorem adR:bw ["self", "plate", "ring", "beat", "dues"] ["self", "plate", "ring", "beat", "dues"] (aP Ge):=bA
theorem adS:bw ["self", "plate", "ring", "beat", "dues"] ["self", "plate", "ring", "beat", "dues"] (aP Gf):=bA
theorem adT:bw ["plate"] ["plate"] (aP Gg):=bA
theorem uM:bw ["plate", "cells", "reads", "place", "at"] ["plate"] (aP Gh):=bA
theorem adU:bw ["plate", "word", "most", "bound"] ["plate", "word", "most"] (aP Gi):=bA
theorem adV:bw ["inward", "ring", "dues"] ["inward", "ring", "dues"] (aP Gj):=bA
theorem Hq:bw ["dues", "batch", "due"] ["dues"] (aP Gk):=bA
theorem adW:bw ["self", "calm"] ["self", "calm"] (aP jI):=bA
theorem adX:bw ["self"] ["self"] (aP Gm):=bA
theorem adY:bw ["self", "plate", "ring", "beat", "dues"] ["self", "plate", "ring", "beat", "dues"] (aP Gn):=bA
theorem adZ:bw ["self", "dues"] ["self", "dues"] (aP Gp):=bA
theorem ad0:bw ["self", "ring", "dues"] ["self", "ring", "dues"] (aP Gq):=bA
theorem PJ:bw ["self", "ring", "dues", "ahead"] ["self", "ring", "dues"] (aP Gr):=bA
theorem yP:bw ["zones", "rings", "cells", "in_all"] ["zones"] (aP Gs):=bA
theorem Hr:bw ["zones", "lap", "skew", "rings", "cells"] ["zones", "lap", "skew"] (aP Gu):=bA
theorem PL:bw ["swing", "rings", "far"] ["swing", "rings"] (aP Gv):=bA
theorem Hs:bw ["swing", "far", "part"] ["swing"] (aP Gw):=bA
theorem yQ:bw ["zones", "counts", "rings", "cells"] ["zones"] (aP Gx):=bA
theorem uN:bw ["ring_cells", "spares", "cells", "ring", "count", "place"] ["ring_cells", "spares"] (aP Gy):=bA
theorem yR:bw ["number_cells", "numbers", "number", "cell"] ["number_cells"] (aP Gz):=bA
theorem ad1:bw ["self", "zones", "lap", "skew", "swing"] ["self", "zones", "lap", "skew", "swing"] (aP GA):=bA
theorem ad2:bw ["self"] ["self"] (aP GB):=bA
theorem ad3:bw ["self", "ring"] ["self", "ring"] (aP GC):=bA
theorem ad4:bw ["self", "ring"] ["self", "ring"] (aP GD):=bA
theorem ad5:bw ["self"] ["self"] (aP GF):=bA
theorem ad6:bw ["self", "ring", "place"] ["self", "ring", "place"] (aP GG):=bA
theorem ad7:bw ["self", "ring", "other"] ["self", "ring", "other"] (aP GH):=bA
theorem ad8:bw ["self", "ring", "place"] ["self", "ring", "place"] (aP GI):=bA
theorem ad9:bw ["self", "number"] ["self", "number"] (aP GJ):=bA
theorem ad_:bw ["self", "ring", "place"] ["self", "ring", "place"] (aP GK):=bA
theorem aea:bw ["plate", "ask"] ["plate", "ask"] (aP GL):=bA
theorem aeb:bw ["plate", "number", "ask", "e"] ["plate", "number", "ask"] (aP GN):=bA
theorem aec:bw ["self", "plate", "number", "ask"] ["self", "plate", "number", "ask"] (aP GO):=bA
theorem aed:bw ["asks", "number"] ["asks", "number"] (aP GP):=bA
theorem PM:bw ["asks", "number", "other"] ["asks", "number"] (aP GQ):=bA
theorem PN:bw ["asks", "number", "ask"] ["asks", "number"] (aP GR):=bA
theorem yS:bw ["plate", "asks", "kept", "number", "ask"] ["plate", "asks"] (aP GS):=bA
theorem Ht:bw ["self", "plate", "asks", "ring", "number", "ask"] ["self", "plate", "asks", "ring"] (aP GU):=bA
theorem PR:bw ["self", "comings"] ["self"] (aP GV):=bA
theorem aee:bw ["self", "number"] ["self", "number"] (aP GW):=bA
theorem PU:bw ["self", "come"] ["self"] (aP GX):=bA
theorem Hu:bw ["self", "number", "due", "rows"] ["self", "number"] (aP GY):=bA
theorem aef:bw ["self", "rows", "taken", "told", "answers", "end"] ["self", "rows", "taken", "told", "answers", "end"] (aP GZ):=bA
theorem pK:bw ["rows", "ends", "number", "ring", "place", "begun", "ended"] ["rows"] (aP G0):=bA
theorem aeg:bw ["ask"] ["ask"] (aP G6):=bA
theorem uO:bw ["asks", "picks", "answers", "marks", "number", "ask"] ["asks", "picks"] (aP G7):=bA
theorem rD:bw ["asks", "ends", "shelf", "told", "early_ends", "shelf_ends", "number", "ask"] ["asks", "ends", "shelf"] (aP G8):=bA
theorem mC:bw ["plate", "asks", "rule", "ring", "shelf", "course", "rows", "picks", "taken", "dues", "number", "ends", "end"] ["plate", "asks", "rule", "ring", "shelf"] (aP jJ):=bA
theorem aeh:bw ["_law_script", "_law_k"] ["_law_script", "_law_k"] (aP G9):=bA
theorem aei:bw ["_law_cell_here", "_law_turn", "_law_many"] ["_law_cell_here", "_law_turn", "_law_many"] (aP G_):=bA
theorem uP:bw ["_law_cell_here", "_law_rings", "_law_step", "_law_swing_here", "_law_k"] ["_law_cell_here", "_law_rings"] (aP Hf):=bA
theorem yT:bw ["_law_cell_here", "_law_zones_here", "_law_k"] ["_law_cell_here"] (aP Hg):=bA
theorem jm:bw ["_law_script", "_law_zones_here", "_law_cell_here", "_law_product", "_law_counts", "_law_many", "_law_cells", "_law_lap", "_law_skew", "_law_swing_here"] ["_law_script"] (aP Hh):=bA
theorem Hv:bw ["_law_ask", "_law_later", "_law_latest"] ["_law_ask", "_law_later"] (aP Hi):=bA
theorem aej:bw ["_law_asks", "_law_least", "_law_most"] ["_law_asks", "_law_least", "_law_most"] (aP Hj):=bA
theorem aek:bw ["_law_found"] ["_law_found"] (aP Hl):=bA
theorem pL:bw ["_law_plate", "_law_rule", "_law_found", "_law_times", "_law_most", "_law_asks", "_law_turn", "_law_ask", "_law_k", "_law_taken", "_law_beat"] ["_law_plate", "_law_rule", "_law_found", "_law_times", "_law_most"] (aP Ho):=bA
theorem lD:bw ["_law_script", "_law_plate", "_law_most", "_law_words", "_law_rules", "_law_turn", "_law_k", "_law_found", "_law_times"] ["_law_script"] (aP jK):=bA
set_option genInjectivity false
set_option genSizeOf false
structure fu where
 yU:Addr
 yV:FuncData
 yW:Addr
 yX:FuncData
 yY:Addr
 yZ:FuncData
 y_:Addr
 zb:FuncData
 zc:Addr
 zd:FuncData
 ze:Addr
 rE:FuncData
 zf:Tok
 zg:Addr
 zh:FuncData
 zj:Addr
 zm:FuncData
 zo:Addr
 zq:FuncData
 zu:Addr
 zw:FuncData
 zx:Addr
 zy:FuncData
 uQ:Addr
 rF:FuncData
 zz:Addr
 zA:FuncData
 uR:Addr
 rG:FuncData
 uS:Addr
 rH:FuncData
 nU:Addr
 zB:FuncData
 uT:Addr
 zC:FuncData
 uU:Addr
 zD:FuncData
 uW:Addr
 zE:FuncData
 zF:Addr
 zG:FuncData
 zH:Addr
 zI:FuncData
 zJ:Addr
 zK:FuncData
 zL:Addr
 zM:FuncData
 zN:Addr
 zO:FuncData
 uX:Addr
 zP:FuncData
 rJ:Addr
 zQ:FuncData
 rK:Addr
 zR:FuncData
 rL:Addr
 zS:FuncData
 uY:Addr
 zT:FuncData
 uZ:Addr
 zU:FuncData
 zW:Addr
 zX:FuncData
 zY:Addr
 zZ:FuncData
 z6:Addr
 z7:FuncData
 z8:Addr
 z9:FuncData
 z_:Addr
 Aa:FuncData
 Ab:Addr
 Ac:FuncData
 Ad:Addr
 Ae:FuncData
 Af:Addr
 Ag:FuncData
 u7:Addr
 Ah:FuncData
 u_:Addr
 Ai:FuncData
 vc:Addr
 Aj:FuncData
 vd:Addr
 Al:FuncData
 ve:Addr
 Am:FuncData
 vf:Addr
 An:FuncData
 vg:Addr
 Ao:FuncData
 vh:Addr
 Aq:FuncData
 vj:Addr
 As:FuncData
 Au:Addr
 Av:FuncData
 Aw:Addr
 Ax:FuncData
 Ay:Addr
 Az:FuncData
 AA:Addr
 AB:FuncData
 AD:Addr
 AE:FuncData
 AF:Addr
 AG:FuncData
 AH:Addr
 AI:FuncData
 AJ:Addr
 AK:FuncData
 AL:Addr
 AM:FuncData
 AN:Addr
 AO:FuncData
 AQ:Addr
 AR:FuncData
 AS:Addr
 AU:FuncData
 AV:Addr
 AW:FuncData
 AX:Addr
 AY:FuncData
 AZ:Addr
 A0:FuncData
 A1:Addr
 A2:FuncData
 A3:Addr
 A4:FuncData
 A5:Addr
 A6:FuncData
 Hw:Tok
 Hx:Tok
 A7:Addr
 A8:FuncData
 A9:Addr
 A_:FuncData
 Ba:Addr
 Bb:FuncData
 Bc:Addr
 Be:FuncData
 Bf:Addr
 Bg:FuncData
 Bh:Addr
 Bj:FuncData
 Bk:Addr
 Bl:FuncData
 Bm:Addr
 Bo:FuncData
 Bp:Addr
 Bq:FuncData
 Br:Addr
 Bs:FuncData
 aX:Addr
 bL:Addr
 bQ:Addr
 bx:Addr
 bG:Addr
 bJ:Addr
 dQ:Addr
 gR:Addr
 cT:Addr
 cU:Addr
 cV:Addr
 aY:Addr
 aQ:Addr
 aZ:Addr
 aU:Addr
 a_:Addr
 aV:Addr
 nX:Addr
 nY:Addr
 vm:Tok
 vn:Tok
 vo:Tok
 vp:Tok
 vq:Tok
 vt:Tok
 vv:Tok
 vA:Tok
 vB:Tok
 vC:Tok
 vD:Tok
 vE:Tok
 vF:Tok
structure Tx(K:W.Frag)(mg:Str->Option Value)(A:fu):Prop where
 PV:aJ K "__init__" "Ask.__init__" FN A.yU A.yV
 PX:Binds K A.yV ["self", "kind", "first", "many", "marks", "at", "asker", "latest", "behind", "early"] []
 nZ:aJ K "check_between" "check_between" FO A.yW A.yX
 pM:Binds K A.yX ["number", "least", "greatest", "words"] []
 pN:mg "check_between" = some (.ref A.yW)
 Hy:aJ K "check_behind" "check_behind" FP A.yY A.yZ
 PY:Binds K A.yZ ["behind"] []
 PZ:mg "check_behind" = some (.ref A.yY)
 Hz:aJ K "check_fields" "check_fields" FQ A.y_ A.zb
 P0:Binds K A.zb ["first", "many", "at", "asker", "latest", "behind"] []
 P1:mg "check_fields" = some (.ref A.y_)
 HA:aJ K "told_behind" "told_behind" FT A.zc A.zd
 P4:Binds K A.zd ["behind"] []
 P5:mg "told_behind" = some (.ref A.zc)
 vG:qK K "reading" "reading" iI A.ze A.rE
 P6:Binds K A.rE ["first", "many", "at", "asker", "latest", "behind"] [.int 0 A.zf,.none,.none]
 P7:Binds K A.rE ["first", "many", "at", "asker", "latest", "behind"] [.none]
 Bu:mg "reading" = some (.ref A.ze)
 HB:aJ K "clash" "clash" FU A.zg A.zh
 P8:Binds K A.zh ["one", "other"] []
 P9:mg "clash" = some (.ref A.zg)
 HC:aJ K "next_begin" "next_begin" FW A.zj A.zm
 P_:Binds K A.zm ["plate", "ring", "place", "beat"] []
 Qa:mg "next_begin" = some (.ref A.zj)
 Bv:aJ K "way" "way" FY A.zo A.zq
 HD:Binds K A.zq ["plate", "ring", "beat", "cells"] []
 HE:mg "way" = some (.ref A.zo)
 vH:aJ K "ring_of" "ring_of" FZ A.zu A.zw
 Bw:Binds K A.zw ["due"] []
 Bx:mg "ring_of" = some (.ref A.zu)
 HF:aJ K "first_of" "first_of" F_ A.zx A.zy
 Qc:Binds K A.zy ["dues"] []
 Qd:mg "first_of" = some (.ref A.zx)
 rM:aJ K "nearest_of" "nearest_of" dP A.uQ A.rF
 vI:Binds K A.rF ["ring", "dues"] []
 vJ:mg "nearest_of" = some (.ref A.uQ)
 HG:aJ K "first_begin" "first_begin" Ga A.zz A.zA
 Qe:Binds K A.zA ["plate", "ring", "beat", "due"] []
 Qf:mg "first_begin" = some (.ref A.zz)
 HJ:aJ K "soonest_of" "soonest_of" eT A.uR A.rG
 Qg:Binds K A.rG ["plate", "ring", "beat", "dues"] []
 Qh:mg "soonest_of" = some (.ref A.uR)
 HK:aJ K "latest_of" "latest_of" eU A.uS A.rH
 Qi:Binds K A.rH ["dues"] []
 Qj:mg "latest_of" = some (.ref A.uS)
 Qk:aJ K "anew" "Rule.anew" Gb A.nU A.zB
 By:Binds K A.zB ["self"] []
 Ql:Meth K A.gR "anew" A.nU
 HL:Meth K A.cT "anew" A.nU
 HM:Meth K A.cU "anew" A.nU
 HN:Meth K A.cV "anew" A.nU
 Qm:aJ K "pick" "Nearest.pick" Gd A.uT A.zC
 Qn:Binds K A.zC ["self", "plate", "ring", "beat", "dues"] []
 HP:Meth K A.cT "pick" A.uT
 Qo:aJ K "pick" "Soonest.pick" Ge A.uU A.zD
 Qp:Binds K A.zD ["self", "plate", "ring", "beat", "dues"] []
 HQ:Meth K A.cU "pick" A.uU
 Qq:aJ K "pick" "Latest.pick" Gf A.uW A.zE
 Qs:Binds K A.zE ["self", "plate", "ring", "beat", "dues"] []
 HR:Meth K A.cV "pick" A.uW
 HS:aJ K "read_of_next_ring" "read_of_next_ring" Gg A.zF A.zG
 Qt:Binds K A.zG ["plate"] []
 Qu:mg "read_of_next_ring" = some (.ref A.zF)
 HU:aJ K "round_of_ring_0" "round_of_ring_0" Gh A.zH A.zI
 Qv:Binds K A.zI ["plate"] []
 Qw:mg "round_of_ring_0" = some (.ref A.zH)
 HV:aJ K "settled" "settled" Gi A.zJ A.zK
 Qx:Binds K A.zK ["plate", "word", "most"] []
 Qy:mg "settled" = some (.ref A.zJ)
 vK:aJ K "that_way" "that_way" Gj A.zL A.zM
 BA:Binds K A.zM ["inward", "ring", "dues"] []
 BB:mg "that_way" = some (.ref A.zL)
 HW:aJ K "batch_of" "batch_of" Gk A.zN A.zO
 Qz:Binds K A.zO ["dues"] []
 QA:mg "batch_of" = some (.ref A.zN)
 QB:qK K "__init__" "Lift.__init__" jI A.uX A.zP
 HX:Binds K A.zP ["self", "calm"] [.bool false]
 QC:aJ K "anew" "Lift.anew" Gm A.rJ A.zQ
 BC:Binds K A.zQ ["self"] []
 HY:Meth K A.bL "anew" A.rJ
 HZ:Meth K A.bQ "anew" A.rJ
 QD:aJ K "pick" "Lift.pick" Gn A.rK A.zR
 H_:Binds K A.zR ["self", "plate", "ring", "beat", "dues"] []
 Ia:Meth K A.bL "pick" A.rK
 Ib:Meth K A.bQ "pick" A.rK
 QE:aJ K "looked_at" "Lift.looked_at" Gp A.rL A.zS
 QF:Binds K A.zS ["self", "dues"] []
 QG:Meth K A.bL "looked_at" A.rL
 QH:Meth K A.bQ "looked_at" A.rL
 QI:aJ K "choose" "Lift.choose" Gq A.uY A.zT
 QJ:Binds K A.zT ["self", "ring", "dues"] []
 QK:Meth K A.bL "choose" A.uY
 QL:aJ K "choose" "Sweep.choose" Gr A.uZ A.zU
 QM:Binds K A.zU ["self", "ring", "dues"] []
 QN:Meth K A.bQ "choose" A.uZ
 Ic:aJ K "check_zones" "check_zones" Gs A.zW A.zX
 QO:Binds K A.zX ["zones"] []
 QS:mg "check_zones" = some (.ref A.zW)
 Ie:aJ K "check_turning" "check_turning" Gu A.zY A.zZ
 QT:Binds K A.zZ ["zones", "lap", "skew"] []
 QU:mg "check_turning" = some (.ref A.zY)
 Ig:aJ K "check_swing" "check_swing" Gv A.z6 A.z7
 QV:Binds K A.z7 ["swing", "rings"] []
 QW:mg "check_swing" = some (.ref A.z6)
 Ih:aJ K "check_no_detour" "check_no_detour" Gw A.z8 A.z9
 QX:Binds K A.z9 ["swing"] []
 QY:mg "check_no_detour" = some (.ref A.z8)
 Ii:aJ K "cells_by_ring" "cells_by_ring" Gx A.z_ A.Aa
 QZ:Binds K A.Aa ["zones"] []
 Q0:mg "cells_by_ring" = some (.ref A.z_)
 Ij:aJ K "cells_by_number" "cells_by_number" Gy A.Ab A.Ac
 Q3:Binds K A.Ac ["ring_cells", "spares"] []
 Q4:mg "cells_by_number" = some (.ref A.Ab)
 Ik:aJ K "numbers_by_cell" "numbers_by_cell" Gz A.Ad A.Ae
 Q5:Binds K A.Ae ["number_cells"] []
 Q6:mg "numbers_by_cell" = some (.ref A.Ad)
 Q7:aJ K "__init__" "Plate.__init__" GA A.Af A.Ag
 Q8:Binds K A.Ag ["self", "zones", "lap", "skew", "swing"] []
 Q9:aJ K "rings" "Plate.rings" GB A.u7 A.Ah
 ael:Binds K A.Ah ["self"] []
 Q_:Meth K A.bx "rings" A.u7
 Ra:aJ K "cells_of" "Plate.cells_of" GC A.u_ A.Ai
 Rb:Binds K A.Ai ["self", "ring"] []
 Rc:Meth K A.bx "cells_of" A.u_
 Rf:aJ K "beats_of" "Plate.beats_of" GD A.vc A.Aj
 BD:Binds K A.Aj ["self", "ring"] []
 Rg:Meth K A.bx "beats_of" A.vc
 Rh:aJ K "lap_beats" "Plate.lap_beats" GF A.vd A.Al
 Il:Binds K A.Al ["self"] []
 Ri:Meth K A.bx "lap_beats" A.vd
 Rj:aJ K "begins" "Plate.begins" GG A.ve A.Am
 Rl:Binds K A.Am ["self", "ring", "place"] []
 Rm:Meth K A.bx "begins" A.ve
 Rn:aJ K "swing_of" "Plate.swing_of" GH A.vf A.An
 Ro:Binds K A.An ["self", "ring", "other"] []
 Rp:Meth K A.bx "swing_of" A.vf
 Rq:aJ K "has_cell" "Plate.has_cell" GI A.vg A.Ao
 Rr:Binds K A.Ao ["self", "ring", "place"] []
 Rt:Meth K A.bx "has_cell" A.vg
 Ru:aJ K "cell_at" "Plate.cell_at" GJ A.vh A.Aq
 Rv:Binds K A.Aq ["self", "number"] []
 Rw:Meth K A.bx "cell_at" A.vh
 Rx:aJ K "number_of" "Plate.number_of" GK A.vj A.As
 Ry:Binds K A.As ["self", "ring", "place"] []
 Rz:Meth K A.bx "number_of" A.vj
 Im:aJ K "stretch" "stretch" GL A.Au A.Av
 RA:Binds K A.Av ["plate", "ask"] []
 RB:mg "stretch" = some (.ref A.Au)
 BE:aJ K "stretch_by_number" "stretch_by_number" GN A.Aw A.Ax
 Io:Binds K A.Ax ["plate", "number", "ask"] []
 Ip:mg "stretch_by_number" = some (.ref A.Aw)
 RD:aJ K "__init__" "Due.__init__" GO A.Ay A.Az
 RE:Binds K A.Az ["self", "plate", "number", "ask"] []
 Iq:aJ K "check_beat" "check_beat" GP A.AA A.AB
 RG:Binds K A.AB ["asks", "number"] []
 RH:mg "check_beat" = some (.ref A.AA)
 Ir:aJ K "check_told" "check_told" GQ A.AD A.AE
 RI:Binds K A.AE ["asks", "number"] []
 RJ:mg "check_told" = some (.ref A.AD)
 Iu:aJ K "kept_behind" "kept_behind" GR A.AF A.AG
 RK:Binds K A.AG ["asks", "number"] []
 RL:mg "kept_behind" = some (.ref A.AF)
 Iv:aJ K "orders" "orders" GS A.AH A.AI
 RM:Binds K A.AI ["plate", "asks"] []
 RN:mg "orders" = some (.ref A.AH)
 RO:aJ K "__init__" "Course.__init__" GU A.AJ A.AK
 RP:Binds K A.AK ["self", "plate", "asks", "ring"] []
 RQ:aJ K "stay" "Course.stay" GV A.AL A.AM
 RS:Binds K A.AM ["self"] []
 RT:Meth K A.bJ "stay" A.AL
 RU:aJ K "has_to_wait" "Course.has_to_wait" GW A.AN A.AO
 RV:Binds K A.AO ["self", "number"] []
 RW:Meth K A.bJ "has_to_wait" A.AN
 RX:aJ K "ready" "Course.ready" GX A.AQ A.AR
 RY:Binds K A.AR ["self"] []
 RZ:Meth K A.bJ "ready" A.AQ
 R0:aJ K "take" "Course.take" GY A.AS A.AU
 R1:Binds K A.AU ["self", "number"] []
 R3:Meth K A.bJ "take" A.AS
 R4:aJ K "__init__" "Played.__init__" GZ A.AV A.AW
 R6:Binds K A.AW ["self", "rows", "taken", "told", "answers", "end"] []
 Iw:aJ K "last_ends" "last_ends" G0 A.AX A.AY
 R7:Binds K A.AY ["rows"] []
 R8:mg "last_ends" = some (.ref A.AX)
 Iz:aJ K "numbers_of" "numbers_of" G6 A.AZ A.A0
 R9:Binds K A.A0 ["ask"] []
 R_:mg "numbers_of" = some (.ref A.AZ)
 IA:aJ K "answers_of" "answers_of" G7 A.A1 A.A2
 Sa:Binds K A.A2 ["asks", "picks"] []
 Sd:mg "answers_of" = some (.ref A.A1)
 IB:aJ K "told_of" "told_of" G8 A.A3 A.A4
 Se:Binds K A.A4 ["asks", "ends", "shelf"] []
 Sf:mg "told_of" = some (.ref A.A3)
 IC:qK K "play" "play" jJ A.A5 A.A6
 Sg:Binds K A.A6 ["plate", "asks", "rule", "ring", "shelf"] [.int 0 A.Hw,.int 0 A.Hx]
 Sh:mg "play" = some (.ref A.A5)
 lE:aJ K "_law_cell" "_law_cell" G9 A.A7 A.A8
 mD:Binds K A.A8 ["_law_script", "_law_k"] []
 mF:mg "_law_cell" = some (.ref A.A7)
 fY:aJ K "_law_draw" "_law_draw" G_ A.A9 A.A_
 gi:Binds K A.A_ ["_law_cell_here", "_law_turn", "_law_many"] []
 gj:mg "_law_draw" = some (.ref A.A9)
 ID:aJ K "_law_swing" "_law_swing" Hf A.Ba A.Bb
 Si:Binds K A.Bb ["_law_cell_here", "_law_rings"] []
 Sj:mg "_law_swing" = some (.ref A.Ba)
 IE:aJ K "_law_zones" "_law_zones" Hg A.Bc A.Be
 Sk:Binds K A.Be ["_law_cell_here"] []
 Sl:mg "_law_zones" = some (.ref A.Bc)
 IF:aJ K "_law_made_plate" "_law_made_plate" Hh A.Bf A.Bg
 Sm:Binds K A.Bg ["_law_script"] []
 So:mg "_law_made_plate" = some (.ref A.Bf)
 IG:aJ K "_law_again" "_law_again" Hi A.Bh A.Bj
 Sq:Binds K A.Bj ["_law_ask", "_law_later"] []
 Ss:mg "_law_again" = some (.ref A.Bh)
 BF:aJ K "_law_reads" "_law_reads" Hj A.Bk A.Bl
 II:Binds K A.Bl ["_law_asks", "_law_least", "_law_most"] []
 IJ:mg "_law_reads" = some (.ref A.Bk)
 IK:aJ K "_law_right" "_law_right" Hl A.Bm A.Bo
 Su:Binds K A.Bo ["_law_found"] []
 Sv:mg "_law_right" = some (.ref A.Bm)
 IL:aJ K "_law_kept" "_law_kept" Ho A.Bp A.Bq
 Sw:Binds K A.Bq ["_law_plate", "_law_rule", "_law_found", "_law_times", "_law_most"] []
 Sx:mg "_law_kept" = some (.ref A.Bp)
 Sy:aJ K "law" "law" jK A.Br A.Bs
 aem:Binds K A.Bs ["_law_script"] []
 aen:mg "law" = some (.ref A.Br)
 jL:bZ K A.aX
 Sz:Mk K A.aX A.yU
 SA:mg "Ask" = some (.ref A.aX)
 vL:bU K A.aX "kind"
 IM:bU K A.aX "first"
 IP:bU K A.aX "many"
 IQ:bU K A.aX "marks"
 n8:bU K A.aX "at"
 IS:bU K A.aX "asker"
 vM:bU K A.aX "latest"
 vN:bU K A.aX "behind"
 IT:bU K A.aX "early"
 lF:bZ K A.bL
 SD:Mk K A.bL A.uX
 SE:mg "Lift" = some (.ref A.bL)
 BG:bU K A.bL "calm"
 rN:bU K A.bL "inward"
 BH:bU K A.bL "batch"
 n_:bZ K A.bQ
 SG:Mk K A.bQ A.uX
 SH:mg "Sweep" = some (.ref A.bQ)
 BI:bU K A.bQ "calm"
 BJ:bU K A.bQ "inward"
 BK:bU K A.bQ "batch"
 kB:bZ K A.bx
 SI:Mk K A.bx A.Af
 SJ:mg "Plate" = some (.ref A.bx)
 BL:bU K A.bx "ring_cells"
 BN:bU K A.bx "lap"
 BO:bU K A.bx "skew"
 BP:bU K A.bx "swing"
 BQ:bU K A.bx "number_cells"
 BR:bU K A.bx "cell_numbers"
 mG:bZ K A.bG
 SK:Mk K A.bG A.Ay
 SM:mg "Due" = some (.ref A.bG)
 mH:bU K A.bG "number"
 BS:bU K A.bG "ask"
 BU:bU K A.bG "cells"
 mJ:bZ K A.bJ
 SN:Mk K A.bJ A.AJ
 SO:mg "Course" = some (.ref A.bJ)
 IU:bU K A.bJ "keeping"
 IV:bU K A.bJ "plate"
 BV:bU K A.bJ "ring"
 vO:bU K A.bJ "beat"
 BW:bU K A.bJ "left"
 SQ:bZ K A.dQ
 SR:Mk K A.dQ A.AV
 SV:mg "Played" = some (.ref A.dQ)
 IW:bU K A.dQ "rows"
 BX:bU K A.dQ "taken"
 IX:bU K A.dQ "told"
 IY:bU K A.dQ "answers"
 IZ:bU K A.dQ "end"
 SW:bZ K A.gR
 aeo:qW K A.gR
 aep:mg "Rule" = some (.ref A.gR)
 vP:bZ K A.cT
 SX:qW K A.cT
 SY:mg "Nearest" = some (.ref A.cT)
 vQ:bZ K A.cU
 S0:qW K A.cU
 S2:mg "Soonest" = some (.ref A.cU)
 vR:bZ K A.cV
 S3:qW K A.cV
 S4:mg "Latest" = some (.ref A.cV)
 S5:mg "MOST_CELLS_asks" = some (.int 16 A.vm)
 S6:mg "GREATEST_FIRST" = some (.int 1000000 A.vn)
 S7:mg "GREATEST_AT" = some (.int 1000000000000 A.vo)
 S8:mg "GREATEST_ASKER" = some (.int 20 A.vp)
 S9:mg "GREATEST_LATEST" = some (.int 10000000000000 A.vq)
 S_:mg "GREATEST_BEHIND" = some (.int 99 A.vt)
 I_:mg "MOST_CELLS_settled" = some (.int 16 A.vv)
 Tc:mg "MOST_ZONES" = some (.int 5 A.vA)
 Td:mg "MOST_RINGS_IN_ZONE" = some (.int 40 A.vB)
 Te:mg "MOST_CELLS_IN_RING" = some (.int 60 A.vC)
 Tf:mg "LEAST_RINGS" = some (.int 2 A.vD)
 Tg:mg "MOST_RINGS" = some (.int 120 A.vE)
 Ja:mg "MOST_BEATS" = some (.int 1000000000 A.vF)
 vU:mg "abs" = none
 BY:mg "all" = none
 vV:mg "any" = none
 BZ:mg "bool" = none
 Jb:mg "dict" = none
 oh:mg "enumerate" = none
 B0:mg "int" = none
 pO:mg "isinstance" = none
 fz:mg "len" = none
 pQ:mg "list" = none
 vW:mg "max" = none
 lG:mg "min" = none
 gv:mg "range" = none
 B3:mg "sorted" = none
 B6:mg "sum" = none
 rO:mg "tuple" = none
 Ti:A.rF.code = .ref A.aY
 Tj:A.rG.code = .ref A.aZ
 Tn:A.rH.code = .ref A.a_
 To:w_ K A.rE ["first", "many", "at", "asker", "latest", "behind"] ["latest"] (FE A.zf) Pg
 Tp:mg "BOUND_WORDS" = some (.ref A.nX)
 Tq:yD K A.nX ["first", "calm lift", "calm sweep"]
 Tr:mg "EVER_WORDS" = some (.ref A.nY)
 Tt:yD K A.nY ["nearest", "soonest", "latest", "lift", "sweep"]
 B7:A.aQ≠A.aU
 B8:A.aQ≠A.aV
 B9:A.aU≠A.aV
theorem Tx.aer{K:W.Frag}{mg:Str->Option Value}{A:fu}(T:Tx K mg A):CP K A.bx:=⟨T.kB,T.BL,T.BN,T.BO,T.BP,T.BQ,T.BR⟩
theorem Tx.akC{K:W.Frag}{mg:Str->Option Value}{A:fu}(T:Tx K mg A):∀C∈[A.bx],bZ K C/\Meth K C "rings" A.u7:=by
 intro C hC;simp only[List.mem_cons,List.not_mem_nil,or_false] at hC;rcases hC with rfl
 ·exact⟨T.kB,T.Q_⟩
theorem Tx.aes{K:W.Frag}{mg:Str->Option Value}{A:fu}(T:Tx K mg A):∀C∈[A.bx],bZ K C/\Meth K C "cells_of" A.u_:=by
 intro C hC;simp only[List.mem_cons,List.not_mem_nil,or_false] at hC;rcases hC with rfl
 ·exact⟨T.kB,T.Rc⟩
theorem Tx.Jc{K:W.Frag}{mg:Str->Option Value}{A:fu}(T:Tx K mg A):∀C∈[A.bx],bZ K C/\Meth K C "beats_of" A.vc:=by
 intro C hC;simp only[List.mem_cons,List.not_mem_nil,or_false] at hC;rcases hC with rfl
 ·exact⟨T.kB,T.Rg⟩
theorem Tx.Tu{K:W.Frag}{mg:Str->Option Value}{A:fu}(T:Tx K mg A):∀C∈[A.bx],bZ K C/\Meth K C "lap_beats" A.vd:=by
 intro C hC;simp only[List.mem_cons,List.not_mem_nil,or_false] at hC;rcases hC with rfl
 ·exact⟨T.kB,T.Ri⟩
theorem Tx.aet{K:W.Frag}{mg:Str->Option Value}{A:fu}(T:Tx K mg A):∀C∈[A.bx],bZ K C/\Meth K C "begins" A.ve:=by
 intro C hC;simp only[List.mem_cons,List.not_mem_nil,or_false] at hC;rcases hC with rfl
 ·exact⟨T.kB,T.Rm⟩
theorem Tx.aeu{K:W.Frag}{mg:Str->Option Value}{A:fu}(T:Tx K mg A):∀C∈[A.bx],bZ K C/\Meth K C "swing_of" A.vf:=by
 intro C hC;simp only[List.mem_cons,List.not_mem_nil,or_false] at hC;rcases hC with rfl
 ·exact⟨T.kB,T.Rp⟩
theorem Tx.aev{K:W.Frag}{mg:Str->Option Value}{A:fu}(T:Tx K mg A):∀C∈[A.bx],bZ K C/\Meth K C "has_cell" A.vg:=by
 intro C hC;simp only[List.mem_cons,List.not_mem_nil,or_false] at hC;rcases hC with rfl
 ·exact⟨T.kB,T.Rt⟩
theorem Tx.aew{K:W.Frag}{mg:Str->Option Value}{A:fu}(T:Tx K mg A):∀C∈[A.bx],bZ K C/\Meth K C "cell_at" A.vh:=by
 intro C hC;simp only[List.mem_cons,List.not_mem_nil,or_false] at hC;rcases hC with rfl
 ·exact⟨T.kB,T.Rw⟩
theorem Tx.aex{K:W.Frag}{mg:Str->Option Value}{A:fu}(T:Tx K mg A):∀C∈[A.bx],bZ K C/\Meth K C "number_of" A.vj:=by
 intro C hC;simp only[List.mem_cons,List.not_mem_nil,or_false] at hC;rcases hC with rfl
 ·exact⟨T.kB,T.Rz⟩
theorem Tx.aey{K:W.Frag}{mg:Str->Option Value}{A:fu}(T:Tx K mg A):∀C∈[A.bL,A.bQ],bZ K C/\Meth K C "anew" A.rJ:=by
 intro C hC;simp only[List.mem_cons,List.not_mem_nil,or_false] at hC;rcases hC with rfl | rfl
 ·exact⟨T.lF,T.HY⟩
 ·exact⟨T.n_,T.HZ⟩
theorem Tx.akD{K:W.Frag}{mg:Str->Option Value}{A:fu}(T:Tx K mg A):∀C∈[A.bL,A.bQ],bZ K C/\Meth K C "pick" A.rK:=by
 intro C hC;simp only[List.mem_cons,List.not_mem_nil,or_false] at hC;rcases hC with rfl | rfl
 ·exact⟨T.lF,T.Ia⟩
 ·exact⟨T.n_,T.Ib⟩
theorem Tx.aez{K:W.Frag}{mg:Str->Option Value}{A:fu}(T:Tx K mg A):∀C∈[A.bL,A.bQ],bZ K C/\Meth K C "looked_at" A.rL:=by
 intro C hC;simp only[List.mem_cons,List.not_mem_nil,or_false] at hC;rcases hC with rfl | rfl
 ·exact⟨T.lF,T.QG⟩
 ·exact⟨T.n_,T.QH⟩
theorem Tx.aeA{K:W.Frag}{mg:Str->Option Value}{A:fu}(T:Tx K mg A):∀C∈[A.bL],bZ K C/\Meth K C "choose" A.uY:=by
 intro C hC;simp only[List.mem_cons,List.not_mem_nil,or_false] at hC;rcases hC with rfl
 ·exact⟨T.lF,T.QK⟩
theorem Tx.aeB{K:W.Frag}{mg:Str->Option Value}{A:fu}(T:Tx K mg A):∀C∈[A.bQ],bZ K C/\Meth K C "choose" A.uZ:=by
 intro C hC;simp only[List.mem_cons,List.not_mem_nil,or_false] at hC;rcases hC with rfl
 ·exact⟨T.n_,T.QN⟩
theorem Tx.akE{K:W.Frag}{mg:Str->Option Value}{A:fu}(T:Tx K mg A):∀C∈[A.gR,A.cT,A.cU,A.cV],bZ K C/\Meth K C "anew" A.nU:=by
 intro C hC;simp only[List.mem_cons,List.not_mem_nil,or_false] at hC;rcases hC with rfl | rfl | rfl | rfl
 ·exact⟨T.SW,T.Ql⟩
 ·exact⟨T.vP,T.HL⟩
 ·exact⟨T.vQ,T.HM⟩
 ·exact⟨T.vR,T.HN⟩
theorem Tx.akG{K:W.Frag}{mg:Str->Option Value}{A:fu}(T:Tx K mg A):∀C∈[A.cT],bZ K C/\Meth K C "pick" A.uT:=by
 intro C hC;simp only[List.mem_cons,List.not_mem_nil,or_false] at hC;rcases hC with rfl
 ·exact⟨T.vP,T.HP⟩
theorem Tx.akH{K:W.Frag}{mg:Str->Option Value}{A:fu}(T:Tx K mg A):∀C∈[A.cU],bZ K C/\Meth K C "pick" A.uU:=by
 intro C hC;simp only[List.mem_cons,List.not_mem_nil,or_false] at hC;rcases hC with rfl
 ·exact⟨T.vQ,T.HQ⟩
theorem Tx.akI{K:W.Frag}{mg:Str->Option Value}{A:fu}(T:Tx K mg A):∀C∈[A.cV],bZ K C/\Meth K C "pick" A.uW:=by
 intro C hC;simp only[List.mem_cons,List.not_mem_nil,or_false] at hC;rcases hC with rfl
 ·exact⟨T.vR,T.HR⟩
local macro_rules | `(tactic| walk_at "rdt") => `(tactic| wp_walk using $(Lean.mkIdent `T))
section
variable{P:Program}{w:World}{K:W.Frag}{mg:Str->Option Value}{base:Heap}{A:fu}
theorem aeC(T:Tx K mg A)(az:aj mg base A.aY A.aQ)(aA:aj mg base A.aZ A.aU)(aB:aj mg base A.a_ A.aV):aW P w K mg base bu 1 A.yU A.yV ["self", "kind", "first", "many", "marks", "at", "asker", "latest", "behind", "early"] (abq A.aX):=by
 refine T.PV.ok adE (λvs H Q E h=>?_) (λaR Ar outer s H vs Q E hr h=>?_)
 ·obtain⟨p,dx,v1,v2,v3,v4,v5,v6,v7,v8,v9,rfl,_⟩:=h
  rfl
 ·obtain⟨p,dx,v1,v2,v3,v4,v5,v6,v7,v8,v9,rfl,hp,q⟩:=h;refine⟨_,(aH (cL (pv 0) (pv 1) rfl)
   (aH (cL (pv 0) (pv 2) rfl)
   (aH (cL (pv 0) (pv 3) rfl)
   (aH (cL (pv 0) (pv 4) rfl)
   (aH (cL (pv 0) (pv 5) rfl)
   (aH (cL (pv 0) (pv 6) rfl)
   (aH (cL (pv 0) (pv 7) rfl)
   (aH (cL (pv 0) (pv 8) rfl)
   (aK (cL (pv 0) (pv 9) rfl)))))))))),?_⟩
  wp_walk using T,hp;exact q
theorem rP(T:Tx K mg A)(az:aj mg base A.aY A.aQ)(aA:aj mg base A.aZ A.aU)(aB:aj mg base A.a_ A.aV):aW P w K mg base bu 1 A.yW A.yX ["number", "least", "greatest", "words"] abm:=by
 refine T.nZ.ok adF (λvs H Q E h=>?_) (λaR Ar outer s H vs Q E hr h=>?_)
 ·obtain⟨n,lo,hi,w,rfl,_⟩:=h
  rfl
 ·obtain⟨n,lo,hi,w,rfl,h1,h2,q⟩:=h;refine⟨_,(aK (cy (PW.pt (gn (bM gB (pv 0) (pv 1) (bK _)) (gU (bM jU (pv 0) (pv 2) (bK _))))) e8 cE)),?_⟩;walk_at "rdm";exact⟨by lia,by lia,q⟩
theorem aeD(T:Tx K mg A)(az:aj mg base A.aY A.aQ)(aA:aj mg base A.aZ A.aU)(aB:aj mg base A.a_ A.aV):aW P w K mg base bu 1 A.zc A.zd ["behind"] (abp K):=by
 refine T.HA.ok adH (λvs H Q E h=>?_) (λaR Ar outer s H vs Q E hr h=>?_)
 ·obtain⟨v,ns,rfl,_⟩:=h
  rfl
 ·obtain⟨v,ns,rfl,hv,q⟩:=h;refine⟨_,(aK (bD (L5 (bM Yz (pv 0) oK (bK _)) (gZ au) (xh MX rfl T.rO boot_tuple (aa (pv 0) au))))),?_⟩;walk_at "rdm";rcases hv with⟨rfl,rfl⟩ | ⟨a,rfl,hS | hS⟩
  ·exact ite_yes rfl λt nt=>q t _ (ah.put nt) aI
  ·exact ite_no (by simp) ⟨a,rfl,_,.inl ⟨hS,λl nl=>q l _ (ah.put nl) aI⟩⟩
  ·exact ite_no (by simp) ⟨a,rfl,_,.inr ⟨bE.of hS,q a _ (ah.refl _) hS⟩⟩
theorem aeE(T:Tx K mg A)(az:aj mg base A.aY A.aQ)(aA:aj mg base A.aZ A.aU)(aB:aj mg base A.a_ A.aV):aW P w K mg base bu 1 A.zg A.zh ["one", "other"] (abt K A.aX):=by
 refine T.HB.ok adI (λvs H Q E h=>?_) (λaR Ar outer s H vs Q E hr h=>?_)
 ·obtain⟨p,r,x,y,m,b,dx,m',b',eu,rfl,_⟩:=h
  rfl
 ·obtain⟨p,r,x,y,m,b,dx,m',b',eu,rfl,hx,hy,q⟩:=h;refine⟨_,(aH (cy (PW.pt (L4 (bM lT (bF (pv 0) rfl) fD (bK _)) (L3 (bM lT (bF (pv 1) rfl) fD (bK _))))) (aK (bD iA)) cE)
   (aK (bD (wR (qu gB (bF (pv 0) rfl) (bq cG (bF (pv 1) rfl) (bF (pv 1) rfl)) (bK _)) (wQ (qu gB (bF (pv 1) rfl) (bq cG (bF (pv 0) rfl) (bF (pv 0) rfl)) (bK _))))))),?_⟩
  wp_walk using T,hx.o,hy.o;unfold qM at q;by_cases k1:x.kind = "write" <;> by_cases k2:y.kind = "write" <;> by_cases k3:x.first<y.first+y.many <;> simpa[k1,k2,k3] using q
theorem Jd(T:Tx K mg A)(az:aj mg base A.aY A.aQ)(aA:aj mg base A.aZ A.aU)(aB:aj mg base A.a_ A.aV):aW P w K mg base bu 1 A.zu A.zw ["due"] (aco K A.aX A.bG):=by
 refine T.vH.ok adK (λvs H Q E h=>?_) (λaR Ar outer s H vs Q E hr h=>?_)
 ·obtain⟨p,d,dx,ap,l,ts,m,b,bC,rfl,_⟩:=h
  rfl
 ·obtain⟨p,d,dx,ap,l,ts,m,b,bC,rfl,hD,d1,q⟩:=h;have dg:=hD.o;unfold ig at dg;refine⟨_,(aK (bD (bR gF (bR cS (bF (pv 0) rfl) aF (λ_ _=>rfl)) aF (λ_ _=>rfl)))),?_⟩;wp_walk using T,dg;have hn:=hD.c.n;have h0:ts[0]? = some (ts[0]'(by lia)):=List.getElem?_eq_getElem _
  have e0:d.c[0]? = some (cj d):=by unfold cj;rw[List.getD_eq_getElem?_getD,List.getElem?_eq_getElem (by lia)];rfl
  exact⟨_,hD.c.sq,_,fG (j:=0) (by rw[List.getElem?_map,h0];rfl),_,rfl,_,bE.of (hD.c.t 0 _ _ h0 e0),_,rfl,q⟩
theorem aeF(T:Tx K mg A)(az:aj mg base A.aY A.aQ)(aA:aj mg base A.aZ A.aU)(aB:aj mg base A.a_ A.aV):aW P w K mg base bu 1 A.zx A.zy ["dues"] (acg K A.aX A.bG):=by
 refine T.HF.ok adL (λvs H Q E h=>?_) (λaR Ar outer s H vs Q E hr h=>?_)
 ·obtain⟨D,ps,ds,rfl,_⟩:=h
  rfl
 ·obtain⟨D,ps,ds,rfl,hd,d1,eX,q⟩:=h;have d9:=hd.n;refine⟨_,(aK (bD (cQ (aaC rfl) rfl T.lG boot_min (aa (iP (N:=["due"]) (nt:=1) (fv:=[]) (dw.of rfl rfl (by rfl) (by rfl) (by repeat (first | exact trivial | refine⟨rfl,?_⟩)) (by rfl) (by rfl) (by rfl) (by decide) (by decide +kernel)) rfl (fE (pv 0)) (λC s H fp=>(bH (i:=0) (show List.Nodup (["due"]:List Str) by decide +kernel) rfl (Or.inl rfl))) (λC s H fp=>kZ) (λC s H fp=>(eV (K:=K) rfl (pv 0) rfl))) au)))),?_⟩
  walk_at "rdt";refine j9 D (ps.map V.ref) (λD2 i ys aq H2=>∃(u:Option V),ys=((ds.take i).map (·.n)).map V.int/\aq = [u]/\H2 D2=some (.lst ys)/\ah H H2/\H D2=none) (λQ q=>⟨_,rfl,q⟩) (aE.of hd.l) ?_ ?_ ?_ ?_
  ·intro D2 hD;exact⟨none,rfl,rfl,aI,ah.put hD,hD⟩
  ·rintro D2 i ys aq H2 ⟨u,rfl,rfl,e1,e2,e3⟩;exact⟨e1,g9 (by simp only[List.length_map,List.length_take];lia),aE.of (e2 _ _ hd.l)⟩
  ·rintro D2 i x ys aq H2 N hN hx ⟨u,rfl,rfl,e1,e2,e3⟩;obtain⟨dp,fM,rfl⟩:=ff hx;have hi:i<ds.length:=by rw[← d9];exact d7 fM
   refine(hd.same e2).el i dp ds[i] fM (List.getElem?_eq_getElem hi) λdx ap l ts m b' bC hD=>?_;have dg:=hD.o;unfold ig at dg;wp_walk using T,dg;refine⟨e1,hN _ _ _ ⟨_,?_,rfl,aI,ah.put2 e2 e3,e3⟩⟩;rw[take_succ_get (List.getElem?_eq_getElem hi),List.map_append,List.map_append];rfl
  ·rintro D2 ys aq H2 ⟨u,rfl,rfl,e1,e2,e3⟩;rw[List.length_map,d9,List.take_length] at e1;refine⟨D2,rfl,_,aE.of e1,by rw[List.length_map];lia,λM hM least=>?_⟩
   obtain⟨d,cj,rfl⟩:=List.mem_map.mp hM;exact q d H2 e2 ⟨cj,λe he=>by have:=least e.n (List.mem_map_of_mem he);dsimp only;lia⟩
theorem Je(T:Tx K mg A)(az:aj mg base A.aY A.aQ)(aA:aj mg base A.aZ A.aU)(aB:aj mg base A.a_ A.aV):aW P w K mg base bu 1 A.nU A.zB ["self"] yE:=by
 refine T.Qk.ok adP (λvs H Q E h=>?_) (λaR Ar outer s H vs Q E hr h=>?_)
 ·obtain⟨x,rfl,_⟩:=h
  rfl
 ·obtain⟨x,rfl,q⟩:=h;refine⟨_,(aK (bD oK)),?_⟩;walk_at "rdt";exact q
theorem aeG(T:Tx K mg A)(az:aj mg base A.aY A.aQ)(aA:aj mg base A.aZ A.aU)(aB:aj mg base A.a_ A.aV):aW P w K mg base bu 1 A.zN A.zO ["dues"] (acv K A.aX A.bG):=by
 refine T.HW.ok Hq (λvs H Q E h=>?_) (λaR Ar outer s H vs Q E hr h=>?_)
 ·obtain⟨D,ps,ds,rfl,_⟩:=h
  rfl
 ·obtain⟨D,ps,ds,rfl,hd,eX,q⟩:=h;have d9:=hd.n;have hu:=j5 hr;refine⟨_,(aH (bI (i:=1) Hq.nd rfl (Or.inl rfl) tN)
   (aH (dY PassesOwn.never rfl (fE (pv 0)) (bH (i:=2) Hq.nd rfl (Or.inl rfl))
   (aK (xw hu (pv 1) (bF (pv 2) rfl) iA rfl)))
   (aK (bD (pv 1))))),?_⟩
  walk_at "rdt";intro kd mK;refine rl D (ps.map V.ref) (λi σ H'=>∃(u:Option V) (kvs:List (Key×V)),σ = [some (.ref D),some (.ref kd),u]/\ah H H'/\H' kd=some (.dK kvs)/\kvs.length<=i/\∀n:Int,(cC kvs (cN n)).isSome=decide (n∈(ds.take i).map (·.n))) (λQ q=>⟨_,rfl,q⟩) (aE.of (ah.put mK _ _ hd.l)) ⟨none,[],rfl,ah.put mK,aI,Nat.le_refl _,λn=>by simp[D6]⟩ (by rintro i σ H' _ ⟨_,_,rfl,s',_⟩;exact aE.of (s' _ _ hd.l)) ?_ ?_
  ·rintro i x σ H' N hN hx ⟨u,kvs,rfl,s',hk,hl,hv⟩;obtain⟨p,hp,rfl⟩:=ff hx;have hi:i<ds.length:=by rw[← d9];exact d7 hp
   refine(hd.same s').el i p ds[i] hp (List.getElem?_eq_getElem hi) λdx ap la ts m b bC hD=>?_;have dg:=hD.o;unfold ig at dg;wp_walk using T,dg;refine⟨_,kW.k (k:=cN ds[i].n) hk (by rw[pe];lia),hN _ _ ⟨_,_,rfl,ah.put2 s' mK,aI,?_,λn=>?_⟩⟩
   ·have:=OF kvs (cN ds[i].n) (V.bl true);lia
   ·rw[xr,take_succ_get (List.getElem?_eq_getElem hi),List.map_append];by_cases e:n=ds[i].n
    ·subst e;simp
    ·rw[if_neg (by simpa[cN] using e),hv]
     simp[e]
  ·rintro σ H' ⟨u,kvs,rfl,s',hk,hl,hv⟩;rw[List.length_map,d9] at hl;rw[List.length_map,d9,List.take_length] at hv;walk_at "rdm";exact q kd kvs H' s' mK hk (by lia) hv
theorem Jf(T:Tx K mg A)(az:aj mg base A.aY A.aQ)(aA:aj mg base A.aZ A.aU)(aB:aj mg base A.a_ A.aV):aW P w K mg base bu 1 A.rJ A.zQ ["self"] (yx K [A.bL,A.bQ]):=by
 refine T.QC.ok adX (λvs H Q E h=>?_) (λaR Ar outer s H vs Q E hr h=>?_)
 ·obtain⟨C,x,dx,c,fs,rfl,_⟩:=h
  rfl
 ·obtain⟨C,x,dx,c,fs,rfl,hC,hK,hx,hf,q⟩:=h;refine⟨_,(aH (cL (pv 0) iA rfl)
   (aK (cL (pv 0) tN rfl))),?_⟩
  rcases hf with rfl | ⟨i,B,rfl⟩
  ·wp_walk using hK.cl,hK.n1,hK.n2,hK.n3,hx,iF;intro p np;have pR:p≠x:=λz=>by rw[z,aI] at np;cases np
   have vX:H p=none:=by rwa [aD pR] at np
   refine⟨_,_,_,(aD (Ne.symm pR)).trans aI,hK.cl,hK.n3,by simp,q p _ vX (λb o e hb=>?_) ⟨aI,[],?_,by simp,λn=>by simp[D6]⟩⟩
   ·rw[aD hb,aD (λz=>by rw[z,vX] at e;cases e),aD hb];exact e
   ·rw[aD pR,aI]
  ·wp_walk using hK.cl,hK.n1,hK.n2,hK.n3,hx,iF;intro p np;have pR:p≠x:=λz=>by rw[z,aI] at np;cases np
   have vX:H p=none:=by rwa [aD pR] at np
   refine⟨_,_,_,(aD (Ne.symm pR)).trans aI,hK.cl,hK.n3,by simp,q p _ vX (λb o e hb=>?_) ⟨aI,[],?_,by simp,λn=>by simp[D6]⟩⟩
   ·rw[aD hb,aD (λz=>by rw[z,vX] at e;cases e),aD hb];exact e
   ·rw[aD pR,aI]
theorem aeH(T:Tx K mg A)(az:aj mg base A.aY A.aQ)(aA:aj mg base A.aZ A.aU)(aB:aj mg base A.a_ A.aV):aW P w K mg base bu 1 A.zW A.zX ["zones"] (aaP K):=by
 refine T.Ic.ok yP (λvs H Q E h=>?_) (λaR Ar outer s H vs Q E hr h=>?_)
 ·obtain⟨a,ts,z,rfl,_⟩:=h
  rfl
 ·obtain⟨a,ts,z,rfl,hz,ok,q⟩:=h;refine⟨_,(aH (cy (PW.pt (gn (bM gB (cQ gb rfl T.fz boot_len (aa (pv 0) au)) aF (bK _)) (gU (bM jU (cQ gb rfl T.fz boot_len (aa (pv 0) au)) (gA (v:=.int 5) rfl T.Tc ⟨_,rfl⟩) (bK _))))) e8 cE)
   (aH (dY PassesOwn.never rfl (fE (pv 0)) (jy rfl (dJ (bH (i:=1) yP.nd rfl (Or.inl rfl)) (dJ (bH (i:=2) yP.nd rfl (Or.inl rfl)) jx)))
   (aH (cy (PW.pt (gn (bM gB (pv 1) aF (bK _)) (gU (bM jU (pv 1) (gA (v:=.int 40) rfl T.Td ⟨_,rfl⟩) (bK _))))) e8 cE)
   (aK (cy (PW.pt (gn (bM gB (pv 2) aF (bK _)) (gU (bM jU (pv 2) (gA (v:=.int 60) rfl T.Te ⟨_,rfl⟩) (bK _))))) e8 cE))))
   (aH (bI (i:=3) yP.nd rfl (Or.inl rfl) (cQ (aaA rfl) rfl T.B6 boot_sum (aa (iP (N:=["zone"]) (nt:=1) (fv:=[]) (dw.of rfl rfl (by rfl) (by rfl) (by repeat (first | exact trivial | refine⟨rfl,?_⟩)) (by rfl) (by rfl) (by rfl) (by decide) (by decide +kernel)) rfl (fE (pv 0)) (λC s H fp=>(bH (i:=0) (show List.Nodup (["zone"]:List Str) by decide +kernel) rfl (Or.inl rfl))) (λC s H fp=>kZ) (λC s H fp=>(bR (aaL (K:=K) rfl) (pv 0) aF (λ_ _=>rfl)))) au)))
   (aK (cy (PW.pt (gn (bM gB (pv 3) (gA (v:=.int 2) rfl T.Tf ⟨_,rfl⟩) (bK _)) (gU (bM jU (pv 3) (gA (v:=.int 120) rfl T.Tg ⟨_,rfl⟩) (bK _))))) e8 cE))))),?_⟩
  walk_at "rdm";have hn:=hz.n;have l1:=ok.l1;have l5:=ok.l5;refine⟨_,.inl hz.sq,by simp only[List.length_map];lia,_,.inl hz.sq,by simp only[List.length_map];lia,?_⟩
  refine rl a (ts.map V.ref) (λi σ H'=>∃r c,σ = [some (.ref a),r,c,none]/\H' = H) (λQ q=>⟨_,rfl,q⟩) hz.sq ⟨none,none,rfl,rfl⟩ (by rintro i σ H' _ ⟨r,c,rfl,rfl⟩;exact hz.sq) ?_ ?_
  ·rintro i x σ H' N hN hx ⟨r,c,rfl,rfl⟩;obtain⟨t,p,rfl,hp,ht⟩:=hz.at hx;refine k6 (bE.of ht) rfl ?_;walk_at "rdm";obtain⟨h1,h2,h3,h4⟩:=ok.r p (get_mem hp);exact⟨by lia,by lia,by lia,by lia,hN _ _ ⟨_,_,rfl,rfl⟩⟩
  ·rintro σ H' ⟨r,c,rfl,rfl⟩;walk_at "rdm";refine j9 a (ts.map V.ref) (λD i ys aq H2=>ys=((z.take i).map λp=>V.int p.1)/\H2 D=some (.lst ys)/\ah H' H2/\H' D=none/\i<=z.length/\∃u,aq = [u]) (λQ q=>⟨_,rfl,q⟩) hz.sq ?_ ?_ ?_ ?_
   ·intro D hD;exact⟨rfl,aI,ah.put hD,hD,Nat.zero_le _,_,rfl⟩
   ·rintro D i ys aq H2 ⟨e,e1,e2,e3,e4,_⟩;refine⟨e1,?_,e2.seq hz.sq⟩;rw[e];refine g9 ?_;simp only[List.length_map,List.length_take];lia
   ·rintro D i x ys aq H2 N hN hx ⟨e,e1,e2,e3,e4,u,rfl⟩;obtain⟨t,p,rfl,hp,ht⟩:=hz.at hx;have hl:=d7 hp;walk_at "rdm";refine⟨_,bE.of (e2 _ _ ht),_,rfl,e1,hN _ _ _ ⟨?_,aI,ah.put2 e2 e3,e3,hl,_,rfl⟩⟩;rw[take_succ_get hp,List.map_append,e];rfl
   ·rintro D ys aq H2 ⟨e,e1,e2,e3,e4,u,rfl⟩;have e5:ys=(z.map λp=>p.1).map V.int:=by
     rw[e,lenZ hz.n,List.take_length,List.map_map];rfl
    rw[e5] at e1;walk_at "rdm";have s2:=ok.s2;have s1:=ok.Ez;exact⟨_,aE.of e1,by lia,by lia,q _ e2⟩
theorem aeI(T:Tx K mg A)(az:aj mg base A.aY A.aQ)(aA:aj mg base A.aZ A.aU)(aB:aj mg base A.a_ A.aV):aW P w K mg base bu 1 A.zY A.zZ ["zones", "lap", "skew"] (aaQ K):=by
 refine T.Ie.ok Hr (λvs H Q E h=>?_) (λaR Ar outer s H vs Q E hr h=>?_)
 ·obtain⟨a,ts,z,aG,dF,rfl,_⟩:=h
  rfl
 ·obtain⟨a,ts,z,aG,dF,rfl,hz,ok,h1,h2,h3,h4,hd,q⟩:=h;refine⟨_,(aH (cy (PW.pt (gn (bM gB (pv 1) aF (bK _)) (gU (bM jU (pv 1) (gA (v:=.int 1000000000) rfl T.Ja ⟨_,rfl⟩) (bK _))))) e8 cE)
   (aH (dY PassesOwn.never rfl (fE (pv 0)) (jy rfl (dJ (bH (i:=3) Hr.nd rfl (Or.inl rfl)) (dJ (bH (i:=4) Hr.nd rfl (Or.inl rfl)) jx)))
   (aK (cy (bM lT (bq lR (pv 1) (pv 4)) aF (bK _)) e8 cE)))
   (aK (cy (PW.pt (gn (bM gB (pv 2) aF (bK _)) (gU (bM qt (pv 2) (pv 1) (bK _))))) e8 cE)))),?_⟩
  walk_at "rdm";refine⟨by lia,by lia,?_⟩
  refine rl a (ts.map V.ref) (λi σ H'=>∃r c,σ = [some (.ref a),some (.int aG),some (.int dF),r,c]/\H' = H) (λQ q=>⟨_,rfl,q⟩) hz.sq ⟨none,none,rfl,rfl⟩ (by rintro i σ H' _ ⟨r,c,rfl,rfl⟩;exact hz.sq) ?_ ?_
  ·rintro i x σ H' N hN hx ⟨r,c,rfl,rfl⟩;obtain⟨t,p,rfl,hp,ht⟩:=hz.at hx;refine k6 (bE.of ht) rfl ?_;obtain⟨g1,g2,g3,g4⟩:=ok.r p (get_mem hp);have g5:=hd p (get_mem hp);walk_at "rdm";exact⟨by lia,g5,hN _ _ ⟨_,_,rfl,rfl⟩⟩
  ·rintro σ H' ⟨r,c,rfl,rfl⟩;walk_at "rdm";exact⟨by lia,by lia,q⟩
theorem aeJ(T:Tx K mg A)(az:aj mg base A.aY A.aQ)(aA:aj mg base A.aZ A.aU)(aB:aj mg base A.a_ A.aV):aW P w K mg base bu 1 A.z8 A.z9 ["swing"] (aaS K):=by
 refine T.Ih.ok Hs (λvs H Q E h=>?_) (λaR Ar outer s H vs Q E hr h=>?_)
 ·obtain⟨a,sw,n,rfl,_⟩:=h
  rfl
 ·obtain⟨a,sw,n,rfl,hS,ok,hn,q⟩:=h;refine⟨_,(aK (dY PassesOwn.never rfl (sV rfl T.gv (aa aF (aa (cQ gb rfl T.fz boot_len (aa (pv 0) au)) au))) (bH (i:=1) Hs.nd rfl (Or.inl rfl))
   (aK (dY PassesOwn.never rfl (sV rfl T.gv (aa aF (aa (bq cG (bq tu (pv 1) aF) aF) au))) (bH (i:=2) Hs.nd rfl (Or.inl rfl))
   (aK (cy (bM jU (bR cS (pv 0) (pv 1) (λ_ _=>rfl)) (bq cG (bR cS (pv 0) (pv 2) (λ_ _=>rfl)) (bR cS (pv 0) (bq jz (pv 1) (pv 2)) (λ_ _=>rfl))) (bK _)) e8 cE)))))),?_⟩
  walk_at "rdm";have hl:=ok.len;have h2:=ok.two;refine xQ 2 (sw.length:Int) (λi σ H'=>∃r c,σ = [some (.ref a),r,c]/\H' = H) (λQ q=>?_) (by lia) (by lia) (by lia) (by lia) ⟨none,none,rfl,rfl⟩ ?_ ?_
  ·walk_at "rdm";refine⟨_,.inl hS,?_⟩;simpa using q
  ·rintro i σ H' N hN hi ⟨r,c,rfl,rfl⟩;walk_at "rdm";refine xQ 1 ((2+(i:Int)) / 2+1) (λj σ H2=>∃c,σ = [some (.ref a),some (.int (2+(i:Int))),c]/\H2=H') (λQ q=>?_) (by lia) (by lia) (by lia) (by lia) ⟨_,rfl,rfl⟩ ?_ ?_
   ·walk_at "rdm";exact q
   ·rintro j σ H2 N2 Jg hj ⟨c,rfl,rfl⟩;walk_at "rdm";have e1:((2:Int)+(i:Int)).toNat=(1+j)+(1+i - j):=by lia
    have e2:((1:Int)+(j:Int)).toNat=1+j:=by lia
    have e3:((2:Int)+(i:Int) - (1+(j:Int))).toNat=1+i - j:=by lia
    have g:=ok.no (1+j) (1+i - j) (by lia) (by lia) (by lia)
    refine⟨_,hS,_,jd (by lia) (by lia),_,hS,_,jd (by lia) (by lia),_,hS,_,jd (by lia) (by lia),?_⟩
    walk_at "rdm";rw[e1,e2,e3];exact⟨by lia,Jg _ _ ⟨_,rfl,rfl⟩⟩
   ·rintro σ H2 ⟨c,rfl,rfl⟩;exact hN _ _ ⟨_,_,rfl,rfl⟩
  ·rintro σ H' ⟨r,c,rfl,rfl⟩;exact q
theorem aeK(T:Tx K mg A)(az:aj mg base A.aY A.aQ)(aA:aj mg base A.aZ A.aU)(aB:aj mg base A.a_ A.aV):aW P w K mg base bu 1 A.z_ A.Aa ["zones"] (aaT K):=by
 refine T.Ii.ok yQ (λvs H Q E h=>?_) (λaR Ar outer s H vs Q E hr h=>?_)
 ·obtain⟨a,ts,z,rfl,_⟩:=h
  rfl
 ·obtain⟨a,ts,z,rfl,hz,ok,q⟩:=h;refine⟨_,(aH (bI (i:=1) yQ.nd rfl (Or.inl rfl) (eO au))
   (aH (dY PassesOwn.never rfl (fE (pv 0)) (jy rfl (dJ (bH (i:=2) yQ.nd rfl (Or.inl rfl)) (dJ (bH (i:=3) yQ.nd rfl (Or.inl rfl)) jx)))
   (aK (dI (jY PySem.F.plainAttrs_list PySem.F.slot_list_extend PySem.F.type_list_extend M6 (pv 1) (aa (bq xq (eO (aa (pv 3) au)) (pv 2)) au)))))
   (aK (bD (pv 1))))),?_⟩
  walk_at "rdm";refine λl hl=>?_;refine rl a (ts.map V.ref) (λi σ H'=>∃r c,σ = [some (.ref a),some (.ref l),r,c]/\ah H H'/\H' l=some (.lst ((counts (z.take i)).map V.int))) (λQ q=>⟨_,rfl,q⟩) (ah.put hl |>.seq hz.sq) ⟨none,none,rfl,ah.put hl,aI⟩ (by rintro i σ H' _ ⟨r,c,rfl,hs,_⟩;exact hs.seq hz.sq) ?_ ?_
  ·rintro i x σ H' N hN hx ⟨r,c,rfl,hs,h1⟩;obtain⟨t,p,rfl,hp,ht⟩:=hz.at hx;refine k6 (bE.of (hs _ _ ht)) rfl ?_;obtain⟨g1,g2,g3,g4⟩:=ok.r p (get_mem hp);have g5:=NC ok i;walk_at "rdm";refine⟨⟨_,aE.of h1⟩,λp1 nO=>⟨by lia,by lia,by lia,λp2 lX=>?_⟩⟩
   have s1:=(ah.put (o:=.lst [V.int p.2]) nO).trans (ah.put (o:=.lst (List.replicate p.1.toNat [V.int p.2]).flatten) lX);refine⟨_,s1 _ _ h1,?_,hN _ _ ⟨_,_,rfl,ah.put2 (hs.trans s1) hl,?_⟩⟩
   ·simp only[ND,List.length_map,List.length_replicate];lia
   ·rw[aI,take_succ_get hp,NB,List.map_append,ND];simp[counts]
  ·rintro σ H' ⟨r,c,rfl,hs,h1⟩;walk_at "rdm";rw[lenZ hz.n,List.take_length] at h1;exact q _ _ hs hl h1
theorem aeL(T:Tx K mg A)(az:aj mg base A.aY A.aQ)(aA:aj mg base A.aZ A.aU)(aB:aj mg base A.a_ A.aV):aW P w K mg base bu 1 A.Ab A.Ac ["ring_cells", "spares"] (aaU K):=by
 refine T.Ij.ok uN (λvs H Q E h=>?_) (λaR Ar outer s H vs Q E hr h=>?_)
 ·obtain⟨a,rc,s,rfl,_⟩:=h
  rfl
 ·obtain⟨a,rc,s,rfl,hS,hl,hc,xW,Jh,q⟩:=h;refine⟨_,(aH (bI (i:=2) uN.nd rfl (Or.inl rfl) (eO au))
   (aH (dY PassesOwn.never rfl (tW rfl T.oh (aa (pv 0) au)) (jy rfl (dJ (bH (i:=3) uN.nd rfl (Or.inl rfl)) (dJ (bH (i:=4) uN.nd rfl (Or.inl rfl)) jx)))
   (aK (dY PassesOwn.never rfl (mW rfl T.gv (aa (bq jz (pv 4) (pv 1)) au)) (bH (i:=5) uN.nd rfl (Or.inl rfl))
   (aK (dI (jY PySem.F.plainAttrs_list PySem.F.slot_list_append PySem.F.type_list_append kU (pv 2) (aa (gZ (aa (pv 3) (aa (pv 5) au))) au)))))))
   (aK (bD (pv 2))))),?_⟩
  walk_at "rdm";refine λl e_=>?_;have l6:=aaK (s:=s) xW (λc hx=>hc c hx);refine re a (rc.map V.int) (λi σ H'=>∃r c pl ts,σ = [some (.ref a),some (.int s),some (.ref l),r,c,pl]/\ah H H'/\(∀t∈ts,H t=none)/\Zn H' l ts (eF s 0 (rc.take i))) (λQ q=>?_) (ah.put e_ |>.seq hS)
   ⟨none,none,none,[],rfl,ah.put e_,(by intro t ht;cases ht),aI,rfl,by intro i t p h;simp at h⟩ (by rintro i σ H' _ ⟨r,c,pl,ts,rfl,hs,_⟩;exact hs.seq hS) ?_ ?_
  ·walk_at "rdm";exact q
  ·rintro i x σ H' T1 N hN hx ⟨r,c,pl,ts,rfl,hs,pT,hz⟩ hT;obtain⟨c0,Ji,rfl⟩:=ff hx;obtain⟨g1,g2⟩:=hc c0 (get_mem Ji);refine k6 (bE.of aI) rfl ?_;walk_at "rdm";have Tv:=ah.put (o:=.tup [.int i,.int c0]) hT;refine NG (c0 - s) (λj σ H2=>∃pl ts,σ = [some (.ref a),some (.int s),some (.ref l),some (.int i),some (.int c0),pl]/\ah H H2/\(∀t∈ts,H t=none)/\Zn H2 l ts (eF s 0 (rc.take i)++(List.range j).map λ(k:Nat)=>((i:Int),(k:Int)))) (λQ q=>?_) (by lia) (by lia) ?_ ?_ ?_
   ·walk_at "rdm";exact q
   ·exact⟨_,ts,rfl,hs.trans Tv,pT,by simpa using hz.same Tv⟩
   ·rintro j σ H2 N2 Jg hj ⟨pl,ts,rfl,gY,Jj,oq⟩;walk_at "rdm";refine⟨⟨_,oq.sq⟩,λp hp=>⟨_,ah.put hp _ _ oq.l,?_,Jg _ _ ⟨_,ts++[p],rfl,ah.put2 (gY.trans (ah.put hp)) e_,?_,?_⟩⟩⟩
    ·have h1:=oq.n;have h2:=l6 i;simp only[List.length_map,List.length_append,List.length_range] at h1 ⊢;lia
    ·intro t ht;rcases List.mem_append.mp ht with ht | ht
     ·exact Jj t ht
     ·rw[List.mem_singleton.mp ht];exact gY.free hp
    ·have:=oq.snoc hp (i:Int) (j:Int);rw[List.range_succ,List.map_append,← List.append_assoc];exact this
   ·rintro σ H2 ⟨pl,ts,rfl,gY,Jj,oq⟩;refine hN _ _ ⟨_,_,_,ts,rfl,gY,Jj,?_⟩;rw[take_succ_get Ji,Nx];have hi:=d7 Ji;simpa[eF,Nat.min_eq_left (Nat.le_of_lt hi)] using oq
  ·rintro σ H' ⟨r,c,pl,ts,rfl,hs,pT,hz⟩;walk_at "rdm";rw[List.length_map,List.take_length] at hz;exact q _ _ _ hs e_ pT hz
theorem aeM(T:Tx K mg A)(az:aj mg base A.aY A.aQ)(aA:aj mg base A.aZ A.aU)(aB:aj mg base A.a_ A.aV):aW P w K mg base bu 1 A.Ad A.Ae ["number_cells"] (aaV K):=by
 refine T.Ik.ok yR (λvs H Q E h=>?_) (λaR Ar outer s H vs Q E hr h=>?_)
 ·obtain⟨a,ts,z,rfl,_⟩:=h
  rfl
 ·obtain⟨a,ts,z,rfl,hz,hlen,q⟩:=h;have hu:=j5 hr;refine⟨_,(aH (bI (i:=1) yR.nd rfl (Or.inl rfl) aac)
   (aH (dY PassesOwn.never rfl (tW rfl T.oh (aa (pv 0) au)) (jy rfl (dJ (bH (i:=2) yR.nd rfl (Or.inl rfl)) (dJ (bH (i:=3) yR.nd rfl (Or.inl rfl)) jx)))
   (aK (xw hu (pv 1) (pv 3) (pv 2) rfl)))
   (aK (bD (pv 1))))),?_⟩
  walk_at "rdm";refine λd hd=>?_;refine re a (ts.map V.ref) (λi σ H'=>∃r c,σ = [some (.ref a),some (.ref d),r,c]/\ah H H'/\i<=z.length/\H' d=some (.dT (gG 0 (z.take i) []))) (λQ q=>?_) (ah.put hd |>.seq hz.sq)
   ⟨none,none,rfl,ah.put hd,Nat.zero_le _,aI⟩ (by rintro i σ H' _ ⟨r,c,rfl,hs,_⟩;exact hs.seq hz.sq) ?_ ?_
  ·walk_at "rdm";exact q
  ·rintro i x σ H' T1 N hN hx ⟨r,c,rfl,hs,hi,h1⟩ hT;obtain⟨t,p,rfl,hp,ht⟩:=hz.at hx;refine k6 (bE.of aI) rfl ?_;walk_at "rdm";have Jh:=hs.trans (ah.put (o:=.tup [.int i,.ref t]) hT);have hl:=Nz (z.take i) 0 [];have B_:=d7 hp;rw[List.length_take,List.length_nil] at hl;refine⟨_,kW.t (k:=kT p) (ah.put hT _ _ h1) (Jh _ _ ht) (by rw[pe];lia),hN _ _ ⟨_,_,rfl,ah.put2 Jh hd,B_,?_⟩⟩
   rw[aI,take_succ_get hp,Ny];simp[gG,Nat.min_eq_left (Nat.le_of_lt B_)]
  ·rintro σ H' ⟨r,c,rfl,hs,hi,h1⟩;walk_at "rdm";rw[lenZ hz.n,List.take_length] at h1;exact q _ _ hs hd h1
theorem akJ(T:Tx K mg A)(az:aj mg base A.aY A.aQ)(aA:aj mg base A.aZ A.aU)(aB:aj mg base A.a_ A.aV):aW P w K mg base bu 1 A.u7 A.Ah ["self"] (aaY K):=by
 refine T.Q9.ok ad2 (λvs H Q E h=>?_) (λaR Ar outer s H vs Q E hr h=>?_)
 ·obtain⟨C,p,P,fp,rfl,_⟩:=h
  rfl
 ·obtain⟨C,p,P,fp,rfl,hP,q⟩:=h;obtain⟨dx,a1,a2,a3,a4,ts,fs,rfl,h⟩:=hP;refine⟨_,(aK (bD (cQ gb rfl T.fz boot_len (aa (bF (pv 0) rfl) au)))),?_⟩;wp_walk using T,h.o,h.f1,h.f2,h.f3,h.f4,h.f5,h.f6,h.m1,h.m2,h.m3,h.m4,h.m5,h.m6,h.m7,h.m8,h.m9,h.gJ,h.ia,h.cp.cl,h.cp.n1,h.cp.n2,h.cp.n3,h.cp.n4,h.cp.n5,h.cp.n6;exact⟨_,.inl (aE.of h.rc),by simpa  using q⟩
theorem aeN(T:Tx K mg A)(az:aj mg base A.aY A.aQ)(aA:aj mg base A.aZ A.aU)(aB:aj mg base A.a_ A.aV):aW P w K mg base bu 1 A.u_ A.Ai ["self", "ring"] (aa0 K):=by
 refine T.Ra.ok ad3 (λvs H Q E h=>?_) (λaR Ar outer s H vs Q E hr h=>?_)
 ·obtain⟨C,p,P,fp,r,rfl,_⟩:=h
  rfl
 ·obtain⟨C,p,P,fp,r,rfl,hP,h0,h1,q⟩:=h;obtain⟨dx,a1,a2,a3,a4,ts,fs,rfl,h⟩:=hP;refine⟨_,(aK (bD (bR cS (bF (pv 0) rfl) (pv 1) (λ_ _=>rfl)))),?_⟩;wp_walk using T,h.o,h.f1,h.f2,h.f3,h.f4,h.f5,h.f6,h.m1,h.m2,h.m3,h.m4,h.m5,h.m6,h.m7,h.m8,h.m9,h.gJ,h.ia,h.cp.cl,h.cp.n1,h.cp.n2,h.cp.n3,h.cp.n4,h.cp.n5,h.cp.n6;exact⟨_,aE.of h.rc,_,jd h0 h1,q⟩
theorem Jk(T:Tx K mg A)(az:aj mg base A.aY A.aQ)(aA:aj mg base A.aZ A.aU)(aB:aj mg base A.a_ A.aV):aW P w K mg base bu 1 A.vc A.Aj ["self", "ring"] (aa1 K):=by
 refine T.Rf.ok ad4 (λvs H Q E h=>?_) (λaR Ar outer s H vs Q E hr h=>?_)
 ·obtain⟨C,p,P,fp,r,rfl,_⟩:=h
  rfl
 ·obtain⟨C,p,P,fp,r,rfl,hP,h0,h1,h2,h3,q⟩:=h;obtain⟨dx,a1,a2,a3,a4,ts,fs,rfl,h⟩:=hP;refine⟨_,(aK (bD (bq tu (bF (pv 0) rfl) (bR cS (bF (pv 0) rfl) (pv 1) (λ_ _=>rfl))))),?_⟩;wp_walk using T,h.o,h.f1,h.f2,h.f3,h.f4,h.f5,h.f6,h.m1,h.m2,h.m3,h.m4,h.m5,h.m6,h.m7,h.m8,h.m9,h.gJ,h.ia,h.cp.cl,h.cp.n1,h.cp.n2,h.cp.n3,h.cp.n4,h.cp.n5,h.cp.n6;refine⟨_,aE.of h.rc,_,jd h0 h1,?_⟩;walk_at "rdm";exact⟨h2,by lia,q⟩
theorem Tw(T:Tx K mg A)(az:aj mg base A.aY A.aQ)(aA:aj mg base A.aZ A.aU)(aB:aj mg base A.a_ A.aV):aW P w K mg base bu 1 A.vd A.Al ["self"] (aaZ K):=by
 refine T.Rh.ok ad5 (λvs H Q E h=>?_) (λaR Ar outer s H vs Q E hr h=>?_)
 ·obtain⟨C,p,P,fp,rfl,_⟩:=h
  rfl
 ·obtain⟨C,p,P,fp,rfl,hP,q⟩:=h;obtain⟨dx,a1,a2,a3,a4,ts,fs,rfl,h⟩:=hP;refine⟨_,(aK (bD (bF (pv 0) rfl))),?_⟩;wp_walk using T,h.o,h.f1,h.f2,h.f3,h.f4,h.f5,h.f6,h.m1,h.m2,h.m3,h.m4,h.m5,h.m6,h.m7,h.m8,h.m9,h.gJ,h.ia,h.cp.cl,h.cp.n1,h.cp.n2,h.cp.n3,h.cp.n4,h.cp.n5,h.cp.n6;exact q
theorem aeO(T:Tx K mg A)(az:aj mg base A.aY A.aQ)(aA:aj mg base A.aZ A.aU)(aB:aj mg base A.a_ A.aV):aW P w K mg base bu 1 A.vf A.An ["self", "ring", "other"] (aaX K):=by
 refine T.Rn.ok ad7 (λvs H Q E h=>?_) (λaR Ar outer s H vs Q E hr h=>?_)
 ·obtain⟨C,p,P,fp,i,j,rfl,_⟩:=h
  rfl
 ·obtain⟨C,p,P,fp,i,j,rfl,hP,hi,q⟩:=h;obtain⟨dx,a1,a2,a3,a4,ts,fs,rfl,h⟩:=hP;refine⟨_,(aK (bD (bR cS (bF (pv 0) rfl) (cQ Ms rfl T.vU boot_abs (aa (bq jz (pv 1) (pv 2)) au)) (λ_ _=>rfl)))),?_⟩;wp_walk using T,h.o,h.f1,h.f2,h.f3,h.f4,h.f5,h.f6,h.m1,h.m2,h.m3,h.m4,h.m5,h.m6,h.m7,h.m8,h.m9,h.gJ,h.ia,h.cp.cl,h.cp.n1,h.cp.n2,h.cp.n3,h.cp.n4,h.cp.n5,h.cp.n6;refine⟨_,aE.of h.sw,_,jd (k:=if i - j<0 then -(i - j) else i - j) (by split <;> lia) (by split <;> lia),?_⟩
  have e:(if i - j<0 then -(i - j) else i - j).toNat=(i - j).natAbs:=by split <;> lia
  rw[e];exact q
theorem aeP(T:Tx K mg A)(az:aj mg base A.aY A.aQ)(aA:aj mg base A.aZ A.aU)(aB:aj mg base A.a_ A.aV):aW P w K mg base bu 1 A.vg A.Ao ["self", "ring", "place"] (aa3 K):=by
 refine T.Rq.ok ad8 (λvs H Q E h=>?_) (λaR Ar outer s H vs Q E hr h=>?_)
 ·obtain⟨C,p,P,fp,r,c,rfl,_⟩:=h
  rfl
 ·obtain⟨C,p,P,fp,r,c,rfl,hP,q⟩:=h;obtain⟨dx,a1,a2,a3,a4,ts,fs,rfl,h⟩:=hP;refine⟨_,(aH (cy (PW.pt (gn (bM gB (pv 1) aF (bK _)) (gU (bM qt (pv 1) (cQ gb rfl T.fz boot_len (aa (bF (pv 0) rfl) au)) (bK _))))) (aK (bD iA)) cE)
   (aK (bD (wR (qu qt (pv 2) aF (bK _)) (wQ (qu gB (pv 2) (bR cS (bF (pv 0) rfl) (pv 1) (λ_ _=>rfl)) (bK _))))))),?_⟩
  wp_walk using h.o,h.f1,h.f2,h.f3,h.f4,h.f5,h.f6,h.m1,h.m2,h.m3,h.m4,h.m5,h.m6,h.m7,h.m8,h.m9,h.gJ,h.ia,h.cp.cl,h.cp.n1,h.cp.n2,h.cp.n3,h.cp.n4,h.cp.n5,h.cp.n6;refine eo (λh0=>?_) (λh0=>⟨_,.inl (aE.of h.rc),eo (λh1=>?_) (λh1=>?_)⟩)
  ·rw[decide_eq_false (by lia)] at q;exact q
  ·rw[List.length_map] at h1;rw[decide_eq_false (by lia)] at q;exact q
  ·rw[List.length_map] at h1;refine eo (λh2=>⟨_,aE.of h.rc,_,jd (by lia) (by lia),?_⟩) (λh2=>?_)
   ·walk_at "rdm";have e:decide (c<P.rc.getD r.toNat 0)=decide (0<=r/\r<P.rc.length/\0<=c/\c<P.rc.getD r.toNat 0):=by
     by_cases h3:c<P.rc.getD r.toNat 0
     ·rw[decide_eq_true h3,decide_eq_true ⟨by lia,by lia,h2,h3⟩]
     ·rw[decide_eq_false h3,decide_eq_false (by lia)]
    rw[e];exact q
   ·rw[decide_eq_false (by lia)] at q;exact q
theorem aeQ(T:Tx K mg A)(az:aj mg base A.aY A.aQ)(aA:aj mg base A.aZ A.aU)(aB:aj mg base A.a_ A.aV):aW P w K mg base bu 1 A.vh A.Aq ["self", "number"] (aa4 K):=by
 refine T.Ru.ok ad9 (λvs H Q E h=>?_) (λaR Ar outer s H vs Q E hr h=>?_)
 ·obtain⟨C,p,P,fp,k,rfl,_⟩:=h
  rfl
 ·obtain⟨C,p,P,fp,k,rfl,hP,h0,h1,q⟩:=h;obtain⟨dx,a1,a2,a3,a4,ts,fs,rfl,h⟩:=hP;refine⟨_,(aH (cy (PW.pt (gn (bM gB (pv 1) aF (bK _)) (gU (bM qt (pv 1) (cQ gb rfl T.fz boot_len (aa (bF (pv 0) rfl) au)) (bK _))))) e8 cE)
   (aK (bD (bR cS (bF (pv 0) rfl) (pv 1) (λ_ _=>rfl))))),?_⟩
  wp_walk using h.o,h.f1,h.f2,h.f3,h.f4,h.f5,h.f6,h.m1,h.m2,h.m3,h.m4,h.m5,h.m6,h.m7,h.m8,h.m9,h.gJ,h.ia,h.cp.cl,h.cp.n1,h.cp.n2,h.cp.n3,h.cp.n4,h.cp.n5,h.cp.n6;have hn:=h.nc.n;refine⟨by lia,_,.inl h.nc.sq,by rw[List.length_map];lia,?_⟩
  have hk:k.toNat<ts.length:=by lia
  have g1:(ts.map V.ref)[k.toNat]? = some (V.ref ts[k.toNat]):=by simp[hk]
  obtain⟨t,q',e1,e2,e3⟩:=h.nc.at g1;have ek:k=(k.toNat:Int):=by lia
  refine⟨_,h.nc.sq,V.ref ts[k.toNat],?_,?_⟩
  ·have:=fG g1;rwa [← ek] at this
  ·rw[e1];exact q t q' e2 e3
theorem aeR(T:Tx K mg A)(az:aj mg base A.aY A.aQ)(aA:aj mg base A.aZ A.aU)(aB:aj mg base A.a_ A.aV):aW P w K mg base bu 1 A.AA A.AB ["asks", "number"] (abA K A.aX):=by
 refine T.Iq.ok aed (λvs H Q E h=>?_) (λaR Ar outer s H vs Q E hr h=>?_)
 ·obtain⟨la,ps,qs,k,q',rfl,_⟩:=h
  rfl
 ·obtain⟨la,ps,qs,k,q',rfl,ha,hk,up,q⟩:=h;refine⟨_,(aK (cy (PW.pt (L4 (bM jU (pv 1) aF (bK _)) (L3 (bM gB (bF (bR cS (pv 0) (pv 1) (λ_ _=>rfl)) rfl) (bF (bR cS (pv 0) (bq jz (pv 1) aF) (λ_ _=>rfl)) rfl) (bK _))))) e8 cE)),?_⟩;walk_at "rdt";refine eo (λh0=>?_) (λh0=>q)
  obtain⟨p,m,b,dx,e1,a1⟩:=ha.at hk;have Jl:=(List.getElem?_eq_some_iff.mp hk).1;have h1:k - 1<qs.length:=by lia
  obtain⟨p0,m0,b0,Tz,e2,a2⟩:=ha.at (List.getElem?_eq_getElem h1);have up':=up _ (by lia) (List.getElem?_eq_getElem h1)
  have e2':gq (ps.map V.ref) ((k:Int) - 1)=some (.ref p0):=by
   have:=fG e2;rwa [show ((k - 1:Nat):Int)=(k:Int) - 1 by lia] at this
  refine⟨_,aE.of ha.l,_,fG e1,_,rfl,_,_,_,a1.o,T.jL,T.n8,_,rfl,_,aE.of ha.l,_,e2',_,rfl,_,_,_,a2.o,T.jL,T.n8,_,rfl,_,rfl,_,rfl,by lia,q⟩
theorem aeS(T:Tx K mg A)(az:aj mg base A.aY A.aQ)(aA:aj mg base A.aZ A.aU)(aB:aj mg base A.a_ A.aV):aW P w K mg base bu 1 A.AD A.AE ["asks", "number"] (abB K A.aX):=by
 refine T.Ir.ok PM (λvs H Q E h=>?_) (λaR Ar outer s H vs Q E hr h=>?_)
 ·obtain⟨la,ps,qs,k,q',rfl,_⟩:=h
  rfl
 ·obtain⟨la,ps,qs,k,q',rfl,ha,hk,bl,bh,q⟩:=h;refine⟨_,(aK (dY PassesOwn.never rfl (DI (bF (bR cS (pv 0) (pv 1) (λ_ _=>rfl)) rfl)) (bH (i:=2) PM.nd rfl (Or.inl rfl))
   (aK (cy (PW.pt (gn (bM qt (pv 2) (pv 1) (bK _)) (gU (bM mZ (bF (bR cS (pv 0) (pv 2) (λ_ _=>rfl)) rfl) fD (bK _))))) e8 cE)))),?_⟩
  walk_at "rdt";obtain⟨p,m,b,dx,e1,a1⟩:=ha.at hk;refine rt b (q'.behind.map V.int) (λi σ H'=>∃(x:Option V),σ = [some (.ref la),some (.int (k:Int)),x]/\H' = H) (λQ q=>?_) (bE.of a1.bh) ⟨none,rfl,rfl⟩ (by rintro i σ H' _ ⟨_,rfl,rfl⟩;exact bE.of a1.bh) ?_ ?_
  ·walk_at "rdm";exact⟨_,aE.of ha.l,_,fG e1,_,rfl,_,_,_,a1.o,T.jL,T.vN,_,rfl,q⟩
  ·rintro i x σ H' N hN hx ⟨x0,rfl,rfl⟩;obtain⟨n,hn,rfl⟩:=ff hx;obtain⟨j,q0,rfl,hj,e2,kr⟩:=bh n (List.mem_of_getElem? hn);obtain⟨p0,m0,b0,Tz,e3,a2⟩:=ha.at e2;walk_at "rdm";exact⟨by lia,_,aE.of ha.l,_,fG e3,_,rfl,_,_,_,a2.o,T.jL,T.vL,_,rfl,rfl,λz=>kr (V.str.inj z),hN _ _ ⟨_,rfl,rfl⟩⟩
  ·rintro σ H' ⟨x0,rfl,rfl⟩;exact q
theorem aeT(T:Tx K mg A)(az:aj mg base A.aY A.aQ)(aA:aj mg base A.aZ A.aU)(aB:aj mg base A.a_ A.aV):aW P w K mg base bu 1 A.AL A.AM ["self"] (acU K A.bJ A.aX A.bG):=by
 refine T.RQ.ok PR (λvs H Q E h=>?_) (λaR Ar outer s H vs Q E hr h=>?_)
 ·obtain⟨x,dx,kp,ks,kk,p,r,b,Dx,ls,rfl,_⟩:=h
  rfl
 ·obtain⟨x,dx,kp,ks,kk,p,r,b,Dx,ls,rfl,hc,l1,q⟩:=h;have hn:=hc.n;have ho:=hc.o;unfold dW at ho;refine⟨_,(aH (OW (xK (i:=1) PR.nd rfl (Or.inl rfl) (N:=["due"]) (nt:=1) (fv:=[]) (dw.of rfl rfl (by rfl) (by rfl) (by repeat (first | exact trivial | refine⟨rfl,?_⟩)) (by rfl) (by rfl) (by rfl) (by decide) (by decide +kernel)) rfl (OR (bF (pv 0) rfl)) (λC s H fp=>(bH (i:=0) (show List.Nodup (["due"]:List Str) by decide +kernel) rfl (Or.inl rfl))) (λC s H fp=>kZ) (λC s H fp=>(eV (K:=K) rfl (eV (K:=K) rfl (pv 0) rfl) rfl))))
   (aK (cL (pv 0) (cQ (YD rfl) rfl T.vW boot_max (aa (bF (pv 0) rfl) (aa (acM rfl T.lG rfl (pv 1) (bF (pv 0) rfl)) au))) rfl))),?_⟩
  refine OX Dx (cO ls) (λob D i ys aq H2=>∃(u:Option V),ys=(ls.take i).map (λy=>V.int y.1.q.at_)/\aq = [u]/\H2 D=some (.lst ys)/\H2 Dx=some (.cI ob (.dK (cO ls)))/\bW x Dx H H2/\H D=none/\H2 x=H x) (λQ q=>?_) hc.d hc.nf ?_ ?_ ?_ ?_
  ·wp_walk using T,ho;exact q
  ·intro ob D nD;have n1:Dx≠D:=bX hc.d nD;have n2:x≠D:=bX hc.o nD;have n3:=hc.ne;exact⟨none,rfl,rfl,aI,by rw[aD n1,aI],(bW.of (λ_ _ e=>e)).q_.put nD,nD,by rw[aD n2,aD n3]⟩
  ·rintro ob D i ys aq H2 ⟨u,rfl,rfl,e1,e2,e3,e4,e5⟩;exact⟨e1,g9 (by simp only[List.length_map,List.length_take];lia),e2⟩
  ·rintro ob D i y ys aq H2 N hN hy ⟨u,rfl,rfl,e1,e2,e3,e4,e5⟩;unfold cO at hy;obtain⟨z,hz,rfl⟩:=ff hy;have hi:i<ls.length:=d7 hz;have pU:z=ls[i]:=by rw[List.getElem?_eq_getElem hi] at hz;exact(Option.some.inj hz).symm
   subst pU;obtain⟨eu,ap,l,ts,m,b',bC,hD⟩:=hc.rm e3 (hc.t _ (List.getElem_mem hi));have dg:=hD.o;have ou:=hD.a.o;unfold ig at dg;unfold fh at ou;wp_walk using T,dg,ou;have n1:Dx≠D:=bX hc.d e4;have n2:x≠D:=bX hc.o e4;refine⟨e1,hN _ _ _ ⟨_,?_,rfl,aI,by rw[aD n1];exact e2,e3.put e4,e4,by rw[aD n2];exact e5⟩⟩
   rw[take_succ_get (List.getElem?_eq_getElem hi),List.map_append];rfl
  ·rintro ob D ys aq H2 ⟨u,rfl,rfl,e1,e2,e3,e4,e5⟩;have n1:Dx≠D:=bX hc.d e4;have n3:=hc.ne;have jV:upd H2 Dx (.dK (cO ls)) x=some (.ins A.bJ dx [("keeping",V.ref kp),("plate",V.ref p),("ring",V.int r),("beat",V.int b),("left",V.ref Dx)]):=by rw[aD n3,e5];exact ho
   rw[uC,List.take_length] at e1;wp_walk using T,OS,jV;refine⟨ls.map (λy=>y.1.q.at_),aE.of (by rw[aD (Ne.symm n1),List.map_map];exact e1),by rw[List.length_map];lia,λM hM hl=>?_⟩
   have bc:bW x Dx H (upd (upd H2 Dx (.dK (cO ls))) x (.ins A.bJ dx [("keeping",V.ref kp),("plate",V.ref p),("ring",V.int r),("beat",V.int (if b<M then M else b)),("left",V.ref Dx)])):=e3.q_.Fv
   refine q _ _ ⟨M,?_,λy hy=>hl _ (List.mem_map.mpr ⟨y,hy,rfl⟩),rfl⟩ bc (hc.step bc (.refl _) aI (by rw[aD (Ne.symm n3),aI]))
   obtain⟨y,hy,e⟩:=List.mem_map.mp hM;exact⟨y,hy,e⟩
theorem aeU(T:Tx K mg A)(az:aj mg base A.aY A.aQ)(aA:aj mg base A.aZ A.aU)(aB:aj mg base A.a_ A.aV):aW P w K mg base bu 1 A.AN A.AO ["self", "number"] (acV K A.bJ A.aX A.bG):=by
 refine T.RU.ok aee (λvs H Q E h=>?_) (λaR Ar outer s H vs Q E hr h=>?_)
 ·obtain⟨x,dx,kp,ks,kk,p,r,b,Dx,ls,n,ns,rfl,_⟩:=h
  rfl
 ·obtain⟨x,dx,kp,ks,kk,p,r,b,Dx,ls,n,ns,rfl,hc,hk,hn,q⟩:=h;have hu:=j5 hr;have ho:=hc.o;unfold dW at ho;have hkn:=hc.k.n;have hnk:n<kk.length:=d7 hk;have aeV:n<ks.length:=by lia
  have xg:=List.getElem?_eq_getElem aeV;have TF:=hc.k.t n _ ns xg hk;refine⟨_,(aK (bD (cQ (NU rfl) rfl T.vV boot_any (aa (iP (N:=["other", "self"]) (nt:=1) (fv:=[0]) (dw.of rfl rfl (by rfl) (by rfl) (by repeat (first | exact trivial | refine⟨rfl,?_⟩)) (by rfl) (by rfl) (by rfl) (by decide) (by decide +kernel)) rfl (DI (bR cS (bF (pv 0) rfl) (pv 1) (λ_ _=>rfl))) (λC s H fp=>(bH (i:=0) (show List.Nodup (["other", "self"]:List Str) by decide +kernel) rfl (Or.inl rfl))) (λC s H fp=>kZ) (λC s H fp=>(L0 (Eb hu (pv 0) (eV (K:=K) rfl (pv 1) rfl))))) au)))),?_⟩
  walk_at "rdt";refine acQ ks[n] (ns.map V.int) (λD i ys aq H2=>∃(u:Option V),ys=((ns.take i).map (kq ls)).map V.bl/\aq = [u,some (.ref x)]/\H2 D=some (.lst ys)/\ah H H2/\H D=none) (λQ q=>?_) (bE.of TF) ?_ ?_ ?_ ?_
  ·wp_walk using T,ho;exact⟨_,aE.of hc.k.l,_,fG (by rw[List.getElem?_map,xg];rfl),q⟩
  ·intro D nD;exact⟨none,rfl,rfl,aI,ah.put nD,nD⟩
  ·rintro D i ys aq H2 ⟨u,rfl,rfl,e1,e2,e3⟩;exact⟨e1,g9 (by simp only[List.length_map,List.length_take];lia),bE.of (e2 _ _ TF)⟩
  ·rintro D i y ys aq H2 N hN hy ⟨u,rfl,rfl,e1,e2,e3⟩;obtain⟨m,hm,rfl⟩:=ff hy;have jV:=e2 _ _ ho;have hd2:=e2 _ _ hc.d;wp_walk using T,jV;refine⟨_,fQ.k (k:=cN m) hd2,e1,hN _ _ _ ⟨_,?_,rfl,aI,ah.put2 e2 e3,e3⟩⟩;rw[take_succ_get hm,List.map_append,List.map_append,OZ];rfl
  ·rintro D ys aq H2 ⟨u,rfl,rfl,e1,e2,e3⟩;rw[List.length_map,List.take_length] at e1;refine⟨D,rfl,_,aE.of e1,?_⟩;have ea:(ns.map (kq ls)).any id=ns.any (kq ls):=by rw[List.any_map];rfl
   rw[ea];exact q H2 e2
theorem aeW(T:Tx K mg A)(az:aj mg base A.aY A.aQ)(aA:aj mg base A.aZ A.aU)(aB:aj mg base A.a_ A.aV):aW P w K mg base bu 1 A.AV A.AW ["self", "rows", "taken", "told", "answers", "end"] (O4 A.dQ):=by
 refine T.R4.ok aef (λvs H Q E h=>?_) (λaR Ar outer s H vs Q E hr h=>?_)
 ·obtain⟨x,dx,v1,v2,v3,v4,v5,rfl,_⟩:=h
  rfl
 ·obtain⟨x,dx,v1,v2,v3,v4,v5,rfl,hx,q⟩:=h;refine⟨_,(aH (cL (pv 0) (pv 1) rfl)
   (aH (cL (pv 0) (pv 2) rfl)
   (aH (cL (pv 0) (pv 3) rfl)
   (aH (cL (pv 0) (pv 4) rfl)
   (aK (cL (pv 0) (pv 5) rfl)))))),?_⟩
  wp_walk using T,hx;exact q
theorem aeX(T:Tx K mg A)(az:aj mg base A.aY A.aQ)(aA:aj mg base A.aZ A.aU)(aB:aj mg base A.a_ A.aV):aW P w K mg base bu 1 A.AX A.AY ["rows"] (ac2 K):=by
 refine T.Iw.ok pK (λvs H Q E h=>?_) (λaR Ar outer s H vs Q E hr h=>?_)
 ·obtain⟨l,ts,z,rfl,_⟩:=h
  rfl
 ·obtain⟨l,ts,z,rfl,hz,z1,z5,q⟩:=h;have hu:=j5 hr;have TH:=hz.n;refine⟨_,(aH (bI (i:=1) pK.nd rfl (Or.inl rfl) tN)
   (aH (dY PassesOwn.never rfl (fE (pv 0)) (jy rfl (dJ (bH (i:=2) pK.nd rfl (Or.inl rfl)) (dJ (bH (i:=3) pK.nd rfl (Or.inl rfl)) (dJ (bH (i:=4) pK.nd rfl (Or.inl rfl)) (dJ (bH (i:=5) pK.nd rfl (Or.inl rfl)) (dJ (bH (i:=6) pK.nd rfl (Or.inl rfl)) jx))))))
   (aK (xw hu (pv 1) (pv 2) (pv 6) rfl)))
   (aK (bD (pv 1))))),?_⟩
  walk_at "rdt";intro kd mK;refine rl l (ts.map V.ref) (λi σ H'=>∃(u1 u2 u3 u4 u5:Option V) (kvs:List (Key×V)),σ = [some (.ref l),some (.ref kd),u1,u2,u3,u4,u5]/\ah H H'/\H' kd=some (.dK kvs)/\kvs.length<=i/\∀n:Int,(∃r∈z.take i,r.head? = some n)->∃e:Int,cC kvs (cN n)=some (.int e)) (λQ q=>⟨_,rfl,q⟩) (aE.of (ah.put mK _ _ hz.l)) ⟨none,none,none,none,none,[],rfl,ah.put mK,aI,Nat.le_refl _,λn ⟨r,hr,_⟩=>by simp at hr⟩ (by rintro i σ H' _ ⟨_,_,_,_,_,_,rfl,s',_⟩;exact aE.of (s' _ _ hz.l)) ?_ ?_
  ·rintro i x σ H' N hN hx ⟨u1,u2,u3,u4,u5,kvs,rfl,s',hk,hl,hv⟩;obtain⟨t,ht,rfl⟩:=ff hx;have hi:i<z.length:=by rw[← TH];exact d7 ht
   have Jm:=List.getElem?_eq_getElem hi;have hT:=s' _ _ (hz.t i t _ ht Jm);obtain⟨q1,q2,q3,q4,q5,e5⟩:=O3 (z5 _ (List.getElem_mem hi));rw[e5] at hT Jm;walk_at "rdt";refine⟨_,bE.of hT,rfl,_,_,rfl,_,_,rfl,_,_,rfl,_,_,rfl,_,_,rfl,rfl,?_⟩;refine⟨_,kW.k (k:=cN q1) hk (by rw[pe];lia),hN _ _ ⟨_,_,_,_,_,_,rfl,ah.put2 s' mK,aI,?_,λn hn=>?_⟩⟩
   ·have:=OF kvs (cN q1) (V.int q5);lia
   ·rw[xr];by_cases e:n=q1
    ·subst e;exact⟨q5,by simp⟩
    ·rw[if_neg (λz=>e (uB.mp z))];refine hv n ?_;rw[take_succ_get Jm] at hn;obtain⟨r,hr,hh⟩:=hn;rcases List.mem_append.mp hr with hr | hr
     ·exact⟨r,hr,hh⟩
     ·rw[List.mem_singleton.mp hr] at hh;exact absurd (Option.some.inj hh).symm e
  ·rintro σ H' ⟨u1,u2,u3,u4,u5,kvs,rfl,s',hk,hl,hv⟩;rw[List.length_map,TH,List.take_length] at hv;walk_at "rdm";exact q kd kvs H' s' mK hk hv
theorem aeY(T:Tx K mg A)(az:aj mg base A.aY A.aQ)(aA:aj mg base A.aZ A.aU)(aB:aj mg base A.a_ A.aV):aW P w K mg base bu 1 A.AZ A.A0 ["ask"] (ac3 K A.aX):=by
 refine T.Iz.ok aeg (λvs H Q E h=>?_) (λaR Ar outer s H vs Q E hr h=>?_)
 ·obtain⟨a,q',m,b,dx,rfl,_⟩:=h
  rfl
 ·obtain⟨a,q',m,b,dx,rfl,ha,f0,f1,m0,m1,q⟩:=h;have ou:=ha.o;unfold fh at ou;refine⟨_,(aK (bD (abi rfl T.pQ rfl T.gv rfl (aa (bF (pv 0) rfl) (aa (bq cG (bF (pv 0) rfl) (bF (pv 0) rfl)) au))))),?_⟩;wp_walk using T,ou;exact⟨by lia,by lia,by lia,by lia,by lia,λl nl=>q l ((List.range (q'.first+q'.many - q'.first).toNat).map λ(k:Nat)=>q'.first+(k:Int)) _ (ah.put nl) nl (by rw[List.length_map,List.length_range];lia) (by rw[aI,List.map_map];rfl)⟩
theorem aeZ(T:Tx K mg A)(az:aj mg base A.aY A.aQ)(aA:aj mg base A.aZ A.aU)(aB:aj mg base A.a_ A.aV):aW P w K mg base bu 1 A.A3 A.A4 ["asks", "ends", "shelf"] (O6 K A.aX):=by
 refine T.IB.ok rD (λvs H Q E h=>?_) (λaR Ar outer s H vs Q E hr h=>?_)
 ·obtain⟨la,ps,qs,E',kvs,sh,rfl,_⟩:=h
  rfl
 ·obtain⟨la,ps,qs,E',kvs,sh,rfl,ha,q1,hq,hE,hv,q⟩:=h;have hu:=j5 hr;have an:=ha.n;refine⟨_,(aH (bI (i:=3) rD.nd rfl (Or.inl rfl) (eO au))
   (aH (bI (i:=4) rD.nd rfl (Or.inl rfl) (eO au))
   (aH (bI (i:=5) rD.nd rfl (Or.inl rfl) (eO au))
   (aH (dY PassesOwn.never rfl (tW rfl T.oh (aa (pv 0) au)) (jy rfl (dJ (bH (i:=6) rD.nd rfl (Or.inl rfl)) (dJ (bH (i:=7) rD.nd rfl (Or.inr rfl)) jx)))
   (aK (cy (bM mZ (bF (pv 7) rfl) fD (bK _)) e8 (aK (cy (jv (bF (pv 7) rfl)) e8 (aK (dI (jY PySem.F.plainAttrs_list PySem.F.slot_list_append PySem.F.type_list_append kU (pv 3) (aa (Z8 hu (pv 1) (pv 6) (λ_ _=>rfl)) au)))))))))
   (aK (bD (pv 3))))))),?_⟩
  walk_at "rdt";intro t1 n1 t2 n2 t3 n3;have s3:=((ah.put (o:=.lst []) n1).trans (ah.put (o:=.lst []) n2)).trans (ah.put (o:=.lst []) n3);have h1:upd (upd (upd H t1 (.lst [])) t2 (.lst [])) t3 (.lst []) t1=some (.lst []):=((ah.put (o:=.lst []) n2).trans (ah.put (o:=.lst []) n3)) _ _ aI;generalize upd (upd (upd H t1 (.lst [])) t2 (.lst [])) t3 (.lst [])=H1 at *
  refine re la (ps.map V.ref) (λk σ H'=>∃(x1 x2:Option V) (ns:List Int),σ = [some (.ref la),some (.ref E'),some (.int sh),some (.ref t1),some (.ref t2),some (.ref t3),x1,x2]/\ah H H'/\H' t1=some (.lst (ns.map V.int))/\ns.length<=k) (λQ q=>?_) (aE.of (s3 _ _ ha.l)) ⟨none,none,[],rfl,s3,h1,Nat.le_refl _⟩ (by rintro i σ H' _ ⟨_,_,_,rfl,s1,_⟩;exact aE.of (s1 _ _ ha.l)) ?_ ?_
  ·walk_at "rdm";exact q
  ·rintro k x σ H' T1 N hN hx ⟨x1,x2,ns,rfl,s1,ht,hl⟩ hT;have TJ:k<ps.length:=by have:=(List.getElem?_eq_some_iff.mp hx).1;simpa using this
   have hk:k<qs.length:=by lia
   have iJ:=List.getElem?_eq_getElem hk;obtain⟨ap,m,b,dx,e1,a1⟩:=ha.at iJ;rw[e1] at hx;cases hx;have s2:=s1.trans (ah.put (o:=.tup [.int (k:Int),.ref ap]) hT);refine k6 (bE.of aI) rfl ?_;obtain⟨k1,k2⟩:=hq _ (List.getElem_mem hk);have a2:=(a1.same s2).o;unfold fh at a2;rw[k1,k2] at a2;have nk:((Str.ofString "read"):Str)≠"rest" := ES (by decide)
   obtain⟨e,he⟩:=hv (k:Int) (by lia) (by lia)
   wp_walk using T,a2;have TL:=ah.put (o:=.tup [.int (k:Int),.ref ap]) hT _ _ ht;refine⟨not_false,not_false,⟨_,aE.of TL⟩,_,he▸fQ.k (k:=cN (k:Int)) (s2 _ _ hE),_,TL,by rw[List.length_map];lia,hN _ _ ⟨_,_,ns++[e],rfl,ah.put2 s2 n1,by rw[aI,List.map_append];rfl,by rw[List.length_append,List.length_singleton];lia⟩⟩
  ·rintro σ H' ⟨x1,x2,ns,rfl,s1,ht,hl⟩;walk_at "rdm";exact q _ _ s1
theorem ow(T:Tx K mg A)(az:aj mg base A.aY A.aQ)(aA:aj mg base A.aZ A.aU)(aB:aj mg base A.a_ A.aV):aW P w K mg base bu 1 A.A7 A.A8 ["_law_script", "_law_k"] (jf K):=by
 refine T.lE.ok aeh (λvs H Q E h=>?_) (λaR Ar outer s H vs Q E hr h=>?_)
 ·obtain⟨a,ns,k,rfl,_⟩:=h
  rfl
 ·obtain⟨a,ns,k,rfl,hS,hl,k0,k1,q⟩:=h;refine⟨_,(aH (cy (bM gB (pv 1) (cQ gb rfl T.fz boot_len (aa (pv 0) au)) (bK _)) (aK (bD (bq cG (bR cS (pv 0) (pv 1) (λ_ _=>rfl)) (bq i6 aF (pv 1))))) cE)
   (aK (bD (bq i6 aF (pv 1))))),?_⟩
  walk_at "rdm";refine⟨_,.inl hS,eo (λh=>⟨_,hS,_,jd k0 (by simpa using h),?_⟩) λh=>?_⟩
  ·walk_at "rdm";exact q
  ·have e:Ex ns k=0:=by
    unfold Ex;rw[List.getD_eq_getElem?_getD,List.getElem?_eq_none (by simp at h;lia)];rfl
   unfold iT at q;rw[e,Int.zero_add] at q;exact q
theorem gw(T:Tx K mg A)(az:aj mg base A.aY A.aQ)(aA:aj mg base A.aZ A.aU)(aB:aj mg base A.a_ A.aV):aW P w K mg base bu 1 A.A9 A.A_ ["_law_cell_here", "_law_turn", "_law_many"] fH:=by
 refine T.fY.ok aei (λvs H Q E h=>?_) (λaR Ar outer s H vs Q E hr h=>?_)
 ·obtain⟨c,t,m,rfl,_⟩:=h
  rfl
 ·obtain⟨c,t,m,rfl,t0,t1,m0,q⟩:=h;refine⟨_,(aK (bD (bq lR (bq lR (bq i6 (bq cG (pv 0) aF) (bq cG aF (bq i6 (bq i6 aF (pv 1)) (pv 1)))) aF) (pv 2)))),?_⟩;walk_at "rdm";have a:=Int.mul_le_mul_of_nonneg_left t1 (show (0:Int)<=715225739 by decide)
  have a0:=Int.mul_nonneg (show (0:Int)<=715225739 by decide) t0
  have b:=Int.mul_le_mul a t1 t0 (by lia)
  have b0:=Int.mul_nonneg a0 t0;exact⟨.inr ⟨by lia,by lia⟩,.inr ⟨by lia,by lia⟩,m0,q⟩
theorem TM(T:Tx K mg A)(az:aj mg base A.aY A.aQ)(aA:aj mg base A.aZ A.aU)(aB:aj mg base A.a_ A.aV):aW P w K mg base bu 1 A.Bk A.Bl ["_law_asks", "_law_least", "_law_most"] (adq K A.aX):=by
 refine T.BF.ok aej (λvs H Q E h=>?_) (λaR Ar outer s H vs Q E hr h=>?_)
 ·obtain⟨la,ps,qs,lo,most,rfl,_⟩:=h
  rfl
 ·obtain⟨la,ps,qs,lo,most,rfl,ha,q1,q2,m1,hq,q⟩:=h;have pW:=hr.oV;refine⟨_,(aH (cy (PW.pt (gn (jw (jv (cQ xN rfl T.pO boot_isinstance (aa (pv 0) (aa (wN (v:=.ty "list") rfl T.pQ boot_list rfl) au))))) (gU (jw (Mp qq qq (pv 1) (cQ gb rfl T.fz boot_len (aa (pv 0) au)) (pv 2)))))) (aK (bD iA)) cE)
   (aK (bD (cQ (abf rfl) rfl T.BY boot_all (aa (iP (N:=["_law_ask"]) (nt:=1) (fv:=[]) (dw.of rfl rfl (by rfl) (by rfl) (by repeat (first | exact trivial | refine⟨rfl,?_⟩)) (by rfl) (by rfl) (by rfl) (by decide) (by decide +kernel)) rfl (fE (pv 0)) (λC s H fp=>(bH (i:=0) (show List.Nodup (["_law_ask"]:List Str) by decide +kernel) rfl (Or.inl rfl))) (λC s H fp=>kZ) (λC s H fp=>(wR (qu mZ (eV (K:=K) rfl (pv 0) rfl) fD (bK _)) (wQ (qu (ac_ pW) (eV (K:=K) rfl (pv 0) rfl) (gZ au) (bK _)))))) au))))),?_⟩
  walk_at "rdt";have an:=ha.n;refine⟨_,gD.lst ha.l,true,rfl,?_⟩;refine⟨_,.inl (aE.of ha.l),?_⟩;rw[List.length_map,if_pos (by lia),if_neg (by lia)]
  refine j9 la (ps.map V.ref) (λD i ys aq H2=>∃(u:Option V),ys=(List.replicate i true).map V.bl/\i<=qs.length/\aq = [u]/\H2 D=some (.lst ys)/\ah H H2/\H D=none) (λQ q=>⟨_,rfl,q⟩) (aE.of ha.l) ?_ ?_ ?_ ?_
  ·intro D nD;exact⟨none,rfl,Nat.zero_le _,rfl,aI,ah.put nD,nD⟩
  ·rintro D i ys aq H2 ⟨u,rfl,hi,rfl,e1,e2,e3⟩;exact⟨e1,g9 (by rw[List.length_map,List.length_replicate];lia),aE.of (e2 _ _ ha.l)⟩
  ·rintro D i y ys aq H2 N hN hy ⟨u,rfl,hi,rfl,e1,e2,e3⟩;have gH:i<ps.length:=by have:=d7 hy;simpa using this
   have hk:i<qs.length:=by lia
   obtain⟨ap,m,b,dx,g1,a1⟩:=ha.at (List.getElem?_eq_getElem hk);rw[g1] at hy;cases hy;obtain⟨k1,k3⟩:=hq _ (List.getElem_mem hk);have a2:=(a1.same e2).o;have hb:=(a1.same e2).bh;unfold fh at a2;rw[k1] at a2;rw[k3] at hb;wp_walk using T,a2;intro pt npt;have sp:=ah.put (o:=.tup []) npt;refine⟨[],sp _ _ hb,[],rfl,sp _ _ e1,hN _ _ _ ⟨_,?_,by lia,rfl,aI,ah.put2 (e2.trans sp) e3,e3⟩⟩
   rw[List.replicate_succ',List.map_append];rfl
  ·rintro D ys aq H2 ⟨u,rfl,hi,rfl,e1,e2,e3⟩;refine⟨D,rfl,_,aE.of e1,?_⟩;rw[List.all_replicate];simpa using q H2 e2
theorem ae0(T:Tx K mg A)(az:aj mg base A.aY A.aQ)(aA:aj mg base A.aZ A.aU)(aB:aj mg base A.a_ A.aV):aW P w K mg base bu 2 A.yY A.yZ ["behind"] (abn K):=by
 refine T.Hy.ok yO (λvs H Q E h=>?_) (λaR Ar outer s H vs Q E hr h=>?_)
 ·obtain⟨b,ns,rfl,_⟩:=h
  rfl
 ·obtain⟨b,ns,rfl,hS,hR,q⟩:=h;refine⟨_,(aH (bI (i:=1) yO.nd rfl (Or.inl rfl) (s_ tD aF))
   (aK (dY PassesOwn.never rfl (DI (pv 0)) (bH (i:=2) yO.nd rfl (Or.inl rfl))
   (aH (dI (br (rP T az aA aB) (hr.mono (by decide)) rfl T.pN T.nZ.kp T.pM .nil aO (aa (pv 2) (aa (bq cG (pv 1) aF) (aa (gA (v:=.int 99) rfl T.S_ ⟨_,rfl⟩) (aa fD au))))))
   (aK (bI (i:=1) yO.nd rfl (Or.inl rfl) (pv 2))))))),?_⟩
  walk_at "rdm";refine rt b (ns.map V.int) (λi σ H'=>∃x,σ = [some (.ref b),some (.int (ue (-1) ns i)),x]/\H' = H) (λQ q=>⟨_,rfl,q⟩) hS ⟨none,rfl,rfl⟩ (by rintro i σ H' _ ⟨x,rfl,rfl⟩;exact hS) ?_ ?_
  ·rintro i x σ H' N hN hx ⟨x0,rfl,rfl⟩;obtain⟨n,hn,rfl⟩:=ff hx;have st:=hR.step hn;walk_at "rdm";exact⟨n,_,99,_,rfl,st.1,st.2,hN _ _ ⟨some (.int n),by rw[abl hn],rfl⟩⟩
  ·rintro σ H' ⟨x0,rfl,rfl⟩;walk_at "rdm";exact q
theorem ae1(T:Tx K mg A)(az:aj mg base A.aY A.aQ)(aA:aj mg base A.aZ A.aU)(aB:aj mg base A.a_ A.aV):aW P w K mg base bu 2 A.uS A.rH ["dues"] (ach K A.aX A.bG A.aV (cg eU) (b_ "latest_of")):=by
 refine T.HK.EY PF (λvs H Q E h=>?_) (λAr outer s H vs Q E hr h=>?_)
 ·obtain⟨D,ps,ds,rfl,_⟩:=h
  rfl
 ·obtain⟨D,ps,ds,rfl,hd,d1,eX,T0,q⟩:=h;have d9:=hd.n;have iR:(Ar.deeper (envOfC "latest_of" (aP eU) s.heap.objs.size A.uS A.rH.code)).in1.depth<recursionLimit:=hr.depth;have vY:_+16<cLine:=Nat.lt_of_le_of_lt (Nat.add_le_add_left (by decide:16<=64) _) hr.units
  refine⟨_,(aH (xK (i:=1) PF.nd rfl (Or.inl rfl) (N:=["due"]) (nt:=1) (fv:=[]) (dw.of rfl rfl (by rfl) (by rfl) (by repeat (first | exact trivial | refine⟨rfl,?_⟩)) (by rfl) (by rfl) (by rfl) (by decide) (by decide +kernel)) rfl (fE (pv 0)) (λC s H fp=>(bH (i:=0) (show List.Nodup (["due"]:List Str) by decide +kernel) rfl (Or.inl rfl))) (λC s H fp=>(nu (bM DP (eV (K:=K) rfl (eV (K:=K) rfl (pv 0) rfl) rfl) oK (bK _)))) (λC s H fp=>(pv 0)))
   (aH (cy (jw (qw (pv 1) (λ_=>rfl))) (aK (bD (br (aeF T az aA aB) (hr.mono (by decide)) rfl T.Qd T.HF.kp T.Qc .nil aO (aa (pv 0) au)))) cE)
   (aK (bD (bF (E7 (c:=A.a_) (P:=A.aV) (ps:=["due"]) (fs:=[]) (fv:=[]) rfl T.lG aB T.Tn (je.of rfl rfl rfl rfl (by rfl) (by rfl) (by repeat (first | exact trivial | refine⟨rfl,?_⟩)) (by rfl) (by rfl) (by rfl) (by decide +kernel)) rfl rfl rfl (λ_ _ _ _=>rfl) (λf c2 s2 H2=>(gZ (aa (eV (K:=K) rfl (eV (K:=K) rfl (pv 0) rfl) rfl) (aa (eV (K:=K) rfl (pv 0) rfl) au)))) rfl iR vY (pv 1)) rfl))))),?_⟩
  walk_at "rdt";refine j9 D (ps.map V.ref) (λD2 i ys aq H2=>∃(u:Option V) (as:List Addr),ys=as.map V.ref/\aq = [u]/\H2 D2=some (.lst ys)/\ah H H2/\H D2=none/\jh K A.aX A.bG H as (fJ (ds.take i))) (λQ q=>⟨_,rfl,q⟩) (aE.of hd.l) ?_ ?_ ?_ ?_
  ·intro D2 hD;exact⟨none,[],rfl,rfl,aI,ah.put hD,hD,jh.nil⟩
  ·rintro D2 i ys aq H2 ⟨u,as,rfl,rfl,e1,e2,e3,e4⟩;have:=acj (ds.take i);rw[List.length_take] at this;exact⟨e1,g9 (by rw[List.length_map,e4.n];lia),aE.of (e2 _ _ hd.l)⟩
  ·rintro D2 i x ys aq H2 N hN hx ⟨u,as,rfl,rfl,e1,e2,e3,e4⟩;obtain⟨dp,fM,rfl⟩:=ff hx;have hi:i<ds.length:=by rw[← d9];exact d7 fM
   have fU:=hd.t i dp ds[i] fM (List.getElem?_eq_getElem hi);refine(hd.same e2).el i dp ds[i] fM (List.getElem?_eq_getElem hi) λdx ap l ts m b' bC hD=>?_;have st:=ack hi;have dg:=hD.o;have hda:=hD.a.o;unfold ig at dg;wp_walk using T,dg,hda,fh;generalize ds[i] = d at *
   cases hl:d.q.gK with
   | none =>
    rw[hl] at st;refine ite_no (by simp[k_]) (hN _ _ _ ⟨_,as,rfl,rfl,e1,e2,e3,?_⟩)
    rw[st];exact e4
   | some x =>
    rw[hl] at st;refine ite_yes (by simp[k_]) ⟨e1,hN _ _ _ ⟨_,as++[dp],by rw[List.map_append];rfl,rfl,aI,ah.put2 e2 e3,e3,?_⟩⟩
    rw[st];exact e4.snoc fU
  ·rintro D2 ys aq H2 ⟨u,as,rfl,rfl,e1,e2,e3,e4⟩;rw[List.length_map,d9,List.take_length] at e4;refine⟨_,.inl ⟨_,aE.of e1,rfl⟩,eo (λh0=>?_) λh0=>?_⟩
   ·have hz:as = []:=by cases as with
     | nil=>rfl
     | cons _ _=>cases h0
    have hb:fJ ds = []:=List.length_eq_zero_iff.mp (by rw[← e4.n,hz];rfl)
    exact⟨D,ps,ds,rfl,hd.same e2,d1,eX,λd H' s' kR=>q d H' (λb o e _=>s' _ _ (e2 _ _ e)) ((T0.same e2).same s') (acn hb kR)⟩
   ·have T2:=T0.same e2;have ha:0<as.length:=by cases as with
     | nil=>exact absurd rfl h0
     | cons _ _=>exact Nat.succ_pos _
    refine⟨D2,rfl,as,e1,ha,T2,uy (fJ ds),λj a H3 hj sb tb=>?_,λi a H3 hi least sb tb=>?_⟩
    ·have kt:=(cu.of e2).trans (T2.iW sb);have iE:j<(fJ ds).length:=by rw[← e4.n];exact d7 hj
     obtain⟨dx,ap,l,ts,m,b',bC,hD⟩:=e4.t j a (fJ ds)[j] hj (List.getElem?_eq_getElem iE);have oz:=hD.kt kt;have hm:=(List.mem_filter.mp (List.getElem_mem iE)).2;rw[Fb (List.getElem?_eq_getElem iE)];generalize (fJ ds)[j] = d at *
     obtain⟨x,hx⟩:=Option.isSome_iff_exists.mp hm;refine⟨_,_,_,oz.o,T.mG,T.BS,_,rfl,ap,rfl,_,_,_,oz.a.o,T.jL,T.vM,_,rfl,_,_,_,oz.o,T.mG,T.mH,_,rfl,λp np=>⟨?_,λ_ _ e _=>ah.put np _ _ e,tb.same (ah.put np)⟩⟩;rw[hx]
     rfl
    ·have kt:=(cu.of e2).trans (T2.iW sb);have h_:i<(fJ ds).length:=by rw[← e4.n];exact d7 hi
     obtain⟨dx,ap,l,ts,m,b',bC,hD⟩:=e4.t i a (fJ ds)[i] hi (List.getElem?_eq_getElem h_);have oz:=hD.kt kt;rw[e4.n] at least;exact⟨_,_,_,oz.o,T.mG,T.mH,_,rfl,q _ H3 (λb o e ne=>sb _ _ (e2 _ _ e) ne) tb (acm (List.getElem?_eq_getElem h_) least)⟩
theorem Jo(T:Tx K mg A)(az:aj mg base A.aY A.aQ)(aA:aj mg base A.aZ A.aU)(aB:aj mg base A.a_ A.aV):aW P w K mg base bu 2 A.zL A.zM ["inward", "ring", "dues"] (acu K A.aX A.bG):=by
 refine T.vK.ok adV (λvs H Q E h=>?_) (λaR Ar outer s H vs Q E hr h=>?_)
 ·obtain⟨i,r,D,ps,ds,rfl,_⟩:=h
  rfl
 ·obtain⟨i,r,D,ps,ds,rfl,hd,eX,hc,q⟩:=h;have d9:=hd.n;refine⟨_,(aH (cy (jv (pv 0)) (aK (bD (iP (N:=["due", "ring"]) (nt:=1) (fv:=[1]) (dw.of rfl rfl (by rfl) (by rfl) (by repeat (first | exact trivial | refine⟨rfl,?_⟩)) (by rfl) (by rfl) (by rfl) (by decide) (by decide +kernel)) rfl (fE (pv 2)) (λC s H fp=>(bH (i:=0) (show List.Nodup (["due", "ring"]:List Str) by decide +kernel) rfl (Or.inl rfl))) (λC s H fp=>(nu (bM qt (br (Jd T az aA aB) (hr.mono (by decide)) rfl T.Bx T.vH.kp T.Bw .nil aO (aa (pv 0) au)) (pv 1) (bK _)))) (λC s H fp=>(pv 0))))) cE)
   (aK (bD (iP (N:=["due", "ring"]) (nt:=1) (fv:=[1]) (dw.of rfl rfl (by rfl) (by rfl) (by repeat (first | exact trivial | refine⟨rfl,?_⟩)) (by rfl) (by rfl) (by rfl) (by decide) (by decide +kernel)) rfl (fE (pv 2)) (λC s H fp=>(bH (i:=0) (show List.Nodup (["due", "ring"]:List Str) by decide +kernel) rfl (Or.inl rfl))) (λC s H fp=>(nu (bM qq (br (Jd T az aA aB) (hr.mono (by decide)) rfl T.Bx T.vH.kp T.Bw .nil aO (aa (pv 0) au)) (pv 1) (bK _)))) (λC s H fp=>(pv 0)))))),?_⟩
  walk_at "rdm";refine eo (λhi=>?_) λhi=>?_
  ·subst hi;refine j9 D (ps.map V.ref) (λD2 k ys aq H2=>∃(u:Option V) (as:List Addr),ys=as.map V.ref/\aq = [u,some (.int r)]/\H2 D2=some (.lst ys)/\ah H H2/\H D2=none/\jh K A.aX A.bG H as (ez true r (ds.take k))) (λQ q=>⟨_,rfl,q⟩) (aE.of hd.l) ?_ ?_ ?_ ?_
   ·intro D2 hD;exact⟨none,[],rfl,rfl,aI,ah.put hD,hD,jh.nil⟩
   ·rintro D2 k ys aq H2 ⟨u,as,rfl,rfl,e1,e2,e3,e4⟩;have:=yt true r (ds.take k);rw[List.length_take] at this;exact⟨e1,g9 (by rw[List.length_map,e4.n];lia),aE.of (e2 _ _ hd.l)⟩
   ·rintro D2 k x ys aq H2 N hN hx ⟨u,as,rfl,rfl,e1,e2,e3,e4⟩;obtain⟨dp,fM,rfl⟩:=ff hx;have hk:k<ds.length:=by rw[← d9];exact d7 fM
    have fU:=hd.t k dp ds[k] fM (List.getElem?_eq_getElem hk);refine(hd.same e2).el k dp ds[k] fM (List.getElem?_eq_getElem hk) λdx ap l ts m b' bC hD=>?_;have st:=OH (i:=true) (r:=r) hk;walk_at "rdm";refine⟨dp,ds[k],dx,ap,l,ts,m,b',bC,rfl,hD,hc _ (List.getElem_mem hk),_,rfl,eo (λh1=>?_) λh1=>?_⟩
    ·rw[if_pos (show l_ true r ds[k] = true from decide_eq_true h1)] at st;refine⟨e1,hN _ _ _ ⟨_,as++[dp],by rw[List.map_append];rfl,rfl,aI,ah.put2 e2 e3,e3,?_⟩⟩
     rw[st];exact e4.snoc fU
    ·rw[if_neg (λz:l_ true r ds[k] = true=>h1 (of_decide_eq_true z))] at st;refine hN _ _ _ ⟨_,as,rfl,rfl,e1,e2,e3,?_⟩;rw[st];exact e4
   ·rintro D2 ys aq H2 ⟨u,as,rfl,rfl,e1,e2,e3,e4⟩;rw[List.length_map,d9,List.take_length] at e4;exact q D2 as H2 e2 e3 ⟨e1,e4.n,λi a d h1 h2=>let ⟨dx,ap,l,ts,m,b,bC,hD⟩:=e4.t i a d h1 h2;⟨dx,ap,l,ts,m,b,bC,hD.same e2⟩⟩
  replace hi:i=false:=by simpa using hi
  ·subst hi;refine j9 D (ps.map V.ref) (λD2 k ys aq H2=>∃(u:Option V) (as:List Addr),ys=as.map V.ref/\aq = [u,some (.int r)]/\H2 D2=some (.lst ys)/\ah H H2/\H D2=none/\jh K A.aX A.bG H as (ez false r (ds.take k))) (λQ q=>⟨_,rfl,q⟩) (aE.of hd.l) ?_ ?_ ?_ ?_
   ·intro D2 hD;exact⟨none,[],rfl,rfl,aI,ah.put hD,hD,jh.nil⟩
   ·rintro D2 k ys aq H2 ⟨u,as,rfl,rfl,e1,e2,e3,e4⟩;have:=yt false r (ds.take k);rw[List.length_take] at this;exact⟨e1,g9 (by rw[List.length_map,e4.n];lia),aE.of (e2 _ _ hd.l)⟩
   ·rintro D2 k x ys aq H2 N hN hx ⟨u,as,rfl,rfl,e1,e2,e3,e4⟩;obtain⟨dp,fM,rfl⟩:=ff hx;have hk:k<ds.length:=by rw[← d9];exact d7 fM
    have fU:=hd.t k dp ds[k] fM (List.getElem?_eq_getElem hk);refine(hd.same e2).el k dp ds[k] fM (List.getElem?_eq_getElem hk) λdx ap l ts m b' bC hD=>?_;have st:=OH (i:=false) (r:=r) hk;walk_at "rdm";refine⟨dp,ds[k],dx,ap,l,ts,m,b',bC,rfl,hD,hc _ (List.getElem_mem hk),_,rfl,eo (λh1=>?_) λh1=>?_⟩
    ·rw[if_pos (show l_ false r ds[k] = true from decide_eq_true h1)] at st;refine⟨e1,hN _ _ _ ⟨_,as++[dp],by rw[List.map_append];rfl,rfl,aI,ah.put2 e2 e3,e3,?_⟩⟩
     rw[st];exact e4.snoc fU
    ·rw[if_neg (λz:l_ false r ds[k] = true=>h1 (of_decide_eq_true z))] at st;refine hN _ _ _ ⟨_,as,rfl,rfl,e1,e2,e3,?_⟩;rw[st];exact e4
   ·rintro D2 ys aq H2 ⟨u,as,rfl,rfl,e1,e2,e3,e4⟩;rw[List.length_map,d9,List.take_length] at e4;exact q D2 as H2 e2 e3 ⟨e1,e4.n,λi a d h1 h2=>let ⟨dx,ap,l,ts,m,b,bC,hD⟩:=e4.t i a d h1 h2;⟨dx,ap,l,ts,m,b,bC,hD.same e2⟩⟩
theorem TN(T:Tx K mg A)(az:aj mg base A.aY A.aQ)(aA:aj mg base A.aZ A.aU)(aB:aj mg base A.a_ A.aV):aW P w K mg base bu 2 A.uX A.zP ["self", "calm"] (acB K [A.bL,A.bQ]):=by
 refine T.QB.ok adW (λvs H Q E h=>?_) (λaR Ar outer s H vs Q E hr h=>?_)
 ·obtain⟨C,x,dx,c,rfl,_⟩:=h
  rfl
 ·obtain⟨C,x,dx,c,rfl,hC,hK,hx,q⟩:=h;refine⟨_,(aH (cL (pv 0) (pv 1) rfl)
   (aK (dI (EE (pv 0) T.aey (Jf T az aA aB) (hr.mono (by decide)) T.BC .nil aO)))),?_⟩
  wp_walk using hK.cl,hK.n1,hK.n2,hK.n3,hx;refine⟨hC,C,x,dx,c,_,rfl,hC,hK,aI,.inl rfl,λB H' nB sb hl=>q B H' ?_ (λb o e hb=>sb b o ((aD hb).trans e) hb) hl⟩;by_cases hb:B=x
  ·rw[hb,aI] at nB;cases nB
  ·rwa [aD hb] at nB
theorem ae2(T:Tx K mg A)(az:aj mg base A.aY A.aQ)(aA:aj mg base A.aZ A.aU)(aB:aj mg base A.a_ A.aV):aW P w K mg base bu 2 A.rL A.zS ["self", "dues"] (acO K A.aX A.bG [A.bL,A.bQ]):=by
 refine T.QE.ok adZ (λvs H Q E h=>?_) (λaR Ar outer s H vs Q E hr h=>?_)
 ·obtain⟨C,x,dx,B,st,D,ps,ds,rfl,_⟩:=h
  rfl
 ·obtain⟨C,x,dx,B,st,D,ps,ds,rfl,hC,hK,hx,hd,eX,q⟩:=h;have d9:=hd.n;have hu:=j5 hr;have kC:=hx.o;unfold iF at kC;refine⟨_,(aH (cy (jw (jv (bF (pv 0) rfl))) (aK (bD (pv 1))) cE)
   (aH (nH (cy (jw (jv (cQ (NU rfl) rfl T.vV boot_any (aa (iP (N:=["due", "self"]) (nt:=1) (fv:=[0]) (dw.of rfl rfl (by rfl) (by rfl) (by repeat (first | exact trivial | refine⟨rfl,?_⟩)) (by rfl) (by rfl) (by rfl) (by decide) (by decide +kernel)) rfl (fE (pv 1)) (λC s H fp=>(bH (i:=0) (show List.Nodup (["due", "self"]:List Str) by decide +kernel) rfl (Or.inl rfl))) (λC s H fp=>kZ) (λC s H fp=>(L0 (Eb hu (eV (K:=K) rfl (pv 0) rfl) (eV (K:=K) rfl (pv 1) rfl))))) au)))) (aK (cL (pv 0) (br (aeG T az aA aB) (hr.mono (by decide)) rfl T.QA T.HW.kp T.Qz .nil aO (aa (pv 1) au)) rfl)) cE))
   (aK (bD (iP (N:=["due", "self"]) (nt:=1) (fv:=[0]) (dw.of rfl rfl (by rfl) (by rfl) (by repeat (first | exact trivial | refine⟨rfl,?_⟩)) (by rfl) (by rfl) (by rfl) (by decide) (by decide +kernel)) rfl (fE (pv 1)) (λC s H fp=>(bH (i:=0) (show List.Nodup (["due", "self"]:List Str) by decide +kernel) rfl (Or.inl rfl))) (λC s H fp=>(nu (X3 (Eb hu (eV (K:=K) rfl (pv 0) rfl) (eV (K:=K) rfl (pv 1) rfl))))) (λC s H fp=>(pv 0))))))),?_⟩
  wp_walk using T,hK.cl,hK.n1,hK.n2,hK.n3,kC;refine eo (λh0=>?_) λh0=>?_
  ·refine q D ps B H (.inl rfl) (λ_ _ e _=>e) ?_ ?_
   ·unfold gf;rw[if_neg (by rw[h0];simp)];exact hx
   ·unfold fK;rw[if_neg (by rw[h0];simp)];exact hd
  ·have hc:st.c=true:=by simpa using h0
   refine⟨λσ H1=>∃B',σ = [some (.ref x),some (.ref D)]/\(B' = B\/H B' = none)/\SameBut x H H1/\eG C H1 x (gf st ds) dx B'/\eS K A.aX A.bG H1 D ps ds,?_,?_⟩
   ·refine j9 D (ps.map V.ref) (λD2 i ys aq H2=>∃(u:Option V),ys=((ds.take i).map λd=>decide (d.n∈st.b)).map V.bl/\aq = [u,some (.ref x)]/\H2 D2=some (.lst ys)/\ah H H2/\H D2=none) (λQ q=>⟨_,rfl,q⟩) (aE.of hd.l) ?_ ?_ ?_ ?_
    ·intro D2 hD;exact⟨none,rfl,rfl,aI,ah.put hD,hD⟩
    ·rintro D2 i ys aq H2 ⟨u,rfl,rfl,e1,e2,e3⟩;exact⟨e1,g9 (by simp only[List.length_map,List.length_take];lia),aE.of (e2 _ _ hd.l)⟩
    ·rintro D2 i y ys aq H2 N hN hy ⟨u,rfl,rfl,e1,e2,e3⟩;obtain⟨dp,fM,rfl⟩:=ff hy;have hi:i<ds.length:=by rw[← d9];exact d7 fM
     refine(hd.same e2).el i dp ds[i] fM (List.getElem?_eq_getElem hi) λeu ap l ts m b' bC hD=>?_;have dg:=hD.o;have vZ:=e2 _ _ kC;obtain⟨kvs,k1,k2,k3⟩:=(hx.same e2).d;unfold ig at dg;wp_walk using T,hK.cl,hK.n1,hK.n2,hK.n3,dg,vZ;refine⟨_,fQ.k (k:=cN ds[i].n) k1,e1,hN _ _ _ ⟨_,?_,rfl,aI,ah.put2 e2 e3,e3⟩⟩;rw[take_succ_get (List.getElem?_eq_getElem hi),List.map_append,List.map_append,k3];rfl
    ·rintro D2 ys aq H2 ⟨u,rfl,rfl,e1,e2,e3⟩;rw[List.length_map,d9,List.take_length] at e1;have vZ:=e2 _ _ kC;have ea:(ds.map λd=>decide (d.n∈st.b)).any id=ds.any λd=>decide (d.n∈st.b):=by rw[List.any_map];rfl
     refine⟨D2,rfl,_,aE.of e1,eo (λh1=>?_) λh1=>?_⟩
     ·rw[ea] at h1;refine⟨D,ps,ds,rfl,hd.same e2,eX,λBn kvs H3 s3 nB hB hl hv=>?_⟩;have TQ:=s3 _ _ vZ;have sb:SameBut x H (upd H3 x (.ins C dx [("calm",V.bl st.c),("inward",V.bl st.i),("batch",V.ref Bn)])):=(SameBut.of (e2.trans s3)).put;refine⟨_,_,_,TQ,hK.cl,hK.n3,by simp,Bn,rfl,.inr (e2.free nB),sb,⟨?_,kvs,?_,hl,?_⟩,hd.kt (hx.iW sb)⟩
      ·rw[aI];unfold gf;rw[if_pos hc,if_neg (by rw[h1];simp)]
       rfl
      ·rw[aD (λz=>by rw[z,TQ] at hB;cases hB)];exact hB
      ·unfold gf;rw[if_pos hc,if_neg (by rw[h1];simp)]
       exact hv
     ·rw[ea] at h1;refine⟨B,rfl,.inl rfl,SameBut.of e2,?_,hd.same e2⟩;unfold gf;rw[if_pos hc,if_pos (by simpa using h1)]
      exact hx.same e2
   ·rintro σ H1 ⟨B',rfl,bB,sb,eY,cj⟩;have wL:(gf st ds).c=true:=by
     unfold gf;rw[if_pos hc];split
     ·exact hc
     ·exact hc
    have lH:=eY.o;unfold iF at lH;walk_at "rdm";have ql:=q;unfold fK at ql;rw[if_pos hc] at ql;generalize gf st ds=Jp at *
    refine j9 D (ps.map V.ref) (λD2 i ys aq H2=>∃(u:Option V) (as:List Addr),ys=as.map V.ref/\aq = [u,some (.ref x)]/\H2 D2=some (.lst ys)/\ah H1 H2/\H1 D2=none/\jh K A.aX A.bG H1 as ((ds.take i).filter λd=>decide (d.n∈Jp.b))) (λQ q=>⟨_,rfl,q⟩) (aE.of cj.l) ?_ ?_ ?_ ?_
    ·intro D2 hD;exact⟨none,[],rfl,rfl,aI,ah.put hD,hD,jh.nil⟩
    ·rintro D2 i ys aq H2 ⟨u,as,rfl,rfl,e1,e2,e3,e4⟩;have:=List.length_filter_le (λd:Dr=>decide (d.n∈Jp.b)) (ds.take i);rw[List.length_take] at this;exact⟨e1,g9 (by rw[List.length_map,e4.n];lia),aE.of (e2 _ _ cj.l)⟩
    ·rintro D2 i y ys aq H2 N hN hy ⟨u,as,rfl,rfl,e1,e2,e3,e4⟩;obtain⟨dp,fM,rfl⟩:=ff hy;have hi:i<ds.length:=by rw[← d9];exact d7 fM
     have fU:=cj.t i dp ds[i] fM (List.getElem?_eq_getElem hi);refine(cj.same e2).el i dp ds[i] fM (List.getElem?_eq_getElem hi) λeu ap l ts m b' bC hD=>?_;have dg:=hD.o;have vZ:=e2 _ _ lH;obtain⟨kvs,k1,k2,k3⟩:=(eY.same e2).d;have et:=Fc (p:=λd:Dr=>decide (d.n∈Jp.b)) (List.getElem?_eq_getElem hi);unfold ig at dg;wp_walk using T,hK.cl,hK.n1,hK.n2,hK.n3,dg,vZ;refine⟨_,fQ.k (k:=cN ds[i].n) k1,eo (λh1=>?_) λh1=>?_⟩
     ·rw[k3] at h1;refine⟨e1,hN _ _ _ ⟨_,as++[dp],by rw[List.map_append];rfl,rfl,aI,ah.put2 e2 e3,e3,?_⟩⟩
      rw[et,if_pos h1];exact e4.snoc fU
     ·rw[k3] at h1;refine hN _ _ _ ⟨_,as,rfl,rfl,e1,e2,e3,?_⟩;rw[et,if_neg h1,List.append_nil];exact e4
    ·rintro D2 ys aq H2 ⟨u,as,rfl,rfl,e1,e2,e3,e4⟩;rw[List.length_map,d9,List.take_length] at e4;exact ql D2 as B' H2 bB (sb.step e2) (eY.same e2) ⟨e1,e4.n,λi a d h1 h2=>let ⟨dx,ap,l,ts,m,b,bC,hD⟩:=e4.t i a d h1 h2;⟨dx,ap,l,ts,m,b,bC,hD.same e2⟩⟩
theorem ae3(T:Tx K mg A)(az:aj mg base A.aY A.aQ)(aA:aj mg base A.aZ A.aU)(aB:aj mg base A.a_ A.aV):aW P w K mg base bu 2 A.z6 A.z7 ["swing", "rings"] (aaR K):=by
 refine T.Ig.ok PL (λvs H Q E h=>?_) (λaR Ar outer s H vs Q E hr h=>?_)
 ·obtain⟨a,sw,n,rfl,_⟩:=h
  rfl
 ·obtain⟨a,sw,n,rfl,hS,ok,hn,q⟩:=h;refine⟨_,(aH (cy (bM lT (cQ gb rfl T.fz boot_len (aa (pv 0) au)) (pv 1) (bK _)) e8 cE)
   (aH (cy (bM lT (bR cS (pv 0) aF (λ_ _=>rfl)) aF (bK _)) e8 cE)
   (aH (dY PassesOwn.never rfl (sV rfl T.gv (aa aF (aa (pv 1) au))) (bH (i:=2) PL.nd rfl (Or.inl rfl))
   (aH (cy (PW.pt (gn (bM gB (bR cS (pv 0) (pv 2) (λ_ _=>rfl)) aF (bK _)) (gU (bM jU (bR cS (pv 0) (pv 2) (λ_ _=>rfl)) (gA (v:=.int 1000000000) rfl T.Ja ⟨_,rfl⟩) (bK _))))) e8 cE)
   (aK (cy (bM gB (bR cS (pv 0) (pv 2) (λ_ _=>rfl)) (bR cS (pv 0) (bq jz (pv 2) aF) (λ_ _=>rfl)) (bK _)) e8 cE))))
   (aK (dI (br (aeJ T az aA aB) (hr.mono (by decide)) rfl T.QY T.Ih.kp T.QX .nil aO (aa (pv 0) au))))))),?_⟩
  walk_at "rdm";have hl:=ok.len;have h2:=ok.two;refine⟨_,.inl hS,by simpa using hl,_,hS,_,jd (by lia) (by lia),rfl,by rw[show (0:Int).toNat=0 from rfl,ok.z],?_⟩
  refine xQ 1 n (λi σ H'=>∃r,σ = [some (.ref a),some (.int n),r]/\H' = H) (λQ q=>?_) (by lia) (by lia) (by lia) (by lia) ⟨none,rfl,rfl⟩ ?_ ?_
  ·walk_at "rdm";exact q
  ·rintro i σ H' N hN hi ⟨r,rfl,rfl⟩;walk_at "rdm";have e1:((1:Int)+(i:Int)).toNat=1+i:=by lia
   have e2:((1:Int)+(i:Int) - 1).toNat=1+i - 1:=by lia
   have g:=ok.pos (1+i) (by lia) (by lia)
   have g2:=ok.up (1+i) (by lia) (by lia)
   refine⟨_,hS,_,jd (by lia) (by lia),?_⟩
   walk_at "rdm";rw[e1];refine⟨by lia,_,hS,_,jd (by lia) (by lia),?_⟩
   walk_at "rdm";rw[e1];refine⟨by lia,_,hS,_,jd (by lia) (by lia),_,hS,_,jd (by lia) (by lia),?_⟩
   walk_at "rdm";rw[e1,e2];exact⟨by lia,hN _ _ ⟨_,rfl,rfl⟩⟩
  ·rintro σ H' ⟨r,rfl,rfl⟩;walk_at "rdm";exact⟨a,sw,n,rfl,hS,ok,hn,q⟩
theorem ae4(T:Tx K mg A)(az:aj mg base A.aY A.aQ)(aA:aj mg base A.aZ A.aU)(aB:aj mg base A.a_ A.aV):aW P w K mg base bu 2 A.ve A.Am ["self", "ring", "place"] (aa2 K [A.bx]):=by
 refine T.Rj.ok ad6 (λvs H Q E h=>?_) (λaR Ar outer s H vs Q E hr h=>?_)
 ·obtain⟨C,p,P,fp,r,c,rfl,_⟩:=h
  rfl
 ·obtain⟨C,p,P,fp,r,c,rfl,hC,hP,h0,h1,h2,h3,h4,h5,h6,h7,q⟩:=h;obtain⟨dx,a1,a2,a3,a4,ts,fs,pX,h⟩:=id hP;refine⟨_,(aK (bD (bq lR (bq cG (bq i6 (pv 2) (k7 (pv 0) T.Jc (Jk T az aA aB) (hr.mono (by decide)) T.BD .nil aO (aa (pv 1) au))) (bq i6 (pv 1) (bF (pv 0) rfl))) (bF (pv 0) rfl)))),?_⟩
  wp_walk using h.o,h.f1,h.f2,h.f3,h.f4,h.f5,h.f6,h.m1,h.m2,h.m3,h.m4,h.m5,h.m6,h.m7,h.m8,h.m9,h.gJ,h.ia,h.cp.cl,h.cp.n1,h.cp.n2,h.cp.n3,h.cp.n4,h.cp.n5,h.cp.n6;refine⟨hC,C,p,P,fp,r,rfl,hP,h0,h1,h3,h4,?_⟩;wp_walk using h.o,h.f1,h.f2,h.f3,h.f4,h.f5,h.f6,h.m1,h.m2,h.m3,h.m4,h.m5,h.m6,h.m7,h.m8,h.m9,h.gJ,h.ia,h.cp.cl,h.cp.n1,h.cp.n2,h.cp.n3,h.cp.n4,h.cp.n5,h.cp.n6;exact⟨.inl ⟨by lia,by lia⟩,.inl ⟨by lia,by lia⟩,h7,q⟩
theorem ae5(T:Tx K mg A)(az:aj mg base A.aY A.aQ)(aA:aj mg base A.aZ A.aU)(aB:aj mg base A.a_ A.aV):aW P w K mg base bu 2 A.vj A.As ["self", "ring", "place"] (aa5 K [A.bx]):=by
 refine T.Rx.ok ad_ (λvs H Q E h=>?_) (λaR Ar outer s H vs Q E hr h=>?_)
 ·obtain⟨C,p,P,fp,r,c,rfl,_⟩:=h
  rfl
 ·obtain⟨C,p,P,fp,r,c,rfl,hC,hP,h0,h1,h2,h3,q⟩:=h;obtain⟨dx,a1,a2,a3,a4,ts,fs,pX,h⟩:=id hP;have hu:=j5 hr;refine⟨_,(aH (cy (jw (jv (k7 (pv 0) T.aev (aeP T az aA aB) (hr.mono (by decide)) T.Rr .nil aO (aa (pv 1) (aa (pv 2) au))))) e8 cE)
   (aK (bD (aag hu (bF (pv 0) rfl) (gZ (aa (pv 1) (aa (pv 2) au))) ⟨rfl,rfl,rfl,rfl⟩)))),?_⟩
  wp_walk using h.o,h.f1,h.f2,h.f3,h.f4,h.f5,h.f6,h.m1,h.m2,h.m3,h.m4,h.m5,h.m6,h.m7,h.m8,h.m9,h.gJ,h.ia,h.cp.cl,h.cp.n1,h.cp.n2,h.cp.n3,h.cp.n4,h.cp.n5,h.cp.n6;refine⟨hC,C,p,P,fp,r,c,rfl,hP,?_⟩;rw[decide_eq_true ⟨h0,h1,h2,h3⟩];wp_walk using h.o,h.f1,h.f2,h.f3,h.f4,h.f5,h.f6,h.m1,h.m2,h.m3,h.m4,h.m5,h.m6,h.m7,h.m8,h.m9,h.gJ,h.ia,h.cp.cl,h.cp.n1,h.cp.n2,h.cp.n3,h.cp.n4,h.cp.n5,h.cp.n6;refine⟨by simp,.inr ⟨_,.inl h.cn⟩,λt nt=>⟨_,fQ.t (k:=kT (r,c)) (ah.put nt _ _ h.cn) aI,q _ (ah.put nt)⟩⟩
theorem ae6(T:Tx K mg A)(az:aj mg base A.aY A.aQ)(aA:aj mg base A.aZ A.aU)(aB:aj mg base A.a_ A.aV):aW P w K mg base bu 2 A.Au A.Av ["plate", "ask"] (abS K [A.bx] A.aX):=by
 refine T.Im.ok aea (λvs H Q E h=>?_) (λaR Ar outer s H vs Q E hr h=>?_)
 ·obtain⟨C,p,ap,P,fp,q',m,b,dx,rfl,_⟩:=h
  rfl
 ·obtain⟨C,p,ap,P,fp,q',m,b,dx,rfl,hC,hP,ha,hf,hn,q⟩:=h;refine⟨_,(aK (bD (iP (N:=["number", "plate"]) (nt:=1) (fv:=[0]) (dw.of rfl rfl (by rfl) (by rfl) (by repeat (first | exact trivial | refine⟨rfl,?_⟩)) (by rfl) (by rfl) (by rfl) (by decide) (by decide +kernel)) rfl (sV rfl T.gv (aa (bF (pv 1) rfl) (aa (bq cG (bF (pv 1) rfl) (bF (pv 1) rfl)) au))) (λC s H fp=>(bH (i:=0) (show List.Nodup (["number", "plate"]:List Str) by decide +kernel) rfl (Or.inl rfl))) (λC s H fp=>kZ) (λC s H fp=>(k7 (pv 1) T.aew (aeQ T az aA aB) (hr.mono (by decide)) T.Rv .nil aO (aa (pv 0) au)))))),?_⟩
  wp_walk using T,ha.o;obtain⟨f0,m0,m1,fit⟩:=hf;refine aaM q'.first (q'.first+q'.many) (λD i ys aq H2=>∃(u:Option V) (ts:List Addr),aq = [u,some (.ref p)]/\ys=ts.map V.ref/\Zn H2 D ts ((P.nc.drop q'.first.toNat).take i)/\ah H H2/\H D=none/\i<=16) (λQ q=>?_) (by lia) (by lia) (by lia) (by lia) ?_ ?_ ?_ ?_
  ·wp_walk using T,ha.o
   try exact q
  ·intro D hD;exact⟨none,[],rfl,rfl,by rw[List.take_zero];exact Zn.start,ah.put hD,hD,by lia⟩
  ·rintro D i ys aq H2 ⟨u,ts,rfl,rfl,g2,g3,g4,g5⟩;exact⟨g2.l,g9 (by rw[List.length_map,g2.n,List.length_take];lia)⟩
  ·rintro D i ys aq H2 N hN hi ⟨u,ts,rfl,rfl,g2,g3,g4,g5⟩;walk_at "rdm";obtain⟨Jq,a1,a2,a3,a4,q9,fs,pX,hA⟩:=hP.same g3;refine⟨C,Jq,fs,hA.o,hC,hA.m9,⟨C,p,P,fp,_,rfl,hP.same g3,by lia,by lia,λt q0 eq ht=>⟨g2.l,hN _ _ _ ⟨_,ts++[t],rfl,by rw[List.map_append];rfl,?_,ah.put2 g3 g4,g4,by lia⟩⟩⟩⟩
   rw[abR f0 eq];exact g2.push ht
  ·rintro D ys aq H2 ⟨u,ts,rfl,rfl,g2,g3,g4,g5⟩;rw[show (q'.first+q'.many - q'.first).toNat=q'.many.toNat by lia] at g2
   exact q _ _ _ g3 g4 g2
theorem ae7(T:Tx K mg A)(az:aj mg base A.aY A.aQ)(aA:aj mg base A.aZ A.aU)(aB:aj mg base A.a_ A.aV):aW P w K mg base bu 2 A.AF A.AG ["asks", "number"] (abC K A.aX):=by
 refine T.Iu.ok PN (λvs H Q E h=>?_) (λaR Ar outer s H vs Q E hr h=>?_)
 ·obtain⟨la,ps,qs,k,q',rfl,_⟩:=h
  rfl
 ·obtain⟨la,ps,qs,k,q',rfl,ha,hk,hn,bl,q⟩:=h;refine⟨_,(aH (bI (i:=2) PN.nd rfl (Or.inr rfl) (bR cS (pv 0) (pv 1) (λ_ _=>rfl)))
   (aK (bD (xh MX rfl T.rO boot_tuple (aa (iP (N:=["other", "ask", "asks"]) (nt:=1) (fv:=[2,0]) (dw.of rfl rfl (by rfl) (by rfl) (by repeat (first | exact trivial | refine⟨rfl,?_⟩)) (by rfl) (by rfl) (by rfl) (by decide) (by decide +kernel)) rfl (mW rfl T.gv (aa (pv 1) au)) (λC s H fp=>(bH (i:=0) (show List.Nodup (["other", "ask", "asks"]:List Str) by decide +kernel) rfl (Or.inl rfl))) (λC s H fp=>(nu (PW.pt (gn (bM (abv (K:=K) rfl) (pv 0) (eV (K:=K) rfl (pv 1) rfl) rfl) (gU (jv (br (aeE T az aA aB) (hr.mono (by decide)) rfl T.P9 T.HB.kp T.P8 .nil aO (aa (pv 1) (aa (bR (EA (K:=K) rfl) (pv 2) (pv 0) (λ_ _=>rfl)) au))))))))) (λC s H fp=>(pv 0))) au))))),?_⟩
  walk_at "rdt";obtain⟨p,m,b,dx,e1,a1⟩:=ha.at hk;have Jl:=(List.getElem?_eq_some_iff.mp hk).1;refine⟨_,aE.of ha.l,_,fG e1,?_⟩;obtain⟨pf,epf,hpf⟩:∃pf:Nat->Bool,x6 qs k=((List.range k).filter pf).map (λ(j:Nat)=>(j:Int))/\∀(j:Nat) (q0:Ak),qs[j]? = some q0->pf j=(decide ((j:Int)∈q'.behind) || qM q' q0):=⟨_,rfl,λj q0 e=>by rw[hk,e]⟩
  have lfl:∀i,((List.range i).filter pf).length<=i:=λi=>by have:=List.length_filter_le pf (List.range i);simpa using this
  refine EF (k:Int) (λD i ys aq H2=>∃(u:Option V),ys=((List.range i).filter pf).map (λ(j:Nat)=>V.int (j:Int))/\aq = [u,some (.ref p),some (.ref la)]/\H2=upd H D (.lst ys)/\H D=none/\i<=k) (λQ q=>?_) (by lia) (by lia) ?_ ?_ ?_ ?_
  ·walk_at "rdm";exact q
  ·intro D hD;exact⟨none,rfl,rfl,rfl,hD,Nat.zero_le _⟩
  ·rintro D i ys aq H2 ⟨u,rfl,rfl,rfl,g3,g4⟩;exact⟨aI,g9 (by rw[List.length_map];have:=lfl i;lia)⟩
  ·rintro D i ys aq H2 N hN hi ⟨u,rfl,rfl,rfl,g3,g4⟩;have h_:i<k:=by simpa using hi
   have TR:i<qs.length:=by lia
   have s1:=ah.put (o:=HO.lst (((List.range i).filter pf).map (λ(j:Nat)=>V.int (j:Int)))) g3;have jo:=ha.same s1;have Jr:=a1.same s1;obtain⟨p0,m0,b0,Tz,e3,a2⟩:=jo.at (List.getElem?_eq_getElem TR);have Js:=hpf i _ (List.getElem?_eq_getElem TR);have yes:pf i=true->((List.range i).filter pf).map (λ(j:Nat)=>V.int (j:Int))++[V.int (i:Int)] = ((List.range (i+1)).filter pf).map (λ(j:Nat)=>V.int (j:Int)):=λz=>by
    rw[List.range_succ,List.filter_append,List.map_append,show List.filter pf [i] = [i] by simp[z]];rfl
   have no:pf i=false->((List.range i).filter pf).map (λ(j:Nat)=>V.int (j:Int))=((List.range (i+1)).filter pf).map (λ(j:Nat)=>V.int (j:Int)):=λz=>by
    rw[List.range_succ,List.filter_append,show List.filter pf [i] = [] by simp[z],List.append_nil]
   walk_at "rdm";refine⟨_,_,_,Jr.o,T.jL,T.vN,_,rfl,_,rfl,_,.inr (bE.of Jr.bh),rfl,abu _,?_⟩;rw[NW];refine eo (λh1=>?_) (λh1=>⟨_,aE.of jo.l,_,fG e3,_,_,_,_,_,_,_,_,_,_,rfl,Jr,a2,_,rfl,eo (λh2=>⟨aI,?_⟩) (λh2=>?_)⟩)
   ·have z:pf i=true:=by rw[Js,h1];rfl
    rw[yes z];exact hN _ _ _ ⟨_,rfl,rfl,rfl,g3,by lia⟩
   ·have z:pf i=true:=by rw[Js,h2,Bool.or_true]
    rw[XO,yes z];exact hN _ _ _ ⟨_,rfl,rfl,rfl,g3,by lia⟩
   ·have z:pf i=false:=by
     rw[Js];cases h3:qM q' qs[i] with
     | true=>exact absurd h3 h2
     | false=>simpa using h1
    rw[no z];exact hN _ _ _ ⟨_,rfl,rfl,rfl,g3,by lia⟩
  ·rintro D ys aq H2 ⟨u,rfl,rfl,rfl,g3,g4⟩;simp only[Int.toNat_natCast] at *
   walk_at "rdm";have s1:=ah.put (o:=HO.lst (((List.range k).filter pf).map (λ(j:Nat)=>V.int (j:Int)))) g3;refine⟨_,.inl ⟨aE.of aI,λl hl=>q l _ (s1.trans (ah.put hl)) (s1.free hl) ?_⟩⟩;rw[aI,epf,List.map_map]
   rfl
theorem ae8(T:Tx K mg A)(az:aj mg base A.aY A.aQ)(aA:aj mg base A.aZ A.aU)(aB:aj mg base A.a_ A.aV):aW P w K mg base bu 2 A.AQ A.AR ["self"] (acW K A.bJ A.aX A.bG):=by
 refine T.RX.ok PU (λvs H Q E h=>?_) (λaR Ar outer s H vs Q E hr h=>?_)
 ·obtain⟨x,dx,kp,ks,kk,p,r,b,Dx,ls,rfl,_⟩:=h
  rfl
 ·obtain⟨x,dx,kp,ks,kk,p,r,b,Dx,ls,rfl,hc,l1,hk,q⟩:=h;have hn:=hc.n;have ho:=hc.o;unfold dW at ho;refine⟨_,(aH (dI (MC (pv 0) T.mJ T.RT (aeT T az aA aB) (hr.mono (by decide)) T.RS .nil aO))
   (aH (OW (xK (i:=1) PU.nd rfl (Or.inl rfl) (N:=["due", "self"]) (nt:=1) (fv:=[0]) (dw.of rfl rfl (by rfl) (by rfl) (by repeat (first | exact trivial | refine⟨rfl,?_⟩)) (by rfl) (by rfl) (by rfl) (by decide) (by decide +kernel)) rfl (OR (bF (pv 0) rfl)) (λC s H fp=>(bH (i:=0) (show List.Nodup (["due", "self"]:List Str) by decide +kernel) rfl (Or.inl rfl))) (λC s H fp=>(nu (bM qq (eV (K:=K) rfl (eV (K:=K) rfl (pv 0) rfl) rfl) (eV (K:=K) rfl (pv 1) rfl) (bK _)))) (λC s H fp=>(pv 0))))
   (aK (bD (iP (N:=["due", "self"]) (nt:=1) (fv:=[0]) (dw.of rfl rfl (by rfl) (by rfl) (by repeat (first | exact trivial | refine⟨rfl,?_⟩)) (by rfl) (by rfl) (by rfl) (by decide) (by decide +kernel)) rfl (fE (pv 1)) (λC s H fp=>(bH (i:=0) (show List.Nodup (["due", "self"]:List Str) by decide +kernel) rfl (Or.inl rfl))) (λC s H fp=>(nu (jw (jv (MB (pv 1) T.mJ T.RW (aeU T az aA aB) (hr.mono (by decide)) T.RV .nil aO (aa (eV (K:=K) rfl (pv 0) rfl) au)))))) (λC s H fp=>(pv 0))))))),?_⟩
  wp_walk using T,ho;refine⟨x,dx,kp,ks,kk,p,r,b,Dx,ls,rfl,hc,l1,λb2 H1 st s1 fW=>?_⟩;have jM:=fW.o;unfold dW at jM;refine OX Dx (cO ls) (λob D i ys aq H2=>∃(u:Option V),ys=((ls.take i).filter λy=>decide (y.1.q.at_<=b2)).map (λy=>V.ref y.2)/\aq = [u,some (.ref x)]/\H2 D=some (.lst ys)/\H2 Dx=some (.cI ob (.dK (cO ls)))/\bW x Dx H1 H2/\H1 D=none/\H2 x=H1 x) (λQ q=>?_) fW.d hc.nf ?_ ?_ ?_ ?_
  ·wp_walk using T,jM;exact q
  ·intro ob D nD;have n1:Dx≠D:=bX fW.d nD;have n2:x≠D:=bX fW.o nD;have n3:=fW.ne;exact⟨none,rfl,rfl,aI,by rw[aD n1,aI],(bW.of (λ_ _ e=>e)).q_.put nD,nD,by rw[aD n2,aD n3]⟩
  ·rintro ob D i ys aq H2 ⟨u,rfl,rfl,e1,e2,e3,e4,e5⟩;have:=List.length_filter_le (λy:Dr×Addr=>decide (y.1.q.at_<=b2)) (ls.take i);rw[List.length_take] at this;exact⟨e1,g9 (by rw[List.length_map];lia),e2⟩
  ·rintro ob D i y ys aq H2 N hN hy ⟨u,rfl,rfl,e1,e2,e3,e4,e5⟩;unfold cO at hy;obtain⟨z,hz,rfl⟩:=ff hy;have hi:i<ls.length:=d7 hz;have pU:z=ls[i]:=by rw[List.getElem?_eq_getElem hi] at hz;exact(Option.some.inj hz).symm
   subst pU;obtain⟨eu,ap,l,ts,m,b',bC,hD⟩:=fW.rm e3 (fW.t _ (List.getElem_mem hi));have dg:=hD.o;have ou:=hD.a.o;have jV:=e5.trans jM;unfold ig at dg;unfold fh at ou;have n1:Dx≠D:=bX fW.d e4;have n2:x≠D:=bX fW.o e4;have et:=Fc (p:=λy:Dr×Addr=>decide (y.1.q.at_<=b2)) (List.getElem?_eq_getElem hi);wp_walk using T,dg,ou,jV;refine eo (λh1=>?_) λh1=>?_
   ·refine⟨e1,hN _ _ _ ⟨_,?_,rfl,aI,by rw[aD n1];exact e2,e3.put e4,e4,by rw[aD n2];exact e5⟩⟩
    rw[et,if_pos (by simpa using h1),List.map_append];rfl
   ·refine hN _ _ _ ⟨_,?_,rfl,e1,e2,e3,e4,e5⟩;rw[et,if_neg (by simpa using h1),List.append_nil]
  ·rintro ob D ys aq H2 ⟨u,rfl,rfl,e1,e2,e3,e4,e5⟩;have n1:Dx≠D:=bX fW.d e4;have n3:=fW.ne;rw[uC,List.take_length] at e1;have s2:bW x Dx H1 (upd H2 Dx (.dK (cO ls))):=e3.q_;have jq:=fW.step s2 (.refl _) (by rw[aD n3,e5];exact fW.o) aI
   have oz:upd H2 Dx (.dK (cO ls)) D=some (.lst ((ls.filter λy=>decide (y.1.q.at_<=b2)).map λy=>V.ref y.2)):=by rw[aD (Ne.symm n1)];exact e1
   generalize upd H2 Dx (.dK (cO ls))=H3 at *
   walk_at "rdt";have ql:=q b2;unfold uD at ql;have TU:∀y∈ls.filter (λy=>decide (y.1.q.at_<=b2)),y∈ls:=λy hy=>(List.mem_filter.mp hy).1;have l6:=List.length_filter_le (λy:Dr×Addr=>decide (y.1.q.at_<=b2)) ls;generalize ls.filter (λy=>decide (y.1.q.at_<=b2))=jN at *
   refine j9 D (jN.map λy=>V.ref y.2) (λD2 i ys aq H4=>∃(u:Option V),ys=((jN.take i).filter λy => !((kk.getD y.1.n.toNat []).any (kq ls))).map (λy=>V.ref y.2)/\aq = [u,some (.ref x)]/\H4 D2=some (.lst ys)/\ah H3 H4/\H3 D2=none) (λQ q=>⟨_,rfl,q⟩) (aE.of oz) ?_ ?_ ?_ ?_
   ·intro D2 nD;exact⟨none,rfl,rfl,aI,ah.put nD,nD⟩
   ·rintro D2 i ys aq H4 ⟨u,rfl,rfl,g1,g2,g3⟩;have:=List.length_filter_le (λy:Dr×Addr => !((kk.getD y.1.n.toNat []).any (kq ls))) (jN.take i);rw[List.length_take] at this;exact⟨g1,g9 (by rw[List.length_map];lia),aE.of (g2 _ _ oz)⟩
   ·rintro D2 i y ys aq H4 N hN hy ⟨u,rfl,rfl,g1,g2,g3⟩;obtain⟨z,hz,rfl⟩:=ff hy;have hi:i<jN.length:=d7 hz;have pU:z=jN[i]:=by rw[List.getElem?_eq_getElem hi] at hz;exact(Option.some.inj hz).symm
    subst pU;have TV:=TU _ (List.getElem_mem hi);have pY:=jq.same g2;obtain⟨eu,ap,l,ts,m,b',bC,hD⟩:=pY.t _ TV;obtain⟨k0,k1⟩:=pY.kn _ TV;have dg:=hD.o;have TX:=pY.o;unfold ig at dg;unfold dW at TX;have et:=Fc (p:=λy:Dr×Addr => !((kk.getD y.1.n.toNat []).any (kq ls))) (List.getElem?_eq_getElem hi);wp_walk using T,dg,TX;have Jl:jN[i].1.n.toNat<kk.length:=by lia
    have TY:kk[jN[i].1.n.toNat]? = some (kk.getD jN[i].1.n.toNat []):=by rw[List.getD_eq_getElem?_getD,List.getElem?_eq_getElem Jl];rfl
    have en:jN[i].1.n=((jN[i].1.n.toNat:Nat):Int):=by lia
    refine⟨x,dx,kp,ks,kk,p,r,b2,Dx,ls,jN[i].1.n.toNat,_,by rw[← en],pY,TY,hk _ (List.mem_of_getElem? TY),λH5 s5=>⟨_,rfl,eo (λh1=>?_) λh1=>?_⟩⟩
    ·refine⟨s5 _ _ g1,hN _ _ _ ⟨_,?_,rfl,aI,ah.put2 (g2.trans s5) g3,g3⟩⟩;rw[et,if_pos (by rw[h1];rfl),List.map_append];rfl
    ·refine hN _ _ _ ⟨_,?_,rfl,s5 _ _ g1,g2.trans s5,g3⟩;rw[et,if_neg (by simpa using h1),List.append_nil]
   ·rintro D2 ys aq H4 ⟨u,rfl,rfl,g1,g2,g3⟩;have pY:=jq.same g2;rw[List.length_map,List.take_length] at g1;have s4:=(s1.trans s2).trans (bW.of g2);refine ql D2 H4 st s4 pY (jq.free (s1.trans s2) g3) ⟨by rw[g1,List.map_map];rfl,by simp,λi p' d' h1 h2=>?_⟩
    rw[List.getElem?_map] at h1 h2;cases e:(jN.filter λy => !((kk.getD y.1.n.toNat []).any (kq ls)))[i]? with
    | none=>rw[e] at h1;cases h1
    | some y =>
     rw[e] at h1 h2;cases h1;cases h2;exact pY.t y (TU y (List.mem_filter.mp (List.mem_of_getElem? e)).1)
theorem ae9(T:Tx K mg A)(az:aj mg base A.aY A.aQ)(aA:aj mg base A.aZ A.aU)(aB:aj mg base A.a_ A.aV):aW P w K mg base bu 2 A.A1 A.A2 ["asks", "picks"] (O5 K A.aX):=by
 refine T.IA.ok uO (λvs H Q E h=>?_) (λaR Ar outer s H vs Q E hr h=>?_)
 ·obtain⟨la,ps,qs,pi,ns,rfl,_⟩:=h
  rfl
 ·obtain⟨la,ps,qs,pi,ns,rfl,ha,q1,hq,hp,n1,hn,q⟩:=h;have hu:=j5 hr;have an:=ha.n;refine⟨_,(aH (bI (i:=2) uO.nd rfl (Or.inl rfl) (bq xq (eO (aa oK au)) (cQ gb rfl T.fz boot_len (aa (pv 0) au))))
   (aH (bI (i:=3) uO.nd rfl (Or.inr rfl) tN)
   (aH (dY PassesOwn.never rfl (fE (pv 1)) (bH (i:=4) uO.nd rfl (Or.inl rfl))
   (aH (bI (i:=5) uO.nd rfl (Or.inl rfl) (bR cS (pv 0) (pv 4) (λ_ _=>rfl)))
   (aK (cy (bM mZ (bF (pv 5) rfl) fD (bK _)) (aK (Mc (iP (N:=["cell", "marks"]) (nt:=1) (fv:=[3]) (dw.of rfl rfl (by rfl) (by rfl) (by repeat (first | exact trivial | refine⟨rfl,?_⟩)) (by rfl) (by rfl) (by rfl) (by decide) (by decide +kernel)) rfl (fE (br (aeY T az aA aB) (hr.mono (by decide)) rfl T.R_ T.Iz.kp T.R9 .nil aO (aa (pv 5) au))) (λC s H fp=>(bH (i:=0) (show List.Nodup (["cell", "marks"]:List Str) by decide +kernel) rfl (Or.inl rfl))) (λC s H fp=>kZ) (λC s H fp=>(aah hu (pv 1) (pv 0) aF ⟨rfl,rfl,rfl,rfl⟩))) (Mb (pv 2) (pv 4) set_list))) e8))))
   (aK (bD (pv 2)))))),?_⟩
  walk_at "rdt";intro t1 m1;have s1:=ah.put (o:=.lst [V.aN]) m1;refine⟨_,.inl (aE.of (s1 _ _ ha.l)),by lia,by rw[List.length_map];lia,by rw[List.length_map];lia,λt2 m2 t3 m3=>?_⟩
  have s2:=ah.put (o:=.lst (List.replicate (((ps.map V.ref).length:Int)).toNat [V.aN]).flatten) m2;have s3:=ah.put (o:=.dK []) m3;have h2:=s3 _ _ (aI (H:=upd H t1 (.lst [V.aN])) (a:=t2) (o:=.lst (List.replicate (((ps.map V.ref).length:Int)).toNat [V.aN]).flatten));have h3:=aI (H:=upd (upd H t1 (.lst [V.aN])) t2 (.lst (List.replicate (((ps.map V.ref).length:Int)).toNat [V.aN]).flatten)) (a:=t3) (o:=.dK []);have s:=(s1.trans s2).trans s3;have m2':=s1.free m2;have m3':=(s1.trans s2).free m3;have hl:((List.replicate (((ps.map V.ref).length:Int)).toNat [V.aN]).flatten).length=qs.length:=by simp[an]
  generalize (List.replicate (((ps.map V.ref).length:Int)).toNat [V.aN]).flatten=xs at *
  generalize upd (upd (upd H t1 (.lst [V.aN])) t2 (.lst xs)) t3 (.dK [])=H3 at *
  refine rl pi (ns.map V.int) (λi σ H'=>∃(x1 x2:Option V) (xs:List V),σ = [some (.ref la),some (.ref pi),some (.ref t2),some (.ref t3),x1,x2]/\ah H H'/\H' t2=some (.lst xs)/\xs.length=qs.length/\H' t3=some (.dK [])) (λQ q=>⟨_,rfl,q⟩) (aE.of (s _ _ hp)) ⟨none,none,xs,rfl,s,h2,hl,h3⟩ (by rintro i σ H' _ ⟨_,_,_,rfl,s',_⟩;exact aE.of (s' _ _ hp)) ?_ ?_
  ·rintro i x σ H' N hN hx ⟨x1,x2,xs,rfl,s',g2,gl,g3⟩;obtain⟨n,hni,rfl⟩:=ff hx;obtain⟨n0,n9⟩:=hn n (List.mem_of_getElem? hni);have hk:n.toNat<qs.length:=by lia
   have iJ:=List.getElem?_eq_getElem hk;obtain⟨ap,m,b,dx,e1,a1⟩:=(ha.same s').at iJ;obtain⟨k1,k2,k3,k4,k5⟩:=hq _ (List.getElem_mem hk);have a2:=a1.o;unfold fh at a2;rw[k1] at a2;have ei:gq (ps.map V.ref) n=some (.ref ap):=by have:=fG e1;rwa [show ((n.toNat:Nat):Int)=n by lia] at this
   walk_at "rdt";refine⟨_,aE.of (s' _ _ ha.l),_,ei,?_⟩;refine⟨ap,rfl,_,_,_,a2,T.jL,T.vL,_,rfl,rfl,rfl,?_⟩;refine OY ?_;walk_at "rdt";refine⟨ap,_,m,b,dx,rfl,a1,k2,k3,k4,k5,λl cs H4 s4 nl cl kD=>?_⟩;refine j9 l (cs.map V.int) (λD i ys aq H5=>∃(u:Option V),aq = [u,some (.ref t3)]/\H5 D=some (.lst ys)/\ys.length<=i/\i<=cs.length/\ah H4 H5/\H4 D=none) (λQ q=>q) (aE.of kD) ?_ ?_ ?_ ?_
   ·intro D nD;exact⟨none,rfl,aI,Nat.le_refl _,Nat.zero_le _,ah.put nD,nD⟩
   ·rintro D i ys aq H5 ⟨u,rfl,e1,e2,e3,e4,e5⟩;exact⟨e1,by rw[pe];lia,aE.of (e4 _ _ kD)⟩
   ·rintro D i y ys aq H5 N hN hy ⟨u,rfl,e1,e2,e3,e4,e5⟩;obtain⟨c,hc,rfl⟩:=ff hy;have hi:=d7 hc;have g5:=e4 _ _ (s4 _ _ g3);wp_walk using T,Nd;exact⟨.inl ⟨_,.inl g5⟩,_,fQ.k (k:=cN c) g5,e1,hN _ _ _ ⟨_,rfl,aI,by rw[List.length_append,List.length_singleton];lia,by lia,ah.put2 e4 e5,e5⟩⟩
   ·rintro D ys aq H5 ⟨u,rfl,e1,e2,e3,e4,e5⟩;have s5:=s4.trans e4;refine⟨xs,s5 _ _ g2,n.toNat,?_,hN _ _ ⟨_,_,_,rfl,ah.put2 (s'.trans s5) m2',aI,by rw[List.length_set];exact gl,?_⟩⟩
    ·unfold i8;rw[if_pos n0,if_pos (by lia)]
    ·rw[aD (λz=>by rw[z,g2] at g3;cases g3)]
     exact s5 _ _ g3
  ·rintro σ H' ⟨x1,x2,xs,rfl,s',g2,gl,g3⟩;walk_at "rdm";exact q _ _ s'
theorem ae_(T:Tx K mg A)(az:aj mg base A.aY A.aQ)(aA:aj mg base A.aZ A.aU)(aB:aj mg base A.a_ A.aV):aW P w K mg base bu 2 A.Ba A.Bb ["_law_cell_here", "_law_rings"] (ab7 K):=by
 refine T.ID.ok uP (λvs H Q E h=>?_) (λaR Ar outer s H vs Q E hr h=>?_)
 ·obtain⟨c,m,rfl,_⟩:=h
  rfl
 ·obtain⟨c,m,rfl,h2,h60,q⟩:=h;refine⟨_,(aH (bI (i:=2) uP.nd rfl (Or.inr rfl) (bq cG aF (br (gw T az aA aB) (hr.mono (by decide)) rfl T.gj T.fY.kp T.gi .nil aO (aa (pv 0) (aa aF (aa (bR cS (eO (aa aF (aa aF (aa aF (aa (bq Mh aF aF) au))))) (br (gw T az aA aB) (hr.mono (by decide)) rfl T.gj T.fY.kp T.gi .nil aO (aa (pv 0) (aa aF (aa aF au)))) (λ_ _=>rfl)) au))))))
   (aH (cy (bM mZ (br (gw T az aA aB) (hr.mono (by decide)) rfl T.gj T.fY.kp T.gi .nil aO (aa (pv 0) (aa aF (aa aF au)))) aF (bK _)) (aK (bD (bq M7 (eO (aa aF au)) (cQ aaB rfl T.B3 boot_sorted (aa (iP (N:=["_law_k", "_law_step", "_law_cell_here"]) (nt:=1) (fv:=[2,0]) (dw.of rfl rfl (by rfl) (by rfl) (by repeat (first | exact trivial | refine⟨rfl,?_⟩)) (by rfl) (by rfl) (by rfl) (by decide) (by decide +kernel)) rfl (mW rfl T.gv (aa (bq jz (pv 1) aF) au)) (λC s H fp=>(bH (i:=0) (show List.Nodup (["_law_k", "_law_step", "_law_cell_here"]:List Str) by decide +kernel) rfl (Or.inl rfl))) (λC s H fp=>kZ) (λC s H fp=>(bq cG (pv 1) (br (gw T az aA aB) (hr.mono (by decide)) rfl T.gj T.fY.kp T.gi .nil aO (aa (pv 2) (aa (bq cG aF (pv 0)) (aa (bq cG (pv 1) aF) au))))))) au))))) cE)
   (aH (bI (i:=3) uP.nd rfl (Or.inl rfl) (eO (aa aF au)))
   (aH (dY PassesOwn.never rfl (sV rfl T.gv (aa aF (aa (pv 1) au))) (bH (i:=4) uP.nd rfl (Or.inl rfl))
   (aH (dI (jY PySem.F.plainAttrs_list PySem.F.slot_list_append PySem.F.type_list_append kU (pv 3) (aa (bq cG (bR cS (pv 3) (s_ tD aF) (λ_ _=>rfl)) (pv 2)) au)))
   (aK (bI (i:=2) uP.nd rfl (Or.inr rfl) (bq jz (pv 2) (br (gw T az aA aB) (hr.mono (by decide)) rfl T.gj T.fY.kp T.gi .nil aO (aa (pv 0) (aa (bq cG aF (pv 4)) (aa (bq cG (bq tu (pv 2) aF) aF) au)))))))))
   (aK (bD (pv 3))))))),?_⟩
  wp_walk using fH;refine⟨by decide,λo1 Ca=>?_⟩
  have sA:=ah.put (o:=.lst [V.int 3,V.int 40,V.int 1000,V.int 10000000]) Ca;have jM:upd H o1 (.lst [V.int 3,V.int 40,V.int 1000,V.int 10000000]) o1=some (.lst [V.int 3,V.int 40,V.int 1000,V.int 10000000]):=aI;generalize upd H o1 (.lst [V.int 3,V.int 40,V.int 1000,V.int 10000000])=H1 at sA jM ⊢;obtain⟨x,hx,x0,x1⟩:∃x:Int,gq [V.int 3,V.int 40,V.int 1000,V.int 10000000] (cM c 22 4)=some (.int x)/\3<=x/\x<=10000000:=by
   have b:=iU c 22 (m:=4) (by decide)
   have:cM c 22 4=0\/cM c 22 4=1\/cM c 22 4=2\/cM c 22 4=3:=by lia
   rcases this with e | e | e | e <;> rw[e] <;> exact⟨_,rfl,by decide,by decide⟩
  refine⟨_,aE.of jM,_,hx,_,rfl,by lia,?_⟩
  have Jt:=iU c 21 (m:=x) (by lia)
  generalize hL:1+cM c 21 x=L;have L1:1<=L:=by lia
  have L7:L<=10000000:=by lia
  clear hL Jt hx;refine eo (λh8=>?_) λh8=>?_
  ·intro l0 e_;have s0:=ah.put (o:=.lst [V.int 0]) e_;refine EF (m - 1) (λD i ys aq H2=>∃ns:List Int,ys=ns.map V.int/\ns.length=i/\(∀x∈ns,L<=x/\x<=2*L)/\H2 D=some (.lst ys)/\ah (upd H1 l0 (.lst [V.int 0])) H2/\upd H1 l0 (.lst [V.int 0]) D=none/\i<=60/\∃u,aq = [u,some (.int L),some (.int c)])
    (λQ q=>?_) (by lia) (by lia) ?_ ?_ ?_ ?_
   ·walk_at "rdm";exact q
   ·intro D hD;exact⟨[],rfl,rfl,(by intro x hx;cases hx),aI,ah.put hD,hD,by lia,none,rfl⟩
   ·rintro D i ys aq H2 ⟨ns,rfl,e0,_,e1,e2,e3,e4,_⟩;exact⟨e1,g9 (by rw[List.length_map];lia)⟩
   ·rintro D i ys aq H2 N hN hi ⟨ns,rfl,e0,eb,e1,e2,e3,e4,u,rfl⟩;wp_walk using fH;have b1:=iU c (41+(i:Int)) (m:=L+1) (by lia)
    refine⟨by lia,by lia,by lia,e1,hN _ _ _ ⟨ns++[L+cM c (41+(i:Int)) (L+1)],by rw[List.map_append];rfl,by simp[e0],?_,aI,ah.put2 e2 e3,e3,by lia,_,rfl⟩⟩
    intro x hx;rcases List.mem_append.mp hx with hx | hx
    ·exact eb x hx
    ·rw[List.mem_singleton.mp hx];lia
   ·rintro D ys aq H2 ⟨ns,rfl,e0,eb,e1,e2,e3,e4,u,rfl⟩
    try walk_at "rdm"
    refine⟨ns,aE.of e1,by lia,λl g8 hl hp hs=>?_⟩
    have TZ:=e2 _ _ aI;have fV:l0≠l:=bX TZ hl;refine⟨[V.int 0],by rw[aD fV];exact TZ,?_,λp lX=>?_⟩
    ·have:=hp.length_eq;simp;lia
    ·have fF:p≠l:=(bX aI lX).symm;have E3:H2 p=none:=by rw[aD fF] at lX;exact lX
     have s2:=sA.trans (s0.trans e2);have hH:H p=none:=s2.free E3;have hHl:H l=none:=s2.free hl;have so:=aa6 L1 (by lia) (ns:=g8) (λx hx=>eb x (hp.mem_iff.mp hx)) hs (by rw[hp.length_eq];lia)
     rw[hp.length_eq,show ((ns.length+1:Nat):Int)=m by lia] at so
     exact q p (0::g8) _ (ah.put2 (ah.put2 s2 hHl) hH) hH (by rw[aI];rfl) so
  ·intro l hl;have T5:H l=none:=sA.free hl;refine xQ 1 m (λj σ H'=>∃kk,σ = [some (.int c),some (.int m),some (.int (ir c L j)),some (.ref l),kk]/\ah H H'/\H' l=some (.lst (((List.range (1+j)).map (sumF (ir c L))).map V.int)))
    (λQ q=>?_) (by lia) (by lia) (by lia) (by lia) ⟨none,rfl,sA.trans (ah.put hl),?_⟩ ?_ ?_
   ·walk_at "rdm";exact q
   ·rw[aI];simp[List.range_succ,sumF,ir]
   ·rintro j σ H' N hN hj ⟨kk,rfl,hs,h1⟩;have b:=Oz c L1 j;wp_walk using fH;refine⟨⟨_,aE.of h1⟩,_,aE.of h1,_,aaJ (by simp;lia),?_⟩
    wp_walk using h1,fH;refine⟨by rw[List.length_range];lia,by lia,by lia,by lia,hN _ _ ⟨some (.int (1+(j:Int))),?_,ah.put2 hs T5,?_⟩⟩
    ·rw[ir]
    ·rw[aI,show 1+(j+1)=1+j+1 by lia,List.range_succ,List.map_append,List.map_append,List.length_range,_L.range_getD (by lia)]
     congr 4;simp only[List.map_cons,List.map_nil,List.cons.injEq,and_true,V.int.injEq];rw[show 1+j - 1=j by lia,show 1+j=j+1 by lia,sumF]
   ·rintro σ H' ⟨kk,rfl,hs,h1⟩;walk_at "rdm";have e:1+(m - 1).toNat=m.toNat:=by lia
    rw[e] at h1;have so:=abP (f:=ir c L) L1 L7 (Oz c L1) (n:=m.toNat) (by lia) (by lia)
    rw[show ((m.toNat:Nat):Int)=m by lia] at so
    exact q _ _ _ hs T5 h1 so
theorem afa(T:Tx K mg A)(az:aj mg base A.aY A.aQ)(aA:aj mg base A.aZ A.aU)(aB:aj mg base A.a_ A.aV):aW P w K mg base bu 2 A.Bc A.Be ["_law_cell_here"] (ab8 K):=by
 refine T.IE.ok yT (λvs H Q E h=>?_) (λaR Ar outer s H vs Q E hr h=>?_)
 ·obtain⟨c,rfl,_⟩:=h
  rfl
 ·obtain⟨c,rfl,q⟩:=h;refine⟨_,(aH (bI (i:=1) yT.nd rfl (Or.inl rfl) (eO (aa (gZ (aa (bq cG aF (br (gw T az aA aB) (hr.mono (by decide)) rfl T.gj T.fY.kp T.gi .nil aO (aa (pv 0) (aa aF (aa aF au))))) (aa (bq cG aF (br (gw T az aA aB) (hr.mono (by decide)) rfl T.gj T.fY.kp T.gi .nil aO (aa (pv 0) (aa aF (aa aF au))))) au))) au)))
   (aH (dY PassesOwn.never rfl (mW rfl T.gv (aa (bR cS (eO (aa aF (aa aF (aa aF (aa aF (aa aF (aa aF (aa aF (aa aF au))))))))) (br (gw T az aA aB) (hr.mono (by decide)) rfl T.gj T.fY.kp T.gi .nil aO (aa (pv 0) (aa aF (aa aF au)))) (λ_ _=>rfl)) au)) (bH (i:=2) yT.nd rfl (Or.inl rfl))
   (aK (dI (jY PySem.F.plainAttrs_list PySem.F.slot_list_append PySem.F.type_list_append kU (pv 1) (aa (gZ (aa (bq cG aF (br (gw T az aA aB) (hr.mono (by decide)) rfl T.gj T.fY.kp T.gi .nil aO (aa (pv 0) (aa (bq cG aF (pv 2)) (aa aF au))))) (aa (bq cG aF (br (gw T az aA aB) (hr.mono (by decide)) rfl T.gj T.fY.kp T.gi .nil aO (aa (pv 0) (aa (bq cG aF (pv 2)) (aa aF au))))) au))) au)))))
   (aH (nH (cy (bM mZ (br (gw T az aA aB) (hr.mono (by decide)) rfl T.gj T.fY.kp T.gi .nil aO (aa (pv 0) (aa aF (aa aF au)))) aF (bK _)) (aK (bI (i:=1) yT.nd rfl (Or.inl rfl) (eO (aa (gZ (aa (bq cG aF (br (gw T az aA aB) (hr.mono (by decide)) rfl T.gj T.fY.kp T.gi .nil aO (aa (pv 0) (aa aF (aa aF au))))) (aa (bq cG aF (br (gw T az aA aB) (hr.mono (by decide)) rfl T.gj T.fY.kp T.gi .nil aO (aa (pv 0) (aa aF (aa aF au))))) au))) au)))) cE))
   (aK (bD (pv 1)))))),?_⟩
  wp_walk using fH;have y1:=iU c 1 (m:=2) (by decide)
  have y2:=iU c 2 (m:=8) (by decide)
  intro t0 T7 l nl;have Cb:H l=none:=(ah.put T7).free nl;have Ju:=Zn.one (c:=(2+cM c 1 2,1+cM c 2 8)) (aI (H:=H) (a:=t0)) nl;have sA:ah H (upd (upd H t0 (.tup [V.int (2+cM c 1 2),V.int (1+cM c 2 8)])) l (.lst [V.ref t0])):=(ah.put T7).trans (ah.put nl);have T8:ZP [(2+cM c 1 2,1+cM c 2 8)]:=⟨λp hp=>by rw[List.mem_singleton.mp hp];dsimp only;exact⟨by lia,by lia,by lia,by lia⟩,by simp;lia⟩
  generalize upd (upd H t0 (.tup [V.int (2+cM c 1 2),V.int (1+cM c 2 8)])) l (.lst [V.ref t0])=H2 at Ju sA ⊢;generalize (2+cM c 1 2,1+cM c 2 8)=p0 at Ju T8;obtain⟨x,hx,x0,x1⟩:∃x:Int,gq [V.int 0,V.int 1,V.int 2,V.int 0,V.int 1,V.int 2,V.int 1,V.int 4] (cM c 3 8)=some (.int x)/\0<=x/\x<=4:=by
   have b:=iU c 3 (m:=8) (by decide)
   have:cM c 3 8=0\/cM c 3 8=1\/cM c 3 8=2\/cM c 3 8=3\/cM c 3 8=4\/cM c 3 8=5\/cM c 3 8=6\/cM c 3 8=7:=by lia
   rcases this with e | e | e | e | e | e | e | e <;> rw[e] <;> exact⟨_,rfl,by decide,by decide⟩
  refine rrG ?_;wp_walk using fH;intro o1 Ca;have s2:=sA.trans (ah.put (o:=.lst [V.int 0,V.int 1,V.int 2,V.int 0,V.int 1,V.int 2,V.int 1,V.int 4]) Ca);have T9:=Ju.same (ah.put (o:=.lst [V.int 0,V.int 1,V.int 2,V.int 0,V.int 1,V.int 2,V.int 1,V.int 4]) Ca);have jM:upd H2 o1 (.lst [V.int 0,V.int 1,V.int 2,V.int 0,V.int 1,V.int 2,V.int 1,V.int 4]) o1=some (.lst [V.int 0,V.int 1,V.int 2,V.int 0,V.int 1,V.int 2,V.int 1,V.int 4]):=aI;generalize upd H2 o1 (.lst [V.int 0,V.int 1,V.int 2,V.int 0,V.int 1,V.int 2,V.int 1,V.int 4])=H3 at s2 T9 jM ⊢;refine⟨_,aE.of jM,_,hx,x,rfl,yp.by x (λi σ H'=>∃(kk:Option V) (ts:List Addr) (z:List (Int×Int)),σ = [some (.int c),some (.ref l),kk]/\ah H H'/\Zn H' l ts z/\ZP z/\z.length=i+1) (by lia) (by lia) ⟨none,[t0],[p0],rfl,s2,T9,T8,rfl⟩ ?_ ?_⟩
  ·rintro i σ H' N hN hi ⟨kk,ts,z,rfl,s',hz,zp,zn⟩;wp_walk using fH;have b1:=iU c (4+(i:Int)) (m:=2) (by decide)
   have b2:=iU c (9+(i:Int)) (m:=8) (by decide)
   refine⟨⟨_,hz.sq⟩,by lia,by lia,by lia,by lia,λp np=>⟨_,ah.put np _ _ hz.l,by rw[List.length_map,hz.n];lia,hN _ _ ⟨_,ts++[p],z++[(1+cM c (4+(i:Int)) 2,1+cM c (9+(i:Int)) 8)],rfl,ah.put2 (s'.trans (ah.put np)) Cb,hz.snoc np _ _,zp.snoc ⟨by dsimp only;lia,by dsimp only;lia,by dsimp only;lia,by dsimp only;lia⟩,by simp[zn]⟩⟩⟩
  ·rintro σ H' ⟨kk,ts,z,rfl,s',hz,zp,zn⟩;have zl:=zp.zl5 (by lia) (by lia)
   wp_walk using fH;have T_:=iU c 15 (m:=60) (by decide)
   refine⟨λσ H2=>∃(l2:Addr) (ji:List Addr) (z2:List (Int×Int)),σ[1]? = some (some (.ref l2))/\ah H H2/\H l2=none/\Zn H2 l2 ji z2/\ZL z2,eo (λ_=>λt1 Ua l2 pZ=>⟨l2,[t1],[_],rfl,s'.trans ((ah.put Ua).trans (ah.put pZ)),(s'.trans (ah.put Ua)).free pZ,Zn.one (c:=(2+cM c 1 2,1+cM c 15 60)) aI pZ,ab9 (by lia) (by lia) (by lia) (by lia)⟩) λ_=>⟨l,ts,z,rfl,s',Cb,hz,zl⟩,?_⟩
   rintro σ H2 ⟨l2,ji,z2,e1,s2,n2,oq,zl2⟩;exact⟨_,e1,q l2 ji z2 H2 s2 n2 oq zl2⟩
theorem afb(T:Tx K mg A)(az:aj mg base A.aY A.aQ)(aA:aj mg base A.aZ A.aU)(aB:aj mg base A.a_ A.aV):aW P w K mg base bu 2 A.Bm A.Bo ["_law_found"] (ads K A.aX):=by
 refine T.IK.ok aek (λvs H Q E h=>?_) (λaR Ar outer s H vs Q E hr h=>?_)
 ·obtain⟨t,l1,l2,p1,p2,q1,q2,x,rfl,_⟩:=h
  rfl
 ·obtain⟨t,l1,l2,p1,p2,q1,q2,x,rfl,ht,x1,h1,h2,n1,n2,n3,n4,k1,k2,q⟩:=h;have pW:=hr.oV;refine⟨_,(aH (cy (PW.pt (gn (jw (jv (cQ xN rfl T.pO boot_isinstance (aa (pv 0) (aa (wN (v:=.ty "tuple") rfl T.rO boot_tuple rfl) au))))) (gn (bM lT (cQ gb rfl T.fz boot_len (aa (pv 0) au)) aF (bK _)) (gU (bM lT (bR gF (pv 0) aF (λ_ _=>rfl)) fD (bK _)))))) (aK (bD iA)) cE)
   (aH (cy (PW.pt (gn (jw (jv (cQ xN rfl T.pO boot_isinstance (aa (bR gF (pv 0) aF (λ_ _=>rfl)) (aa (wN (v:=.ty "int") rfl T.B0 boot_int rfl) au))))) (gn (jv (cQ xN rfl T.pO boot_isinstance (aa (bR gF (pv 0) aF (λ_ _=>rfl)) (aa (wN (v:=.ty "bool") rfl T.BZ boot_bool rfl) au)))) (gU (bM gB (bR gF (pv 0) aF (λ_ _=>rfl)) aF (bK _)))))) (aK (bD iA)) cE)
   (aK (bD (wR (br (TM T az aA aB) (hr.mono (by decide)) rfl T.IJ T.BF.kp T.II .nil aO (aa (bR gF (pv 0) aF (λ_ _=>rfl)) (aa aF (aa aF au)))) (wQ (br (TM T az aA aB) (hr.mono (by decide)) rfl T.IJ T.BF.kp T.II .nil aO (aa (bR gF (pv 0) aF (λ_ _=>rfl)) (aa aF (aa aF au)))))))))),?_⟩
  walk_at "rdt";refine⟨_,gD.tup ht,true,rfl,ite_no (by simp) ⟨_,.inr (bE.of ht),ite_no (by simp) ⟨_,bE.of ht,_,rfl,rfl,ite_no (by simp) ⟨_,bE.of ht,_,rfl,_,gD.int _,true,rfl,ite_no (by simp) ⟨_,bE.of ht,_,rfl,_,gD.int _,false,rfl,ite_no (by simp) ⟨_,bE.of ht,_,rfl,?_⟩⟩⟩⟩⟩⟩
  refine⟨_,rfl,ite_no (by lia) ⟨_,bE.of ht,_,rfl,l1,p1,q1,1,40,rfl,h1,by lia,by lia,by lia,k1,λH1 s1=>⟨true,rfl,ite_yes rfl ⟨_,bE.of (s1 _ _ ht),_,rfl,l2,p2,q2,1,60,rfl,h2.same s1,by lia,by lia,by lia,k2,λH2 s2=>q H2 (s1.trans s2)⟩⟩⟩⟩
theorem afc(T:Tx K mg A)(az:aj mg base A.aY A.aQ)(aA:aj mg base A.aZ A.aU)(aB:aj mg base A.a_ A.aV):aW P w K mg base bu 3 A.y_ A.zb ["first", "many", "at", "asker", "latest", "behind"] (abo K):=by
 refine T.Hz.ok adG (λvs H Q E h=>?_) (λaR Ar outer s H vs Q E hr h=>?_)
 ·obtain⟨f,m,a,s',l,b,ns,rfl,_⟩:=h
  rfl
 ·obtain⟨f,m,a,s',l,b,ns,rfl,hB,hS,hR,q⟩:=h;refine⟨_,(aH (dI (br (rP T az aA aB) (hr.mono (by decide)) rfl T.pN T.nZ.kp T.pM .nil aO (aa (pv 0) (aa aF (aa (gA (v:=.int 1000000) rfl T.S6 ⟨_,rfl⟩) (aa fD au))))))
   (aH (dI (br (rP T az aA aB) (hr.mono (by decide)) rfl T.pN T.nZ.kp T.pM .nil aO (aa (pv 1) (aa aF (aa (gA (v:=.int 16) rfl T.S5 ⟨_,rfl⟩) (aa fD au))))))
   (aH (dI (br (rP T az aA aB) (hr.mono (by decide)) rfl T.pN T.nZ.kp T.pM .nil aO (aa (pv 2) (aa aF (aa (gA (v:=.int 1000000000000) rfl T.S7 ⟨_,rfl⟩) (aa fD au))))))
   (aH (dI (br (rP T az aA aB) (hr.mono (by decide)) rfl T.pN T.nZ.kp T.pM .nil aO (aa (pv 3) (aa aF (aa (gA (v:=.int 20) rfl T.S8 ⟨_,rfl⟩) (aa fD au))))))
   (aH (cy (bM DP (pv 4) oK (bK _)) (aK (dI (br (rP T az aA aB) (hr.mono (by decide)) rfl T.pN T.nZ.kp T.pM .nil aO (aa (pv 4) (aa aF (aa (gA (v:=.int 10000000000000) rfl T.S9 ⟨_,rfl⟩) (aa fD au))))))) cE)
   (aK (dI (br (ae0 T az aA aB) (hr.mono (by decide)) rfl T.PZ T.Hy.kp T.PY .nil aO (aa (pv 5) au))))))))),?_⟩
  walk_at "rdm";refine⟨_,_,_,_,rfl,hB.f0,hB.f1,_,_,_,_,rfl,hB.m0,hB.m1,_,_,_,_,rfl,hB.a0,hB.a1,_,_,_,_,rfl,hB.s0,hB.s1,?_⟩
  try dsimp only
  cases l with
  | none=>exact ite_no (by simp[k_]) ⟨b,ns,rfl,hS,hR,q⟩
  | some x=>exact ite_yes (by simp[k_]) ⟨x,0,10000000000000,_,rfl,(hB.l x rfl).1,(hB.l x rfl).2,b,ns,rfl,hS,hR,q⟩
theorem afd(T:Tx K mg A)(az:aj mg base A.aY A.aQ)(aA:aj mg base A.aZ A.aU)(aB:aj mg base A.a_ A.aV):aW P w K mg base bu 3 A.zj A.zm ["plate", "ring", "place", "beat"] (aba K [A.bx]):=by
 refine T.HC.ok adJ (λvs H Q E h=>?_) (λaR Ar outer s H vs Q E hr h=>?_)
 ·obtain⟨C,p,P,fp,r,c,b,rfl,_⟩:=h
  rfl
 ·obtain⟨C,p,P,fp,r,c,b,rfl,hC,hP,ok,h0,h1,h5,h6,q⟩:=h;obtain⟨dx,a1,a2,a3,a4,ts,fs,pX,h⟩:=id hP;have Cc:=ok.c r.toNat (by lia)
  have hl:=ok.aG;have hn:=ok.n1;refine⟨_,(aK (bD (bq cG (pv 3) (bq lR (bq jz (k7 (pv 0) T.aet (ae4 T az aA aB) (hr.mono (by decide)) T.Rl .nil aO (aa (pv 1) (aa (pv 2) au))) (pv 3)) (EE (pv 0) T.Tu (Tw T az aA aB) (hr.mono (by decide)) T.Il .nil aO))))),?_⟩
  wp_walk using h.o,h.f1,h.f2,h.f3,h.f4,h.f5,h.f6,h.m1,h.m2,h.m3,h.m4,h.m5,h.m6,h.m7,h.m8,h.m9,h.gJ,h.ia,h.cp.cl,h.cp.n1,h.cp.n2,h.cp.n3,h.cp.n4,h.cp.n5,h.cp.n6;refine⟨hC,C,p,P,fp,r,c,rfl,hC,hP,h0,h1,hn,by lia,Cc.2,h5,h6,by lia,?_⟩
  wp_walk using h.o,h.f1,h.f2,h.f3,h.f4,h.f5,h.f6,h.m1,h.m2,h.m3,h.m4,h.m5,h.m6,h.m7,h.m8,h.m9,h.gJ,h.ia,h.cp.cl,h.cp.n1,h.cp.n2,h.cp.n3,h.cp.n4,h.cp.n5,h.cp.n6;refine⟨hC,C,p,P,fp,rfl,hP,?_⟩;walk_at "rdm";exact⟨by lia,q⟩
theorem afe(T:Tx K mg A)(az:aj mg base A.aY A.aQ)(aA:aj mg base A.aZ A.aU)(aB:aj mg base A.a_ A.aV):aW P w K mg base bu 3 A.uW A.zE ["self", "plate", "ring", "beat", "dues"] (aci K A.aX A.bG A.aV (cg eU) (b_ "latest_of")):=by
 refine T.Qq.ok adS (λvs H Q E h=>?_) (λaR Ar outer s H vs Q E hr h=>?_)
 ·obtain⟨x,p,r,b,D,ps,ds,rfl,_⟩:=h
  rfl
 ·obtain⟨x,p,r,b,D,ps,ds,rfl,hd,d1,eX,T0,q⟩:=h;refine⟨_,(aK (bD (br (ae1 T az aA aB) (hr.mono (by decide)) rfl T.Qj T.HK.kp T.Qi .nil aO (aa (pv 4) au)))),?_⟩
  walk_at "rdm";exact⟨D,ps,ds,rfl,hd,d1,eX,T0,q⟩
theorem afg(T:Tx K mg A)(az:aj mg base A.aY A.aQ)(aA:aj mg base A.aZ A.aU)(aB:aj mg base A.a_ A.aV):aW P w K mg base bu 3 A.Af A.Ag ["self", "zones", "lap", "skew", "swing"] (aaW K):=by
 refine T.Q7.ok ad1 (λvs H Q E h=>?_) (λaR Ar outer s H vs Q E hr h=>?_)
 ·obtain⟨C,p,dx,za,sa,qJ,z,aG,dF,sw,rfl,_⟩:=h
  rfl
 ·obtain⟨C,p,dx,za,sa,qJ,z,aG,dF,sw,rfl,cp,hp,hz,ok,h1,h2,h3,h4,hd,hS,so,q⟩:=h;refine⟨_,(aH (dI (br (aeH T az aA aB) (hr.mono (by decide)) rfl T.QS T.Ic.kp T.QO .nil aO (aa (pv 1) au)))
   (aH (dI (br (aeI T az aA aB) (hr.mono (by decide)) rfl T.QU T.Ie.kp T.QT .nil aO (aa (pv 1) (aa (pv 2) (aa (pv 3) au)))))
   (aH (cL (pv 0) (br (aeK T az aA aB) (hr.mono (by decide)) rfl T.Q0 T.Ii.kp T.QZ .nil aO (aa (pv 1) au)) rfl)
   (aH (dI (br (ae3 T az aA aB) (hr.mono (by decide)) rfl T.QW T.Ig.kp T.QV .nil aO (aa (pv 4) (aa (cQ gb rfl T.fz boot_len (aa (bF (pv 0) rfl) au)) au))))
   (aH (cL (pv 0) (pv 2) rfl)
   (aH (cL (pv 0) (pv 3) rfl)
   (aH (cL (pv 0) (xh MW rfl T.pQ boot_list (aa (pv 4) au)) rfl)
   (aH (cL (pv 0) (br (aeL T az aA aB) (hr.mono (by decide)) rfl T.Q4 T.Ij.kp T.Q3 .nil aO (aa (bF (pv 0) rfl) (aa aF au))) rfl)
   (aK (cL (pv 0) (br (aeM T az aA aB) (hr.mono (by decide)) rfl T.Q6 T.Ik.kp T.Q5 .nil aO (aa (bF (pv 0) rfl) au)) rfl)))))))))),?_⟩
  wp_walk using cp.cl,cp.n1,cp.n2,cp.n3,cp.n4,cp.n5,cp.n6;refine⟨za,qJ,z,rfl,hz,ok,λH1 s1=>⟨za,qJ,z,aG,dF,rfl,hz.same s1,ok,h1,h2,h3,h4,hd,?_⟩⟩;refine⟨za,qJ,z,rfl,hz.same s1,ok,λa1 H2 s2 n1 e1=>?_⟩;have lX:=(s1.trans s2) _ _ hp;have mL:a1≠p:=(bX (s1 _ _ hp) n1).symm;have cl:=nA z λp hp=>(ok.r p hp).1;have akK:=ok.Ez;have c2:=ok.s2;have pD:SameBut p H H2:=.of (s1.trans s2);have fr1:H a1=none:=s1.free n1;wp_walk using cp.cl,cp.n1,cp.n2,cp.n3,cp.n4,cp.n5,cp.n6,lX;refine⟨_,.inl (aE.of ((aD mL).trans e1)),?_⟩;have Jv:∀ {H':Hp},SameBut p H H'->aE K H' sa (sw.map V.int):=λ{H'} sb=>by
   rcases hS with(h | ⟨o,h⟩) | h
   ·exact .inl (.inl (sb _ _ h (qg h hp (by intro z;cases z))))
   ·exact .inl (.inr ⟨o,sb _ _ h (qg h hp (by intro z;cases z))⟩)
   ·exact .inr h
  refine⟨sa,sw,_,rfl,Jv pD.put,?_,?_,?_⟩
  ·simpa only[List.length_map,cl] using so
  ·simp only[List.length_map];lia
  wp_walk using cp.cl,cp.n1,cp.n2,cp.n3,cp.n4,cp.n5,cp.n6;refine⟨_,.inl (Jv pD.put),λa2 n2=>?_⟩;have p5:p≠a2:=bX aI n2;have Ub:H2 a2=none:=by rw[aD p5.symm] at n2;exact n2
  wp_walk using cp.cl,cp.n1,cp.n2,cp.n3,cp.n4,cp.n5,cp.n6,aD p5;have na2:a1≠a2:=bX e1 Ub;have lJ:SameBut p H (upd (upd (upd H2 p (HO.ins C dx [(Str.ofString "ring_cells",V.ref a1),(Str.ofString "lap",V.int aG),(Str.ofString "skew",V.int dF)])) a2 (HO.lst (List.map V.int sw))) p
   (HO.ins C dx [(Str.ofString "ring_cells",V.ref a1),(Str.ofString "lap",V.int aG),(Str.ofString "skew",V.int dF),(Str.ofString "swing",V.ref a2)])):=(pD.put.step (ah.put n2)).put
  have Nm:=e1;have fr2:H a2=none:=(s1.trans s2).free Ub;generalize Jw:upd (upd (upd H2 p _) a2 _) p _=H3 at lJ ⊢;have p3:H3 p=some (HO.ins C dx [(Str.ofString "ring_cells",V.ref a1),(Str.ofString "lap",V.int aG),(Str.ofString "skew",V.int dF),(Str.ofString "swing",V.ref a2)]):=by rw[← Jw,aI]
  have q1:H3 a1=some (.lst ((counts z).map V.int)):=by rw[← Jw,aD mL,aD na2,aD mL];exact e1
  have q2:H3 a2=some (.lst (sw.map V.int)):=by rw[← Jw,aD p5.symm,aI]
  have cm:∀c∈counts z,0<=c/\c<=1000:=λc hc=>by
   obtain⟨y,hy,rfl⟩:=o_ hc;have:=ok.r y hy;lia
  refine⟨a1,counts z,0,rfl,aE.of q1,by lia,cm,by decide,by decide,λa3 ts H4 s4 n3 Jx z4=>?_⟩
  have p4:=s4 _ _ p3;have Jy:a3≠p:=(bX p3 n3).symm;have oR:H a3=none:=by
   cases e:H a3 with
   | none=>rfl
   | some o=>rw[lJ _ _ e Jy] at n3;cases n3
  have Jz:∀t∈ts,t≠p:=λt ht=>(bX p3 (Jx t ht)).symm;have frt:∀t∈ts,H t=none:=λt ht=>by
   cases e:H t with
   | none=>rfl
   | some o=>have:=lJ _ _ e (Jz t ht);rw[Jx t ht] at this;cases this
  wp_walk using cp.cl,cp.n1,cp.n2,cp.n3,cp.n4,cp.n5,cp.n6,p4;have z5:=z4.keep (H':=upd H4 p (HO.ins C dx [(Str.ofString "ring_cells",V.ref a1),(Str.ofString "lap",V.int aG),(Str.ofString "skew",V.int dF),(Str.ofString "swing",V.ref a2),(Str.ofString "number_cells",V.ref a3)])) (aD Jy) λt ht=>aD (Jz t ht);have zl:(jE (counts z) 0).length<=1000000:=by
   have:=xO (s:=0) (by decide) (counts z) 0 cm
   have e:(counts z).length<=120:=by lia
   unfold jE;lia
  refine⟨a3,ts,_,rfl,z5,zl,λa4 H5 s5 n4 e4=>?_⟩;have JA:a4≠p:=(bX aI n4).symm;have Cd:SameBut p H H5:=((lJ.step s4).put).step s5;have Uc:H4 a4=none:=by rw[aD JA] at n4;exact n4
  have fr4:H a4=none:=by
   cases e:H a4 with
   | none=>rfl
   | some o=>rw[(lJ.step s4) _ _ e JA] at Uc;cases Uc
  wp_walk using cp.cl,cp.n1,cp.n2,cp.n3,cp.n4,cp.n5,cp.n6,s5 _ _ aI;refine q _ dx a1 a2 a3 a4 ts Cd.put ?_ aI (nC.lit cp aI ?_ ?_ ?_ ?_)
  ·intro b hb;simp only[List.mem_cons] at hb;rcases hb with rfl | rfl | rfl | rfl | hb
   ·exact fr1
   ·exact fr2
   ·exact oR
   ·exact fr4
   ·exact frt b hb
  ·rw[aD mL];exact s5 _ _ ((aD mL).trans (s4 _ _ q1))
  ·rw[aD p5.symm];exact s5 _ _ ((aD p5.symm).trans (s4 _ _ q2))
  ·exact(z5.same s5).keep (aD Jy) λt ht=>aD (Jz t ht)
  ·rw[aD JA];exact e4
theorem Ud(T:Tx K mg A)(az:aj mg base A.aY A.aQ)(aA:aj mg base A.aZ A.aU)(aB:aj mg base A.a_ A.aV):aW P w K mg base bu 3 A.Aw A.Ax ["plate", "number", "ask"] (abT K [A.bx] A.aX):=by
 refine T.BE.ok aeb (λvs H Q E h=>?_) (λaR Ar outer s H vs Q E hr h=>?_)
 ·obtain⟨C,p,ap,k,P,fp,q',m,b,dx,rfl,_⟩:=h
  rfl
 ·obtain⟨C,p,ap,k,P,fp,q',m,b,dx,rfl,hC,hP,ha,hf,hn,q⟩:=h;refine⟨_,(aK (aby rfl (bD (br (ae6 T az aA aB) (hr.mono (by decide)) rfl T.RB T.Im.kp T.RA .nil aO (aa (pv 0) (aa (pv 2) au)))))),?_⟩
  walk_at "rdt";exact⟨C,p,ap,P,fp,q',m,b,dx,rfl,hC,hP,ha,hf,hn,q⟩
theorem JC(T:Tx K mg A)(az:aj mg base A.aY A.aQ)(aA:aj mg base A.aZ A.aU)(aB:aj mg base A.a_ A.aV):aW P w K mg base bu 4 A.ze A.rE ["first", "many", "at", "asker", "latest", "behind"] (abr K A.aX):=by
 refine T.vG.ok PD (λvs H Q E h=>?_) (λaR Ar outer s H vs Q E hr h=>?_)
 ·obtain⟨f,m,a,s',l,bv,ns,rfl,_⟩:=h
  rfl
 ·obtain⟨f,m,a,s',l,bv,ns,rfl,hB,hv,hR,q⟩:=h;refine⟨_,(aH (bI (i:=6) PD.nd rfl (Or.inl rfl) (br (aeD T az aA aB) (hr.mono (by decide)) rfl T.P5 T.HA.kp T.P4 .nil aO (aa (pv 5) au)))
   (aH (dI (br (afc T az aA aB) (hr.mono (by decide)) rfl T.P1 T.Hz.kp T.P0 .nil aO (aa (pv 0) (aa (pv 1) (aa (pv 2) (aa (pv 3) (aa (pv 4) (aa (pv 6) au))))))))
   (aK (bD (tF T.Sz (aeC T az aA aB) (hr.mono (by decide)) rfl T.SA T.PX .nil aO (aa fD (aa (pv 0) (aa (pv 1) (aa (gZ au) (aa (pv 2) (aa (pv 3) (aa (pv 4) (aa (pv 6) (aa iA au)))))))))))))),?_⟩
  walk_at "rdt";refine⟨_,ns,rfl,hv,λb H1 s1 hb=>?_⟩;walk_at "rdt";refine⟨_,_,_,_,_,_,ns,rfl,hB,bE.of hb,hR,?_⟩;walk_at "rdt";intro mk nm x dx nx ud fV;refine⟨x,dx,_,_,_,_,_,_,_,_,_,rfl,aI,rfl,?_⟩;obtain⟨a1,a2,a3⟩:=abk (K:=K) (C:=A.aX) (q:=⟨"read",f,m,[],a,s',l,ns,false⟩) (s1.trans (ah.put nm)) nx ud fV aI (ah.put nm _ _ hb);exact q _ _ _ _ _ a1 a2 a3
theorem Ue(T:Tx K mg A)(az:aj mg base A.aY A.aQ)(aA:aj mg base A.aZ A.aU)(aB:aj mg base A.a_ A.aV):aW P w K mg base bu 4 A.zo A.zq ["plate", "ring", "beat", "cells"] (abb K [A.bx]):=by
 refine T.Bv.ok pJ (λvs H Q E h=>?_) (λaR Ar outer s H vs Q E hr h=>?_)
 ·obtain⟨C,p,P,fp,r,b,ca,xU,cz,rfl,_⟩:=h
  rfl
 ·obtain⟨C,p,P,fp,r,b,ca,xU,cz,rfl,hC,hP,ok,r0,r1,hz,hq,hlen,q⟩:=h;have hsl:=ok.sw.len;refine⟨_,(aH (bI (i:=4) pJ.nd rfl (Or.inl rfl) (eO au))
   (aH (dY PassesOwn.never rfl (fE (pv 3)) (jy rfl (dJ (bH (i:=5) pJ.nd rfl (Or.inl rfl)) (dJ (bH (i:=6) pJ.nd rfl (Or.inl rfl)) jx)))
   (aH (bI (i:=7) pJ.nd rfl (Or.inl rfl) (br (afd T az aA aB) (hr.mono (by decide)) rfl T.Qa T.HC.kp T.P_ .nil aO (aa (pv 0) (aa (pv 5) (aa (pv 6) (aa (bq cG (pv 2) (k7 (pv 0) T.aeu (aeO T az aA aB) (hr.mono (by decide)) T.Ro .nil aO (aa (pv 1) (aa (pv 5) au)))) au))))))
   (aH (bI (i:=1) pJ.nd rfl (Or.inl rfl) (pv 5))
   (aH (bI (i:=2) pJ.nd rfl (Or.inl rfl) (bq cG (pv 7) (k7 (pv 0) T.Jc (Jk T az aA aB) (hr.mono (by decide)) T.BD .nil aO (aa (pv 5) au))))
   (aK (dI (jY PySem.F.plainAttrs_list PySem.F.slot_list_append PySem.F.type_list_append kU (pv 4) (aa (gZ (aa (pv 1) (aa (pv 6) (aa (pv 7) (aa (pv 2) au))))) au))))))))
   (aK (bD (pv 4))))),?_⟩
  walk_at "rdm";intro l hl;have sl:=ah.put (o:=.lst []) hl;refine rl ca (xU.map V.ref) (λi σ H'=>∃x y z ts,σ = [some (.ref p),some (.int (c9 P (r,b) (cz.take i)).1),some (.int (c9 P (r,b) (cz.take i)).2),some (.ref ca),some (.ref l),x,y,z]/\ah H H'/\(∀t∈ts,H t=none)/\i<=cz.length/\Zt H' l ts (gc P (r,b) (cz.take i))) (λQ q=>⟨_,rfl,q⟩) (sl.seq hz.sq)
   ⟨none,none,none,[],rfl,sl,(λ_ h=>nomatch h),Nat.zero_le _,Zt.start⟩ (by rintro i σ H' _ ⟨x,y,z,ts,rfl,hs,_⟩;exact hs.seq hz.sq) ?_ ?_
  ·rintro i x σ H' N hN hx ⟨x0,y0,z0,q9,rfl,hs,pT,hi,h1⟩;obtain⟨t,w,rfl,hw,ht⟩:=hz.at hx;have B_:=d7 hw;obtain⟨w0,w1,w2,w3⟩:=hq w (get_mem hw);have Cc:=ok.c w.1.toNat (by lia)
   obtain⟨e0,e1⟩:=EJ P (n:=P.rc.length) (cz.take i) (r,b) r0 r1 λq iO=>⟨(hq q (List.mem_of_mem_take iO)).1,(hq q (List.mem_of_mem_take iO)).2.1⟩;have es:c9 P (r,b) (cz.take (i+1))=j_ P (c9 P (r,b) (cz.take i)) w:=by rw[take_succ_get hw,EG]
   have ws:gc P (r,b) (cz.take (i+1))=gc P (r,b) (cz.take i)++[xT P (c9 P (r,b) (cz.take i)) w]:=by rw[take_succ_get hw,EH]
   rw[es,ws] at hN;have wl:(gc P (r,b) (cz.take i)).length=i:=by rw[t_,List.length_take];lia
   generalize c9 P (r,b) (cz.take i)=st at e0 e1 hN ⊢;generalize gc P (r,b) (cz.take i)=rows at h1 wl hN ⊢;refine k6 (bE.of (hs _ _ ht)) rfl ?_;have rQ:=hP.same hs;obtain⟨dx,a1,a2,a3,a4,ts,fs,pX,h⟩:=id rQ;wp_walk using h.o,h.f1,h.f2,h.f3,h.f4,h.f5,h.f6,h.m1,h.m2,h.m3,h.m4,h.m5,h.m6,h.m7,h.m8,h.m9,h.gJ,h.ia,h.cp.cl,h.cp.n1,h.cp.n2,h.cp.n3,h.cp.n4,h.cp.n5,h.cp.n6;refine⟨hC,C,p,P,fp,st.1,w.1,rfl,rQ,by lia,?_⟩
   wp_walk using h.o,h.f1,h.f2,h.f3,h.f4,h.f5,h.f6,h.m1,h.m2,h.m3,h.m4,h.m5,h.m6,h.m7,h.m8,h.m9,h.gJ,h.ia,h.cp.cl,h.cp.n1,h.cp.n2,h.cp.n3,h.cp.n4,h.cp.n5,h.cp.n6;refine⟨C,p,P,fp,w.1,w.2,_,rfl,hC,rQ,ok,w0,w1,w2,w3,?_⟩;wp_walk using h.o,h.f1,h.f2,h.f3,h.f4,h.f5,h.f6,h.m1,h.m2,h.m3,h.m4,h.m5,h.m6,h.m7,h.m8,h.m9,h.gJ,h.ia,h.cp.cl,h.cp.n1,h.cp.n2,h.cp.n3,h.cp.n4,h.cp.n5,h.cp.n6;refine⟨hC,C,p,P,fp,w.1,rfl,rQ,w0,w1,Cc.1,Cc.2,?_⟩;walk_at "rdm";refine⟨⟨_,aE.of h1.l⟩,λt1 n1=>?_⟩;have hn:=h1.n;have e2:=ah.put n1 (o:=.tup [V.int w.1,V.int w.2,V.int (ie P st w),V.int (j_ P st w).2]) _ _ h1.l;refine⟨_,e2,by simp;lia,hN _ _ ⟨_,_,_,q9++[t1],rfl,ah.put2 (hs.trans (ah.put n1)) hl,?_,B_,h1.snoc n1 (xT P st w)⟩⟩
   intro t' kE;rcases List.mem_append.mp kE with kE | kE
   ·exact pT t' kE
   ·rw[List.mem_singleton.mp kE];exact hs.free n1
  ·rintro σ H' ⟨x0,y0,z0,q9,rfl,hs,pT,hi,h1⟩;walk_at "rdm";rw[lenZ hz.n,List.take_length] at h1;exact q _ _ _ hs hl pT h1
theorem Ce(T:Tx K mg A)(az:aj mg base A.aY A.aQ)(aA:aj mg base A.aZ A.aU)(aB:aj mg base A.a_ A.aV):aW P w K mg base bu 4 A.uQ A.rF ["ring", "dues"] (acp K A.aX A.bG A.aQ (cg dP) (b_ "nearest_of")):=by
 refine T.rM.EY adM (λvs H Q E h=>?_) (λAr outer s H vs Q E hr h=>?_)
 ·obtain⟨r,D,ps,ds,P',b,rfl,_⟩:=h
  rfl
 ·obtain⟨r,D,ps,ds,P',b,rfl,hd,d1,eX,hc,T0,q⟩:=h;have d9:=hd.n;have iR:(Ar.deeper (envOfC "nearest_of" (aP dP) s.heap.objs.size A.uQ A.rF.code)).in1.depth<recursionLimit:=hr.depth;have vY:_+16<cLine:=Nat.lt_of_le_of_lt (Nat.add_le_add_left (by decide:16<=64) _) hr.units
  refine⟨_,(aK (bD (bF (E7 (c:=A.aY) (P:=A.aQ) (ps:=["due"]) (fs:=["ring"]) (fv:=[0]) rfl T.lG az T.Ti (je.of rfl rfl rfl rfl (by rfl) (by rfl) (by repeat (first | exact trivial | refine⟨rfl,?_⟩)) (by rfl) (by rfl) (by rfl) (by decide +kernel)) rfl rfl rfl (λ_ _ _ _=>rfl) (λf c2 s2 H2=>(gZ (aa (cQ Ms rfl T.vU boot_abs (aa (bq jz (br (Jd T az aA aB) ((hr.mono (by decide)).in1.deeper _) rfl T.Bx T.vH.kp T.Bw .nil aO (aa (pv 0) au)) (pv 1)) au)) (aa (eV (K:=K) rfl (pv 0) rfl) au)))) rfl iR vY (pv 1)) rfl))),?_⟩
  walk_at "rdt";refine⟨ps,hd.l,by lia,T0,qZ (kh P' r b) ds,λj a H2 hj sb tb=>?_,λi a H2 hi least sb tb=>?_⟩
  ·have iE:j<ds.length:=by rw[← d9];exact d7 hj
   refine(hd.kt (T0.iW sb)).el j a ds[j] hj (List.getElem?_eq_getElem iE) λdx ap l ts m b' bC hD=>?_;rw[yr (List.getElem?_eq_getElem iE)];refine⟨a,ds[j],dx,ap,l,ts,m,b',bC,rfl,hD,hc _ (List.getElem_mem iE),_,rfl,_,rfl,_,rfl,_,_,_,hD.o,T.mG,T.mH,_,rfl,λp np=>⟨?_,λ_ _ e _=>ah.put np _ _ e,tb.same (ah.put np)⟩⟩
   show [V.int _,V.int _] = [V.int _,V.int _];congr 2;unfold kh;dsimp only;split <;> lia
  ·have h_:i<ds.length:=by rw[← d9];exact d7 hi
   refine(hd.kt (T0.iW sb)).el i a ds[i] hi (List.getElem?_eq_getElem h_) λdx ap l ts m b' bC hD=>?_;rw[d9] at least;exact⟨_,_,_,hD.o,T.mG,T.mH,_,rfl,q _ H2 sb tb (OE (λ_=>rfl) (List.getElem?_eq_getElem h_) least)⟩
theorem afh(T:Tx K mg A)(az:aj mg base A.aY A.aQ)(aA:aj mg base A.aZ A.aU)(aB:aj mg base A.a_ A.aV):aW P w K mg base bu 4 A.Ay A.Az ["self", "plate", "number", "ask"] (abU K [A.bx] A.aX A.bG):=by
 refine T.RD.ok aec (λvs H Q E h=>?_) (λaR Ar outer s H vs Q E hr h=>?_)
 ·obtain⟨C,p,pl,ap,dx,n,P,fp,q',m,b,bC,rfl,_⟩:=h
  rfl
 ·obtain⟨C,p,pl,ap,dx,n,P,fp,q',m,b,bC,rfl,hp,hC,hP,mL,p5,ha,hf,hn,q⟩:=h;refine⟨_,(aH (cL (pv 0) (pv 2) rfl)
   (aH (cL (pv 0) (pv 3) rfl)
   (aK (cL (pv 0) (br (Ud T az aA aB) (hr.mono (by decide)) rfl T.Ip T.BE.kp T.Io .nil aO (aa (pv 1) (aa (pv 2) (aa (pv 3) au)))) rfl)))),?_⟩
  wp_walk using T,hp;have Ug:ap≠p:=λe=>by
   have:=ha.o;rw[e,hp] at this;simp[fh] at this
  have nm:m≠p:=λe=>by have:=ha.ms;rw[e,hp] at this;cases this
  have nb:b≠p:=λe=>by have:=ha.bh;rw[e,hp] at this;cases this
  have rR:bY K C (upd H p (HO.ins A.bG dx [("number",V.int n),("ask",V.ref ap)])) pl P fp:=hP.keep (aD (Ne.symm mL)) λb hb=>aD (λe=>p5 (e▸hb));have jo:dN K A.aX (upd H p (HO.ins A.bG dx [("number",V.int n),("ask",V.ref ap)])) ap q' m b bC:=⟨(aD Ug).trans ha.o,(aD nm).trans ha.ms,(aD nb).trans ha.bh⟩;have sb:SameBut p H (upd H p (HO.ins A.bG dx [("number",V.int n),("ask",V.ref ap)])):=(SameBut.of (ah.refl H)).put;have nO:upd H p (HO.ins A.bG dx [("number",V.int n),("ask",V.ref ap)]) p=some (HO.ins A.bG dx [("number",V.int n),("ask",V.ref ap)]):=aI;generalize upd H p (HO.ins A.bG dx [("number",V.int n),("ask",V.ref ap)])=H1 at rR jo sb nO ⊢;refine⟨C,pl,ap,n,P,fp,q',m,b,bC,rfl,hC,rR,jo,hf,hn,λl ts H2 s2 nl hz=>⟨_,_,_,s2 _ _ nO,T.mG,T.BU,by simp,?_⟩⟩
  have oA:=jo.same s2;have pZ:l≠p:=bX nO nl |>.symm
  have Cb:H l=none:=by
   cases e:H l with
   | none=>rfl
   | some o =>
    have:=sb l o e pZ;rw[nl] at this;cases this
  refine q l ts _ Cb (sb.step s2).put ⟨aI,⟨(aD Ug).trans oA.o,(aD nm).trans oA.ms,(aD nb).trans oA.bh⟩,hz.keep (aD pZ) λt ht=>aD λe=>?_⟩
  obtain⟨i,hi,et⟩:=List.mem_iff_getElem.mp ht;have gH:i<(cH P.nc q'.first q'.many).length:=by rw[← hz.n];exact hi
  have:=hz.t i t _ (by rw[← et];exact List.getElem?_eq_getElem hi) (List.getElem?_eq_getElem gH)
  rw[e,s2 _ _ nO] at this;cases this
theorem afi(T:Tx K mg A)(az:aj mg base A.aY A.aQ)(aA:aj mg base A.aZ A.aU)(aB:aj mg base A.a_ A.aV):aW P w K mg base bu 4 A.AH A.AI ["plate", "asks"] (abD K [A.bx] A.aX):=by
 refine T.Iv.ok yS (λvs H Q E h=>?_) (λaR Ar outer s H vs Q E hr h=>?_)
 ·obtain⟨C,p,la,P,fp,ps,qs,rfl,_⟩:=h
  rfl
 ·obtain⟨C,p,la,P,fp,ps,qs,rfl,hC,hP,hn,ha,ok,q⟩:=h;refine⟨_,(aH (bI (i:=2) yS.nd rfl (Or.inl rfl) (eO au))
   (aH (dY PassesOwn.never rfl (tW rfl T.oh (aa (pv 1) au)) (jy rfl (dJ (bH (i:=3) yS.nd rfl (Or.inl rfl)) (dJ (bH (i:=4) yS.nd rfl (Or.inl rfl)) jx)))
   (aH (dI (br (aeR T az aA aB) (hr.mono (by decide)) rfl T.RH T.Iq.kp T.RG .nil aO (aa (pv 1) (aa (pv 3) au))))
   (aH (dI (br (Ud T az aA aB) (hr.mono (by decide)) rfl T.Ip T.BE.kp T.Io .nil aO (aa (pv 0) (aa (pv 3) (aa (pv 4) au)))))
   (aH (dI (br (aeS T az aA aB) (hr.mono (by decide)) rfl T.RJ T.Ir.kp T.RI .nil aO (aa (pv 1) (aa (pv 3) au))))
   (aK (dI (jY PySem.F.plainAttrs_list PySem.F.slot_list_append PySem.F.type_list_append kU (pv 2) (aa (br (ae7 T az aA aB) (hr.mono (by decide)) rfl T.RL T.Iu.kp T.RK .nil aO (aa (pv 1) (aa (pv 3) au))) au))))))))
   (aK (bD (pv 2))))),?_⟩
  walk_at "rdt";intro l hl;have sl:=ah.put (o:=.lst []) hl;have on:=ok.n;have an:=ha.n;refine re la (ps.map V.ref) (λk σ H'=>∃(x1 x2:Option V) (us:List Addr),σ = [some (.ref p),some (.ref la),some (.ref l),x1,x2]/\ah H H'/\(∀t∈us,H t=none)/\Zt H' l us (iQ qs k)) (λQ q=>?_) (aE.of (sl _ _ ha.l)) ⟨none,none,[],rfl,sl,(λ_ h=>nomatch h),Zt.start⟩ (by rintro i σ H' _ ⟨_,_,_,rfl,s1,_⟩;exact aE.of (s1 _ _ ha.l)) ?_ ?_
  ·walk_at "rdm";exact q
  ·rintro k x σ H' T1 N hN hx ⟨x1,x2,us,rfl,s1,hu,hz⟩ hT;have TJ:k<ps.length:=by have:=(List.getElem?_eq_some_iff.mp hx).1;simpa using this
   have hk:k<qs.length:=by lia
   have iJ:=List.getElem?_eq_getElem hk;obtain⟨ap,m,b,dx,e1,a1⟩:=ha.at iJ;rw[e1] at hx;cases hx;have s2:=s1.trans (ah.put (o:=.tup [.int (k:Int),.ref ap]) hT);refine k6 (bE.of aI) rfl ?_;walk_at "rdm";have oA:=ha.same s2;have a2:=a1.same s2;have fk:=ok.fit k _ iJ;refine⟨la,ps,qs,k,_,rfl,oA,iJ,λq0 h0 e0=>?_,?_⟩
   ·have:=ok.up (k - 1) q0 qs[k] e0 (by rw[show k - 1+1=k by lia];exact iJ)
    exact this
   refine⟨C,p,ap,_,P,fp,_,m,b,dx,rfl,hC,hP.same s2,a2,fk.1,hn,λ_ _ H3 s3 _ _=>?_⟩;have p6:=s2.trans s3;have Uh:=ha.same p6;refine⟨la,ps,qs,k,_,rfl,Uh,iJ,fk.2,ok.bh k _ iJ,⟨⟨_,aE.of (s3 _ _ (ah.put hT _ _ hz.l))⟩,?_⟩⟩;refine⟨la,ps,qs,k,_,rfl,Uh,iJ,on,fk.2,λt H4 s4 nt ht=>?_⟩;have JD:=((hz.same (ah.put (o:=.tup [.int (k:Int),.ref ap]) hT)).same s3).same s4;have zl:=JD.n;unfold iQ at zl;rw[List.length_map,List.length_range] at zl;have JF:=p6.trans s4;refine⟨_,JD.l,by rw[List.length_map];lia,hN _ _ ⟨_,_,us++[t],rfl,ah.put2 JF hl,?_,?_⟩⟩
   ·intro t' kE;rcases List.mem_append.mp kE with kE | kE
    ·exact hu t' kE
    ·rw[List.mem_singleton.mp kE];exact p6.free nt
   ·unfold iQ;rw[List.range_succ,List.map_append];exact JD.abz ht
  ·rintro σ H' ⟨x1,x2,us,rfl,s1,hu,hz⟩;walk_at "rdm";rw[List.length_map,an] at hz;exact q _ _ _ s1 hl hu hz
theorem afj(T:Tx K mg A)(az:aj mg base A.aY A.aQ)(aA:aj mg base A.aZ A.aU)(aB:aj mg base A.a_ A.aV):aW P w K mg base bu 5 A.zz A.zA ["plate", "ring", "beat", "due"] (acq K [A.bx] A.aX A.bG):=by
 refine T.HG.ok adN (λvs H Q E h=>?_) (λaR Ar outer s H vs Q E hr h=>?_)
 ·obtain⟨C,p,P,fp,r,b,dp,d,dx,ap,l,ts,m,b',bC,rfl,_⟩:=h
  rfl
 ·obtain⟨C,p,P,fp,r,b,dp,d,dx,ap,l,ts,m,b',bC,rfl,hC,hP,ok,r0,r1,hD,d1,hc,q⟩:=h;have dg:=hD.o;unfold ig at dg;refine⟨_,(aK (bD (bR gF (bR cS (br (Ue T az aA aB) (hr.mono (by decide)) rfl T.HE T.Bv.kp T.HD .nil aO (aa (pv 0) (aa (pv 1) (aa (pv 2) (aa (Zw ZI (bF (pv 3) rfl) Zr (Zu aF)) au))))) aF (λ_ _=>rfl)) aF (λ_ _=>rfl)))),?_⟩
  wp_walk using T,dg;have hn:=hD.c.n;have h0:ts[0]? = some (ts[0]'(by lia)):=List.getElem?_eq_getElem _
  have e0:d.c[0]? = some (cj d):=by unfold cj;rw[List.getD_eq_getElem?_getD,List.getElem?_eq_getElem (by lia)];rfl
  have ht:=hD.c.t 0 _ _ h0 e0;have t1:nj (ts.map V.ref) none (some 1) = [V.ref (ts[0]'(by lia))]:=by
   rw[show (some (1:Int))=some ((1:Nat):Int) from rfl,abV,List.take_one,List.head?_map,List.head?_eq_getElem?,h0];rfl
  refine⟨_,hD.c.sq,λp1 n1=>?_⟩;rw[t1];have s1:=ah.put (o:=.lst [V.ref (ts[0]'(by lia))]) n1
  refine⟨C,p,P,fp,r,b,p1,[ts[0]'(by lia)],[cj d],rfl,hC,hP.same s1,ok,r0,r1,⟨aI,rfl,λi t k i1 i2=>?_⟩,λk hk=>by rw[List.mem_singleton.mp hk];exact hc _ (get_mem e0),by simp,λl2 ji H2 s2 nl Jx hz=>?_⟩
  ·cases i with
   | zero=>simp at i1 i2;subst i1 i2;exact s1 _ _ ht
   | succ i=>simp at i1
  ·obtain⟨u,hu,hu2⟩:=hz.at (i:=0) (by rw[t_];simp)
   exact⟨l2,rfl,_,aE.of hz.l,_,fG (j:=0) hu,u,rfl,_,bE.of hu2,_,rfl,q H2 (s1.trans s2)⟩
theorem afk(T:Tx K mg A)(az:aj mg base A.aY A.aQ)(aA:aj mg base A.aZ A.aU)(aB:aj mg base A.a_ A.aV):aW P w K mg base bu 5 A.uT A.zC ["self", "plate", "ring", "beat", "dues"] (OD K [A.bx] A.aX A.bG A.aQ (cg dP) (b_ "nearest_of") kh):=by
 refine T.Qm.ok adQ (λvs H Q E h=>?_) (λaR Ar outer s H vs Q E hr h=>?_)
 ·obtain⟨x,C,p,P',fp,r,b,D,ps,ds,rfl,_⟩:=h
  rfl
 ·obtain⟨x,C,p,P',fp,r,b,D,ps,ds,rfl,hC,hP,ok,r0,r1,hd,d1,eX,hc,T0,q⟩:=h;refine⟨_,(aK (bD (br (Ce T az aA aB) (hr.mono (by decide)) rfl T.vJ T.rM.kp T.vI .nil aO (aa (pv 2) (aa (pv 4) au))))),?_⟩
  walk_at "rdm";exact⟨r,D,ps,ds,P',b,rfl,hd,d1,eX,λd h=>(hc d h).1,T0,q⟩
theorem afl(T:Tx K mg A)(az:aj mg base A.aY A.aQ)(aA:aj mg base A.aZ A.aU)(aB:aj mg base A.a_ A.aV):aW P w K mg base bu 5 A.zF A.zG ["plate"] (acN K [A.bx] A.aX):=by
 refine T.HS.ok adT (λvs H Q E h=>?_) (λaR Ar outer s H vs Q E hr h=>?_)
 ·obtain⟨C,p,P',fp,n,rfl,_⟩:=h
  rfl
 ·obtain⟨C,p,P',fp,n,rfl,hC,hP,hn,q⟩:=h;refine⟨_,(aK (bD (br (JC T az aA aB) (hr.mono (by decide)) rfl T.Bu T.vG.kp T.P6 (show Vals [.int 0,.aN,.aN] [.int 0 A.zf,.none,.none] from(.cons ⟨_,rfl⟩ (.cons rfl (.cons rfl .nil)))) aO (aa (k7 (pv 0) T.aex (ae5 T az aA aB) (hr.mono (by decide)) T.Ry .nil aO (aa aF (aa aF au))) (aa aF (aa aF au)))))),?_⟩
  walk_at "rdt";obtain⟨dx,a1,a2,a3,a4,ts,fs,pX,hA⟩:=id hP;have r2:=hn.r2;have c1:=hn.c1;refine⟨C,dx,fs,hA.o,hC,hA.gJ,C,p,P',fp,1,0,rfl,hC,hP,by lia,by lia,by lia,c1,λH1 s1=>?_⟩
  rw[hn.v];exact⟨n,1,0,0,none,.aN,[],rfl,⟨hn.n0,hn.n1,by lia,by lia,by lia,by lia,by lia,by lia,λx z=>nomatch z⟩,.inl ⟨rfl,rfl⟩,kg.nil,λa mk b dx H2 s2 na ha=>q a mk b dx H2 (s1.trans s2) (s1.free na) ha⟩
theorem afm(T:Tx K mg A)(az:aj mg base A.aY A.aQ)(aA:aj mg base A.aZ A.aU)(aB:aj mg base A.a_ A.aV):aW P w K mg base bu 5 A.zH A.zI ["plate"] (adn K [A.bx] A.aX):=by
 refine T.HU.ok uM (λvs H Q E h=>?_) (λaR Ar outer s H vs Q E hr h=>?_)
 ·obtain⟨C,p,P',fp,rfl,_⟩:=h
  rfl
 ·obtain⟨C,p,P',fp,rfl,hC,hP,r2,a1,a2,b1,b2,q⟩:=h;have pW:=hr.oV;refine⟨_,(aH (bI (i:=1) uM.nd rfl (Or.inl rfl) (k7 (pv 0) T.aes (aeN T az aA aB) (hr.mono (by decide)) T.Rb .nil aO (aa aF au)))
   (aH (bI (i:=2) uM.nd rfl (Or.inl rfl) (eO au))
   (aH (dY PassesOwn.never rfl (adf rfl T.gv (aa aF (aa (pv 1) (aa (gA (v:=.int 16) rfl T.I_ ⟨_,rfl⟩) au)))) (bH (i:=3) uM.nd rfl (Or.inl rfl))
   (aH (bI (i:=4) uM.nd rfl (Or.inl rfl) (bq i6 (pv 3) (k7 (pv 0) T.Jc (Jk T az aA aB) (hr.mono (by decide)) T.BD .nil aO (aa aF au))))
   (aK (dI (jY PySem.F.plainAttrs_list PySem.F.slot_list_append PySem.F.type_list_append kU (pv 2) (aa (Y9 (JC T az aA aB) (hr.mono (by decide)) rfl T.Bu T.vG.kp T.To aO (aa (pv 3) (aa (cQ (Mt rfl) rfl T.lG boot_min (aa (gA (v:=.int 16) rfl T.I_ ⟨_,rfl⟩) (aa (bq jz (pv 1) (pv 3)) au))) (aa (pv 4) au))) (Y6 (pv 4) Y5)) au))))))
   (aK (bD (pv 2)))))),?_⟩
  walk_at "rdt";obtain⟨dx,z1,z2,z3,z4,ts,fs,pX,hA⟩:=id hP;refine⟨C,dx,fs,hA.o,hC,hA.m3,C,p,P',fp,0,rfl,hP,by lia,by lia,λL nL=>?_⟩
  have eC:P'.rc.getD (0:Int).toNat 0=c0 P':=rfl;rw[eC];have sL:=ah.put (o:=.lst []) nL;refine rr3 0 (c0 P') 16 (λn i σ H'=>∃(v3 v4:Option V) (ps:List Addr),σ = [some (V.ref p),some (V.int (c0 P')),some (V.ref L),v3,v4]/\ah H H'/\cW K A.aX H' L ps (fL P' i)) (λQ q=>?_) (by lia) (by lia) (by lia) (by lia) (by lia) (λn st=>⟨none,none,[],rfl,sL,⟨aI,rfl,λi p' q' e=>by simp at e⟩⟩) ?_ ?_
  ·walk_at "rdm";exact q
  ·rintro n st i σ H' N hN hi ⟨v3,v4,ps,rfl,s',hl⟩;have rQ:=hP.same s';have bT:=st.lt i hi;have o':=s' _ _ hA.o;walk_at "rdt";refine⟨C,dx,fs,o',hC,hA.m4,C,p,P',fp,0,rfl,rQ,by lia,by lia,by rw[eC];lia,by rw[eC];lia,?_⟩
   have hm1:=Int.mul_le_mul (show (i:Int)*16<=60 by lia) b2 b1 (by decide)
   have JG:=Int.mul_nonneg (show 0<=(i:Int)*16 by lia) b1
   refine⟨cD P',rfl,.inl ⟨by lia,by lia⟩,⟨_,aE.of hl.l⟩,?_⟩
   rw[Int.zero_add] at bT ⊢;rw[show (if c0 P' - (i:Int)*16<16 then c0 P' - (i:Int)*16 else 16)=min 16 (c0 P' - (i:Int)*16) by split <;> lia]
   refine⟨_,_,_,_,some ((i:Int)*16*cD P'),.aN,[],rfl,⟨by lia,by lia,by lia,by lia,JG,by lia,by lia,by lia,λx hx=>by cases hx;exact⟨JG,by lia⟩⟩,.inl ⟨rfl,rfl⟩,kg.nil,λap mk b uH H2 s2 na JH=>?_⟩
   have xm:=hl.same s2;have hn:=hl.n;unfold fL at hn;rw[List.length_map,List.length_range] at hn;have sb:=st.b;refine⟨_,xm.l,by rw[List.length_map];lia,hN _ _ ⟨_,_,ps++[ap],rfl,ah.put2 (s'.trans s2) nL,?_⟩⟩
   unfold fL;rw[List.range_succ,List.map_append];exact xm.snoc JH
  ·rintro n st σ H' ⟨v3,v4,ps,rfl,s',hl⟩;walk_at "rdt";exact q L ps n H' s' nL st hl
theorem afn(T:Tx K mg A)(az:aj mg base A.aY A.aQ)(aA:aj mg base A.aZ A.aU)(aB:aj mg base A.a_ A.aV):aW P w K mg base bu 5 A.uY A.zT ["self", "ring", "dues"] (Pc K A.aX A.bG A.bL false A.aQ (cg dP) (b_ "nearest_of")):=by
 refine T.QI.ok ad0 (λvs H Q E h=>?_) (λaR Ar outer s H vs Q E hr h=>?_)
 ·obtain⟨x,dx,B,st,r,D,ps,ds,P',b,rfl,_⟩:=h
  rfl
 ·obtain⟨x,dx,B,st,r,D,ps,ds,P',b,rfl,hx,hd,d1,eX,hc,T0,q⟩:=h;have kC:=hx.o;unfold iF at kC;refine⟨_,(aH (nH (cy (jw (qw (br (Jo T az aA aB) (hr.mono (by decide)) rfl T.BB T.vK.kp T.BA .nil aO (aa (bF (pv 0) rfl) (aa (pv 1) (aa (pv 2) au)))) (λ_=>rfl))) (aK (cL (pv 0) (X_ (bF (pv 0) rfl)) rfl)) cE))
   (aK (bD (br (Ce T az aA aB) (hr.mono (by decide)) rfl T.vJ T.rM.kp T.vI .nil aO (aa (pv 1) (aa (br (Jo T az aA aB) (hr.mono (by decide)) rfl T.BB T.vK.kp T.BA .nil aO (aa (bF (pv 0) rfl) (aa (pv 1) (aa (pv 2) au)))) au)))))),?_⟩
  wp_walk using T,kC;refine⟨λσ H1=>σ = [some (.ref x),some (.int r),some (.ref D)]/\bO x A.aQ H H1/\bS A.aQ (cg dP) (b_ "nearest_of") H1/\eG A.bL H1 x (mh st r ds) dx B/\eS K A.aX A.bG H1 D ps ds,?_,?_⟩
  ·refine⟨st.i,r,D,ps,ds,rfl,hd,eX,hc,λD' fj H1 s1 Ui cj=>?_⟩;have eY:=hx.same s1;have lH:=s1 _ _ kC;have hl:(ez st.i r ds).length=fj.length:=cj.n.symm;refine⟨_,.inl ⟨_,aE.of cj.l,rfl⟩,eo (λh0=>?_) λh0=>?_⟩
   ·have hz:(ez st.i r ds).length=0:=by
     rw[hl];cases fj with
     | nil=>rfl
     | cons _ _=>cases h0
    refine⟨_,_,_,lH,T.lF,T.rN,_,rfl,_,rfl,_,_,_,lH,T.lF,T.rN,by simp,rfl,?_,T0.same s1 |>.but (SameBut.of (ah.refl H1)).put lH,?_,?_⟩
    ·exact(bO.of (SameBut.of s1)).trans (bO.of (SameBut.of (ah.refl H1)).put)
    ·obtain⟨kvs,k1,k2⟩:=eY.d;refine⟨?_,kvs,?_,k2⟩
     ·rw[aI];unfold mh;rw[if_pos hz]
      rfl
     ·rw[aD (λz=>by rw[z,lH] at k1;cases k1)];exact k1
    ·exact(hd.same s1).kt (eY.iW (SameBut.of (ah.refl H1)).put)
   ·have hz:¬ (ez st.i r ds).length=0:=λz=>by
     rw[hl] at z;rw[List.length_eq_zero_iff.mp z] at h0;exact h0 rfl
    refine⟨rfl,bO.of (SameBut.of s1),T0.same s1,?_,hd.same s1⟩;unfold mh;rw[if_neg hz];exact eY
  ·rintro σ H1 ⟨rfl,kt,T1,eY,cj⟩;have lH:=eY.o;unfold iF at lH;wp_walk using T,lH;refine⟨_,r,D,ps,ds,rfl,cj,eX,hc,λD' fj H2 s2 Ui hd2=>?_⟩;have:=yt (mh st r ds).i r ds;exact⟨r,D',fj,_,P',b,rfl,hd2,acw d1,by lia,λd h=>hc d (yu h),T1.same s2,λd H3 sb tb best=>q d H3 ((kt.trans (bO.of (SameBut.of s2))).trans (bO.tb sb)) tb ((eY.same s2).tab (T1.same s2) sb) best⟩
theorem afo(T:Tx K mg A)(az:aj mg base A.aY A.aQ)(aA:aj mg base A.aZ A.aU)(aB:aj mg base A.a_ A.aV):aW P w K mg base bu 5 A.uZ A.zU ["self", "ring", "dues"] (Pc K A.aX A.bG A.bQ true A.aQ (cg dP) (b_ "nearest_of")):=by
 refine T.QL.ok PJ (λvs H Q E h=>?_) (λaR Ar outer s H vs Q E hr h=>?_)
 ·obtain⟨x,dx,B,st,r,D,ps,ds,P',b,rfl,_⟩:=h
  rfl
 ·obtain⟨x,dx,B,st,r,D,ps,ds,P',b,rfl,hx,hd,d1,eX,hc,T0,q⟩:=h;refine⟨_,(aH (bI (i:=3) PJ.nd rfl (Or.inl rfl) (br (Jo T az aA aB) (hr.mono (by decide)) rfl T.BB T.vK.kp T.BA .nil aO (aa iA (aa (pv 1) (aa (pv 2) au)))))
   (aH (cy (qw (pv 3) (λ_=>rfl)) (aK (bD (br (Ce T az aA aB) (hr.mono (by decide)) rfl T.vJ T.rM.kp T.vI .nil aO (aa (pv 1) (aa (pv 3) au))))) cE)
   (aK (bD (br (Ce T az aA aB) (hr.mono (by decide)) rfl T.vJ T.rM.kp T.vI .nil aO (aa aF (aa (pv 2) au))))))),?_⟩
  walk_at "rdm";refine⟨true,r,D,ps,ds,rfl,hd,eX,hc,λD' fj H1 s1 Ui cj=>?_⟩;have hl:(ez true r ds).length=fj.length:=cj.n.symm;have le:=yt true r ds;have T1:=T0.same s1;unfold q8 nJ at q;rw[if_pos rfl,if_pos rfl] at q;refine⟨_,.inl ⟨_,aE.of cj.l,rfl⟩,eo (λh0=>?_) λh0=>?_⟩
  ·have hz:¬ (ez true r ds).length=0:=λz=>by
    rw[hl] at z;rw[List.length_eq_zero_iff.mp z] at h0;cases h0
   rw[if_neg hz,if_neg hz] at q;exact⟨r,D',fj,_,P',b,rfl,cj,by lia,by lia,λd h=>hc d (yu h),T1,λd H3 sb tb best=>q d H3 ((bO.of (SameBut.of s1)).trans (bO.tb sb)) tb ((hx.same s1).tab T1 sb) best⟩
  ·have hz:(ez true r ds).length=0:=by
    rw[hl];cases fj with
    | nil=>rfl
    | cons _ _=>exact absurd rfl h0
   rw[if_pos hz,if_pos hz] at q;exact⟨0,D,ps,ds,P',b,rfl,hd.same s1,d1,eX,hc,T1,λd H3 sb tb best=>q d H3 ((bO.of (SameBut.of s1)).trans (bO.tb sb)) tb ((hx.same s1).tab T1 sb) best⟩
theorem afp(T:Tx K mg A)(az:aj mg base A.aY A.aQ)(aA:aj mg base A.aZ A.aU)(aB:aj mg base A.a_ A.aV):aW P w K mg base bu 5 A.AS A.AU ["self", "number"] (acX K [A.bx] A.bJ A.aX A.bG):=by
 refine T.R0.ok Hu (λvs H Q E h=>?_) (λaR Ar outer s H vs Q E hr h=>?_)
 ·obtain⟨C,x,dx,kp,ks,kk,p,P',fp,r,b,Dx,ls,y,rfl,_⟩:=h
  rfl
 ·obtain⟨C,x,dx,kp,ks,kk,p,P',fp,r,b,Dx,ls,y,rfl,hc,hy,hC,hP,pk,r0,r1,ci,c1,c2,q⟩:=h;have ho:=hc.o;unfold dW at ho;have n3:=hc.ne;refine⟨_,(aH (bI (i:=2) Hu.nd rfl (Or.inl rfl) (aai (bF (pv 0) rfl) (pv 1) ⟨rfl,rfl,rfl,rfl⟩))
   (aH (xK (i:=3) Hu.nd rfl (Or.inl rfl) (N:=["ring", "place", "begun", "ended", "number"]) (nt:=4) (fv:=[1]) (dw.of rfl rfl (by rfl) (by rfl) (by repeat (first | exact trivial | refine⟨rfl,?_⟩)) (by rfl) (by rfl) (by rfl) (by decide) (by decide +kernel)) rfl (fE (br (Ue T az aA aB) (hr.mono (by decide)) rfl T.HE T.Bv.kp T.HD .nil aO (aa (bF (pv 0) rfl) (aa (bF (pv 0) rfl) (aa (bF (pv 0) rfl) (aa (bF (pv 2) rfl) au)))))) (λC s H fp=>(aa8 (K:=K) (n:=4) rfl rfl (dJ (bH (i:=0) (show List.Nodup (["ring", "place", "begun", "ended", "number"]:List Str) by decide +kernel) rfl (Or.inl rfl)) (dJ (bH (i:=1) (show List.Nodup (["ring", "place", "begun", "ended", "number"]:List Str) by decide +kernel) rfl (Or.inl rfl)) (dJ (bH (i:=2) (show List.Nodup (["ring", "place", "begun", "ended", "number"]:List Str) by decide +kernel) rfl (Or.inl rfl)) (dJ (bH (i:=3) (show List.Nodup (["ring", "place", "begun", "ended", "number"]:List Str) by decide +kernel) rfl (Or.inl rfl)) jx)))))) (λC s H fp=>kZ) (λC s H fp=>(gZ (aa (pv 4) (aa (pv 0) (aa (pv 1) (aa (pv 2) (aa (pv 3) au))))))))
   (aH (cL (pv 0) (bR gF (bR cS (pv 3) (s_ tD aF) (λ_ _=>rfl)) aF (λ_ _=>rfl)) rfl)
   (aH (cL (pv 0) (bR gF (bR cS (pv 3) (s_ tD aF) (λ_ _=>rfl)) aF (λ_ _=>rfl)) rfl)
   (aK (bD (pv 3))))))),?_⟩
  wp_walk using T,Nf,ho;refine⟨.inl ⟨_,.inl hc.d⟩,_,hc.d,cN y.1.n,rfl,_,acT hc.up hy,?_⟩;rw[O0];generalize qU:ls.filter (λz=>decide (z.1.n≠y.1.n))=c_ at *
  have sub:c_.Sublist ls:=qU▸List.filter_sublist;have s1:bW x Dx H (upd H Dx (.dK (cO c_))):=(bW.of (λ_ _ e=>e)).q_;have fW:=hc.step s1 sub (by rw[aD n3];exact hc.o) aI
  have rR:=hc.Fw s1 hP;have hy1:=hc.rm s1 (hc.t y hy);generalize upd H Dx (.dK (cO c_))=H1 at *
  obtain⟨eu,ap,l,ts,m,b',bC,hD⟩:=hy1;have dg:=hD.o;unfold ig at dg;have jM:=fW.o;unfold dW at jM;refine OY ?_;wp_walk using T,jM,dg;refine⟨C,p,P',fp,r,b,l,ts,y.1.c,rfl,hC,rR,pk,r0,r1,hD.c,ci,c2,λlw tw H2 s2 nlw _ hw=>?_⟩;have wl:=t_ P' y.1.c (r,b);have w4:=EI P' y.1.c (r,b);obtain⟨zs,wa,wb,we⟩:=acR P' (r,b) (xs:=y.1.c) (λz=>by rw[z] at c1;simp at c1)
  generalize gc P' (r,b) y.1.c=wy at *
  have Uj:=hw.n;refine j9 lw (tw.map V.ref) (λD i ys aq H3=>∃(u1 u2 u3 u4:Option V) (us:List Addr),ys=us.map V.ref/\aq = [u1,u2,u3,u4,some (.int y.1.n)]/\i<=wy.length/\Zt H3 D us ((wy.take i).map λrow=>y.1.n::row)/\ah H2 H3/\H2 D=none) (λQ q=>q) (aE.of hw.l) ?_ ?_ ?_ ?_
  ·intro D nD;exact⟨none,none,none,none,[],rfl,rfl,Nat.zero_le _,Zt.start,ah.put nD,nD⟩
  ·rintro D i ys aq H3 ⟨u1,u2,u3,u4,us,rfl,rfl,hi,hz,s3,nD⟩;have:=hz.n;rw[List.length_map,List.length_take] at this;exact⟨hz.l,by rw[List.length_map,pe];lia,aE.of (s3 _ _ hw.l)⟩
  ·rintro D i v ys aq H3 N hN hv ⟨u1,u2,u3,u4,us,rfl,rfl,hi,hz,s3,nD⟩;obtain⟨t,ht,rfl⟩:=ff hv;have gH:i<wy.length:=by rw[← Uj];exact d7 ht
   have ni:=List.getElem?_eq_getElem gH;have hT:=s3 _ _ (hw.t i t _ ht ni);obtain⟨q1,q2,q3,q4,e4⟩:=acS (w4 _ (List.getElem_mem gH));rw[e4] at hT ni;walk_at "rdt";refine⟨_,bE.of hT,rfl,_,_,rfl,_,_,rfl,_,_,rfl,_,_,rfl,rfl,λpt np=>?_⟩;have pU:=hz.snoc np (y.1.n::[q1,q2,q3,q4]);refine⟨by rw[aD (bX hz.l np)];exact hz.l,hN _ _ _ ⟨_,_,_,_,us++[pt],by rw[List.map_append];rfl,rfl,by lia,?_,ah.put2 (s3.trans (ah.put np)) nD,nD⟩⟩
   rw[take_succ_get ni,List.map_append];exact pU
  ·rintro D ys aq H3 ⟨u1,u2,u3,u4,us,rfl,rfl,hi,hz,s3,nD⟩;rw[List.length_map,Uj,List.take_length,we,List.map_append] at hz;obtain⟨Uk,t,rfl,ht⟩:=hz.last;have Ul:=s2.trans s3;have jq:=fW.same Ul;have Cf:=jq.o;unfold dW at Cf;have nDx:D≠x:=λz=>by have:=hz.l;rw[z,Cf] at this;cases this
   have ntx:t≠x:=λz=>by rw[z,Cf] at ht;cases ht
   have hl:gq ((Uk++[t]).map V.ref) (-1)=some (.ref t):=by rw[List.map_append];exact MR _ _
   refine⟨D,rfl,_,aE.of hz.l,_,hl,t,rfl,_,bE.of ht,_,fG (j:=1) rfl,_,_,_,Cf,T.mJ,T.BV,by simp,D,rfl,_,aE.of (by rw[aD nDx];exact hz.l),_,hl,t,rfl,_,bE.of (by rw[aD ntx];exact ht),_,fG (j:=4) rfl,T.mJ,T.vO,by simp[gC,fc,Ey],?_⟩
   walk_at "rdm";have bc:bW x Dx H1 (upd H3 x (.ins A.bJ dx (dW kp p (c9 P' (r,b) y.1.c).1 (c9 P' (r,b) y.1.c).2 Dx))):=(bW.of Ul).Fv;refine q D (Uk++[t]) _ (s1.trans bc) (fW.free s1 (s2.free nD)) (fW.step bc (.refl _) aI (by rw[aD (Ne.symm n3)];exact jq.d)) ?_
   have:=jq.zt (H':=upd H3 x (.ins A.bJ dx (dW kp p (c9 P' (r,b) y.1.c).1 (c9 P' (r,b) y.1.c).2 Dx))) ((bW.of (λ_ _ e=>e)).Fv) hz;rw[we,List.map_append];exact this
theorem afq(T:Tx K mg A)(az:aj mg base A.aY A.aQ)(aA:aj mg base A.aZ A.aU)(aB:aj mg base A.a_ A.aV):aW P w K mg base bu 5 A.Bf A.Bg ["_law_script"] (ada K A.bx):=by
 refine T.IF.ok jm (λvs H Q E h=>?_) (λaR Ar outer s H vs Q E hr h=>?_)
 ·obtain⟨sc,ns,rfl,_⟩:=h
  rfl
 ·obtain⟨sc,ns,rfl,hS,lK,q⟩:=h;have hu:=j5 hr;refine⟨_,(aH (bI (i:=1) jm.nd rfl (Or.inl rfl) (br (afa T az aA aB) (hr.mono (by decide)) rfl T.Sl T.IE.kp T.Sk .nil aO (aa (br (ow T az aA aB) (hr.mono (by decide)) rfl T.mF T.lE.kp T.mD .nil aO (aa (pv 0) (aa aF au))) au)))
   (aH (bI (i:=2) jm.nd rfl (Or.inl rfl) (br (ow T az aA aB) (hr.mono (by decide)) rfl T.mF T.lE.kp T.mD .nil aO (aa (pv 0) (aa aF au))))
   (aH (bI (i:=3) jm.nd rfl (Or.inl rfl) aF)
   (aH (bI (i:=4) jm.nd rfl (Or.inl rfl) (eO au))
   (aH (dY PassesOwn.never rfl (fE (pv 1)) (jy rfl (dJ (bH (i:=5) jm.nd rfl (Or.inl rfl)) (dJ (bH (i:=6) jm.nd rfl (Or.inl rfl)) jx)))
   (aH (bI (i:=3) jm.nd rfl (Or.inl rfl) (bq i6 (pv 3) (pv 6)))
   (aK (bI (i:=4) jm.nd rfl (Or.inl rfl) (bq M7 (pv 4) (bq xq (eO (aa (pv 6) au)) (pv 5)))))))
   (aH (bI (i:=7) jm.nd rfl (Or.inl rfl) (bq i6 (pv 3) (bq cG aF (br (gw T az aA aB) (hr.mono (by decide)) rfl T.gj T.fY.kp T.gi .nil aO (aa (pv 2) (aa aF (aa aF au)))))))
   (aH (nH (cy (bM mZ (br (gw T az aA aB) (hr.mono (by decide)) rfl T.gj T.fY.kp T.gi .nil aO (aa (pv 2) (aa aF (aa aF au)))) aF (bK _)) (aK (bI (i:=7) jm.nd rfl (Or.inl rfl) (bq i6 (pv 3) (bq cG aF (bq lR (pv 2) (bq tu (bq Mh aF aF) (pv 3))))))) cE))
   (aH (bI (i:=8) jm.nd rfl (Or.inl rfl) (bq lR (br (ow T az aA aB) (hr.mono (by decide)) rfl T.mF T.lE.kp T.mD .nil aO (aa (pv 0) (aa aF au))) (pv 7)))
   (aH (bI (i:=9) jm.nd rfl (Or.inl rfl) (br (ae_ T az aA aB) (hr.mono (by decide)) rfl T.Sj T.ID.kp T.Si .nil aO (aa (br (ow T az aA aB) (hr.mono (by decide)) rfl T.mF T.lE.kp T.mD .nil aO (aa (pv 0) (aa aF au))) (aa (cQ gb rfl T.fz boot_len (aa (pv 4) au)) au))))
   (aK (bD (gZ (aa (tF T.SI (afg T az aA aB) (hr.mono (by decide)) rfl T.SJ T.Q8 .nil aO (aa (pv 1) (aa (pv 7) (aa (pv 8) (aa (pv 9) au))))) (aa (gZ (aa (pv 4) (aa (pv 7) (aa (pv 8) (aa (pv 9) au))))) au)))))))))))))),?_⟩
  wp_walk using fH,jf;refine⟨ns,hS,lK,_,rfl,λl ts z H1 s1 nl hz zl=>⟨ns,s1.seq hS,lK,λc0 uL=>?_⟩⟩;generalize iT ns 1=c;have bd:∀i,1<=dM (z.take i)/\dM (z.take i)<=777600000:=λi=>by
   have h1:=xS (m:=60) (by decide) (z.take i) λp hp=>(zl.ok.r p (List.mem_of_mem_take hp)).2.2
   have h2:=NJ (m:=60) (by decide) (show (z.take i).length<=5 by have:=zl.ok.l5;rw[List.length_take];lia)
   have e:(60:Int) ^ 5=777600000:=by decide
   lia
  refine rl l (ts.map V.ref) (λi σ H2=>∃(r d:Option V) (ca:Addr),σ = [some (.ref sc),some (.ref l),some (.int c),some (.int (dM (z.take i))),some (.ref ca),r,d,none,none,none]/\ah H1 H2/\H1 ca=none/\H2 ca=some (.lst ((counts (z.take i)).map V.int))) (λQ q=>⟨_,rfl,q⟩) (hz.same (ah.put uL)).sq ⟨none,none,c0,rfl,ah.put uL,uL,aI⟩ (by rintro i σ H2 _ ⟨r,d,ca,rfl,s2,_⟩;exact(hz.same s2).sq) ?_ ?_
  ·rintro i x σ H2 N hN v_ ⟨r,d,ca,rfl,s2,nca,wc⟩;obtain⟨t,p,rfl,hp,ht⟩:=(hz.same s2).at v_;refine k6 (bE.of ht) rfl ?_;walk_at "rdm";have b:=bd i;have pr:=zl.ok.r p (get_mem hp);have cl:=NC zl.ok i;refine⟨.inl ⟨by lia,by lia⟩,λp1 n1=>⟨by lia,by lia,by lia,λp2 n2=>?_⟩⟩
   rw[Oo];have sa1:=ah.put (o:=.lst [V.int p.2]) n1;have JI:=sa1.trans (ah.put (o:=.lst ((List.replicate p.1.toNat p.2).map V.int)) n2);refine⟨_,JI _ _ wc,by rw[List.length_map,List.length_map,List.length_replicate];lia,λp3 n3=>hN _ _ ⟨some (.int p.1),some (.int p.2),p3,?_,(s2.trans JI).trans (ah.put n3),(s2.trans JI).free n3,?_⟩⟩
   ·rw[take_succ_get hp,aa7]
   ·rw[aI,abQ hp,List.map_append]
  ·rintro σ H2 ⟨r,d,ca,rfl,s2,nca,wc⟩;rw[lenZ hz.n,List.take_length] at wc ⊢;have hb:=bd z.length;rw[List.take_length] at hb;wp_walk using fH,jf;have y7:=iU c 16 (m:=9) (by decide)
   have hq:1<=1000000000 / dM z:=(Int.le_ediv_iff_mul_le (by lia)).mpr (by lia)
   have Um:=Int.emod_nonneg c (show 1000000000 / dM z≠0 by lia)
   have Uo:=Int.emod_lt_of_pos c (show 0<1000000000 / dM z by lia)
   have w1:=Om zl y7.1 (.inl (by lia))
   have w2:=Om zl Um (.inr Uo);refine⟨.inl ⟨by lia,by lia⟩,λσ H3=>∃aG,σ = [some (.ref sc),some (.ref l),some (.int c),some (.int (dM z)),some (.ref ca),r,d,some (.int aG),none,none]/\H3=H2/\1<=aG/\aG<=1000000000/\∀p∈z,aG % p.2=0,
    eo (λ_=>?_) (λ_=>⟨_,rfl,rfl,w1.1,w1.2.1,w1.2.2⟩),?_⟩
   ·exact⟨by decide,by lia,by lia,by lia,.inl ⟨by lia,by lia⟩,_,rfl,rfl,w2.1,w2.2.1,w2.2.2⟩
   ·rintro σ H3 ⟨aG,rfl,rfl,l1,l2,l3⟩;have cl:=nA z λp hp=>(zl.ok.r p hp).1;have NP:=zl.sm;have c2:=zl.ok.s2;have cm:∀c∈counts z,1<=c/\c<=60:=λc hc=>by
     obtain⟨y,hy,rfl⟩:=o_ hc;have:=zl.ok.r y hy;lia
    wp_walk using fH,jf;have JJ:=s1.trans s2;have Cg:=JJ.seq hS;refine⟨ns,Cg,lK,by lia,ns,Cg,lK,_,.inl (aE.of wc),_,_,rfl,by rw[List.length_map];lia,by rw[List.length_map];lia,λsa sw H4 s4 Jv Er so=>?_⟩
    rw[List.length_map,cl] at so;have k0:=Int.emod_nonneg (iT ns 2) (show aG≠0 by lia)
    have k1:=Int.emod_lt_of_pos (iT ns 2) (show 0<aG by lia)
    have akL:=s4 _ _ wc;have ok:qO z aG (iT ns 2 % aG) sw:=⟨zl,l1,l2,l3,k0,k1,so⟩;generalize iT ns 2 % aG=sk at *
    intro x dx nx ud nxd;have JF:=(s1.trans s2).trans s4;have hz5:=(hz.same s2).same s4;have pF:=ah.put (o:=.own x) ud;have mL:upd H4 dx (.own x) x=none:=by rw[aD (Ne.symm nxd)];exact nx
    have JK:=pF.trans (ah.put (o:=.ins A.bx dx []) mL);refine⟨A.bx,x,dx,l,sa,ts,z,aG,sk,sw,rfl,T.aer,aI,hz5.same JK,zl.ok,ok.l1,ok.l2,ok.k0,ok.k1,ok.l3,aE.of (JK _ _ Er),ok.so,λH6 dx1 b1 b2 b3 b4 Up sb nf hp6 hA=>⟨rfl,λwt nwt t nt=>?_⟩⟩;have s56:ah H4 H6:=λb o e=>sb _ _ (JK _ _ e) (bX e nx);have s6:=(ah.put (o:=.tup [V.ref ca,V.int aG,V.int sk,V.ref sa]) nwt).trans (ah.put (o:=.tup [V.ref x,V.ref wt]) nt);exact q t x wt z aG sk sw (b1::b2::b3::b4::Up) _ ((JF.trans s56).trans s6) aI (bY.same ⟨dx1,b1,b2,b3,b4,Up,_,rfl,hA⟩ s6) ok
theorem afr(T:Tx K mg A)(az:aj mg base A.aY A.aQ)(aA:aj mg base A.aZ A.aU)(aB:aj mg base A.a_ A.aV):aW P w K mg base bu 5 A.Bh A.Bj ["_law_ask", "_law_later"] (adp K A.aX):=by
 refine T.IG.ok Hv (λvs H Q E h=>?_) (λaR Ar outer s H vs Q E hr h=>?_)
 ·obtain⟨a,x,q0,m,b,dx,rfl,_⟩:=h
  rfl
 ·obtain⟨a,x,q0,m,b,dx,rfl,ha,ab,q⟩:=h;have pW:=hr.oV;refine⟨_,(aH (bI (i:=2) Hv.nd rfl (Or.inl rfl) (bF (pv 0) rfl))
   (aH (nH (cy (bM DP (pv 2) oK (bK _)) (aK (bI (i:=2) Hv.nd rfl (Or.inl rfl) (bq cG (pv 2) (pv 1)))) cE))
   (aK (bD (br (JC T az aA aB) (hr.mono (by decide)) rfl T.Bu T.vG.kp T.P7 (show Vals [.aN] [.none] from(.cons rfl .nil)) aO (aa (bF (pv 0) rfl) (aa (bF (pv 0) rfl) (aa (bq cG (bF (pv 0) rfl) (pv 1)) (aa (bF (pv 0) rfl) (aa (pv 2) au)))))))))),?_⟩
  walk_at "rdt";have ao:=ha.o;unfold fh at ao;refine⟨_,_,_,ao,T.jL,T.vM,k_ q0.gK,by simp[List.lookup_cons,fc],?_⟩
  refine⟨λσ H1=>σ = [some (V.ref a),some (V.int x),some (k_ (q0.gK.map (· + x)))]/\H1=H,?_,?_⟩
  ·cases q0.gK with
   | none=>exact ite_no (λz=>z rfl) ⟨rfl,rfl⟩
   | some y=>exact ite_yes (λz=>nomatch z) ⟨y,rfl,rfl,rfl⟩
  ·rintro σ H1 ⟨rfl,rfl⟩;wp_walk using T,ao;exact⟨_,_,_,_,_,.aN,[],rfl,ab,.inl ⟨rfl,rfl⟩,kg.nil,λap mk b2 uH H2 s2 na JH=>q ap mk b2 uH H2 s2 na JH⟩
theorem Uq(T:Tx K mg A)(az:aj mg base A.aY A.aQ)(aA:aj mg base A.aZ A.aU)(aB:aj mg base A.a_ A.aV):aW P w K mg base bu 6 A.rK A.zR ["self", "plate", "ring", "beat", "dues"] (Pd K A.aX A.bG A.bL A.bQ A.aQ (cg dP) (b_ "nearest_of")):=by
 refine T.QD.ok adY (λvs H Q E h=>?_) (λaR Ar outer s H vs Q E hr h=>?_)
 ·obtain⟨C,x,dx,B,sw,st,p,r,b,D,ps,ds,P',rfl,_⟩:=h
  rfl
 ·obtain⟨C,x,dx,B,sw,st,p,r,b,D,ps,ds,P',rfl,hk,hK,hx,hd,d1,eX,hc,T0,q⟩:=h;have kC:=hx.o;unfold iF at kC;refine⟨_,(aK (bD (ab6 (pv 0) T.aeA (afn T az aA aB) (hr.mono (by decide)) T.QJ T.aeB (afo T az aA aB) (hr.mono (by decide)) T.QM aO (aa (pv 2) (aa (k7 (pv 0) T.aez (ae2 T az aA aB) (hr.mono (by decide)) T.QF .nil aO (aa (pv 4) au)) au))))),?_⟩
  wp_walk using T,kC;have kt:=λ{H1:Hp} (sb:SameBut x H H1)=>bO.of (TP:=A.aQ) sb;have le:=acy st ds;rcases hk with⟨rfl,rfl⟩ | ⟨rfl,rfl⟩
  ·exact .inl ⟨by simp,by simp,A.bL,x,dx,B,st,D,ps,ds,rfl,by simp,hK,hx,hd,eX,λD' fj B' H1 bB sb eY cj=>⟨x,dx,B',gf st ds,r,D',fj,fK st ds,P',b,rfl,eY,cj,OI d1,by lia,λd h=>hc d (Fd h),T0.but sb hx.o,λd H2 JL T2 v_ best=>q d B' H2 bB ((kt sb).trans JL) T2 v_ best⟩⟩
  ·exact .inr ⟨by simp,by simp,A.bQ,x,dx,B,st,D,ps,ds,rfl,by simp,hK,hx,hd,eX,λD' fj B' H1 bB sb eY cj=>⟨x,dx,B',gf st ds,r,D',fj,fK st ds,P',b,rfl,eY,cj,OI d1,by lia,λd h=>hc d (Fd h),T0.but sb hx.o,λd H2 JL T2 v_ best=>q d B' H2 bB ((kt sb).trans JL) T2 v_ best⟩⟩
theorem afs(T:Tx K mg A)(az:aj mg base A.aY A.aQ)(aA:aj mg base A.aZ A.aU)(aB:aj mg base A.a_ A.aV):aW P w K mg base bu 6 A.AJ A.AK ["self", "plate", "asks", "ring"] (ac1 K [A.bx] A.bJ A.aX A.bG):=by
 refine T.RO.ok Ht (λvs H Q E h=>?_) (λaR Ar outer s H vs Q E hr h=>?_)
 ·obtain⟨C,x,dx,p,la,P',fp,ps,qs,r,rfl,_⟩:=h
  rfl
 ·obtain⟨C,x,dx,p,la,P',fp,ps,qs,r,rfl,hx,hC,hP,pn,ha,ok,nr,q⟩:=h;have hu:=j5 hr;refine⟨_,(aH (cL (pv 0) (br (afi T az aA aB) (hr.mono (by decide)) rfl T.RN T.Iv.kp T.RM .nil aO (aa (pv 1) (aa (pv 2) au))) rfl)
   (aH (cL (pv 0) (pv 1) rfl)
   (aH (cL (pv 0) (pv 3) rfl)
   (aH (cL (pv 0) aF rfl)
   (aH (cL (pv 0) tN rfl)
   (aK (dY PassesOwn.never rfl (tW rfl T.oh (aa (pv 2) au)) (jy rfl (dJ (bH (i:=4) Ht.nd rfl (Or.inl rfl)) (dJ (bH (i:=5) Ht.nd rfl (Or.inl rfl)) jx)))
   (aK (cy (bM lT (bF (pv 5) rfl) fD (bK _)) (aK (xw hu (bF (pv 0) rfl) (pv 4) (tF T.SK (afh T az aA aB) (hr.mono (by decide)) rfl T.SM T.RE .nil aO (aa (pv 1) (aa (pv 4) (aa (pv 5) au)))) rfl)) cE))))))))),?_⟩
  walk_at "rdt";refine⟨C,p,la,P',fp,ps,qs,rfl,hC,hP,pn,ha,ok,λkp ks H1 s1 nk nks hz=>?_⟩;have eY:=s1 _ _ hx;wp_walk using T,eY;intro Dx Ci;have xD:x≠Dx:=λz=>by rw[← z,aI] at Ci;cases Ci
  have nD:H1 Dx=none:=by rw[aD (Ne.symm xD)] at Ci;exact Ci
  refine⟨_,_,_,by rw[aD xD,aI],T.mJ,T.BW,by simp,?_⟩
  walk_at "rdm";have sb:SameBut x H1 (upd (upd (upd H1 x (.ins A.bJ dx [("keeping",V.ref kp),("plate",V.ref p),("ring",V.int r),("beat",V.int 0)])) Dx (.dK [])) x (.ins A.bJ dx (dW kp p r 0 Dx))):=λc o e n=>by
   rw[aD n,aD (λz=>by rw[z,nD] at e;cases e),aD n];exact e
  have hc:bN K A.bJ A.aX A.bG (upd (upd (upd H1 x (.ins A.bJ dx [("keeping",V.ref kp),("plate",V.ref p),("ring",V.int r),("beat",V.int 0)])) Dx (.dK [])) x (.ins A.bJ dx (dW kp p r 0 Dx))) x dx kp ks (iQ qs qs.length) p r 0 Dx [] :=
   ⟨aI,acY eY sb hz,by rw[aD (Ne.symm xD),aI];rfl,(λ_ h=>nomatch h),List.Pairwise.nil,Nat.zero_le _,λ_ h=>nomatch h⟩
  show iM _ _ _ _ _ (upd (upd (upd H1 x (.ins A.bJ dx [("keeping",V.ref kp),("plate",V.ref p),("ring",V.int r),("beat",V.int 0)])) Dx (.dK [])) x (.ins A.bJ dx (dW kp p r 0 Dx)));generalize upd (upd (upd H1 x (.ins A.bJ dx [("keeping",V.ref kp),("plate",V.ref p),("ring",V.int r),("beat",V.int 0)])) Dx (.dK [])) x (.ins A.bJ dx (dW kp p r 0 Dx))=H2 at *
  have jo:=ha.same s1;have rR:=hP.same s1;have an:=ha.n;have on:=ok.n;have ol:(iQ qs qs.length).length=qs.length:=by unfold iQ;rw[List.length_map,List.length_range]
  refine re la (ps.map V.ref) (λk σ H'=>∃(x1 x2:Option V) (ls:List (Dr×Addr)),σ = [some (.ref x),some (.ref p),some (.ref la),some (.int r),x1,x2]/\SameBut x H1 H'/\bN K A.bJ A.aX A.bG H' x dx kp ks (iQ qs qs.length) p r 0 Dx ls/\ls.map (·.1)=dX P'.nc 0 (qs.take k)) (λQ q=>?_) (aE.of (rq eY sb jo.l)) ⟨none,none,[],rfl,sb,hc,rfl⟩ (by rintro i σ H' _ ⟨_,_,_,rfl,s1,_⟩;exact aE.of (rq eY s1 jo.l)) ?_ ?_
  ·walk_at "rdm";exact q
  ·rintro k v σ H' T1 N hN hv ⟨x1,x2,ls,rfl,s2,jA,el⟩ hT;have TJ:k<ps.length:=by have:=(List.getElem?_eq_some_iff.mp hv).1;simpa using this
   have hk:k<qs.length:=by lia
   have iJ:=List.getElem?_eq_getElem hk;obtain⟨ap,m,b,da,e1,a1⟩:=jo.at iJ;rw[e1] at hv;cases hv;have s3:=ah.put (o:=.tup [.int (k:Int),.ref ap]) hT;refine k6 (bE.of aI) rfl ?_;have jq:=jA.same s3;have p6:=s2.step s3;generalize upd H' T1 (.tup [.int (k:Int),.ref ap])=H3 at *
   have a3:=acZ eY p6 a1;have wg:=ac0 eY p6 rR;have nk:=nr _ (List.getElem_mem hk);have Ur:=a3.o;unfold fh at Ur;wp_walk using T,Ur;rw[if_pos nk];intro y dy ny ndy nn;have s4:ah H3 (upd (upd H3 dy (.own y)) y (.ins A.bG dy [])):=(ah.put ndy).trans (ah.put (by rw[aD (Ne.symm nn)];exact ny))
   have hy4:upd (upd H3 dy (.own y)) y (.ins A.bG dy []) y=some (.ins A.bG dy []):=aI;generalize upd (upd H3 dy (.own y)) y (.ins A.bG dy [])=H4 at *
   have ny1:y≠p:=λz=>by obtain⟨o,e⟩:=wg.here;rw[← z,ny] at e;cases e
   have ny2:y∉fp:=λz=>by obtain⟨o,e⟩:=wg.has z;rw[ny] at e;cases e
   refine⟨C,y,p,ap,dy,_,P',fp,_,m,b,da,rfl,hy4,hC,wg.same s4,ny1,ny2,a3.same s4,(ok.fit k _ iJ).1,pn,λl ts H5 nl s5 hD=>?_⟩;have lM:ah H3 H5:=λc o e=>s5 _ _ (s4 _ _ e) (λz=>by rw[z,ny] at e;cases e)
   have JM:=jq.same lM;have Ut:=JM.o;unfold dW at Ut;wp_walk using T,Ut;have ll:ls.length=k:=by
    have:=congrArg List.length el;rw[List.length_map,Fx,List.length_take] at this;lia
   refine⟨_,kW.k (k:=cN (k:Int)) JM.d (by rw[uC,pe];lia),hN _ _ ⟨_,_,ls++[(⟨(k:Int),qs[k],cH P'.nc qs[k].first qs[k].many⟩,y)],rfl,?_,JM.add (y:=(⟨(k:Int),qs[k],cH P'.nc qs[k].first qs[k].many⟩,y)) ⟨_,_,_,_,_,_,_,hD⟩ (by show (0:Int)<=(k:Int);lia) (by rw[ol];show (k:Int)<_;lia) (λz hz=>?_) (by lia),?_⟩⟩
   ·exact λc o e n=>by rw[aD (λz=>by rw[z,nD] at e;cases e)];exact lM _ _ (p6 _ _ e n)
   ·have hm:z.1∈dX P'.nc 0 (qs.take k):=el▸List.mem_map_of_mem hz;have:=(uE _ _ _ _ hm).2;rw[List.length_take] at this
    show z.1.n<(k:Int);lia
   ·rw[List.map_append,el,take_succ_get iJ,O2,List.length_take,Nat.min_eq_left (by lia),Nat.zero_add]
    rfl
  ·rintro σ H' ⟨x1,x2,ls,rfl,s2,jA,el⟩;rw[List.length_map,an,List.take_length] at el;have JJ:SameBut x H H':=λc o e n=>s2 _ _ (s1 _ _ e) n;exact q kp ks Dx ls H' JJ (s1.free nD) jA el
theorem aft(T:Tx K mg A)(az:aj mg base A.aY A.aQ)(aA:aj mg base A.aZ A.aU)(aB:aj mg base A.a_ A.aV):aW P w K mg base bu 7 A.zJ A.zK ["plate", "word", "most"] (ado K [A.bx] A.aX):=by
 refine T.HV.ok adU (λvs H Q E h=>?_) (λaR Ar outer s H vs Q E hr h=>?_)
 ·obtain⟨C,p,P',fp,n,most,w',rfl,_⟩:=h
  rfl
 ·obtain⟨C,p,P',fp,n,most,w',rfl,hC,hP,hn,a1,a2,b1,b2,we,wb,q⟩:=h;have pW:=hr.oV;refine⟨_,(aH (cy (bM D0 (pv 1) (gA (v:=.ref A.nX) rfl T.Tp rfl) rfl) e8 cE)
   (aH (cy (bM D0 (pv 1) (gA (v:=.ref A.nY) rfl T.Tr rfl) rfl) (aK (bD (gZ (aa fD (aa (eO (aa (br (afl T az aA aB) (hr.mono (by decide)) rfl T.Qu T.HS.kp T.Qt .nil aO (aa (pv 0) au)) au)) (aa (br (afm T az aA aB) (hr.mono (by decide)) rfl T.Qw T.HU.kp T.Qv .nil aO (aa (pv 0) au)) (aa (EE (pv 0) T.Tu (Tw T az aA aB) (hr.mono (by decide)) T.Il .nil aO) au))))))) cE)
   e8)),?_⟩
  walk_at "rdt";refine⟨_,.inr T.Tq.sq,rfl,OT _,?_⟩;rw[OU];refine⟨λz=>wb (of_decide_eq_true z),_,.inr T.Tt.sq,rfl,OT _,by rw[OU];exact decide_eq_true we,C,p,P',fp,n,rfl,hC,hP,hn,λar mk b dx H1 s1 na har l1 nl1=>?_⟩
  have sl:=ah.put (o:=.lst [V.ref ar]) nl1;have h1:cW K A.aX (upd H1 l1 (.lst [V.ref ar])) l1 [ar] [lu n 0 0]:=⟨aI,rfl,λi p' q' e1 e2=>by
   cases i with
   | zero=>cases e1;cases e2;exact⟨mk,b,dx,har.same sl⟩
   | succ i=>simp at e1⟩
  have s2:=s1.trans sl;refine⟨C,p,P',fp,rfl,hC,hP.same s2,hn.r2,a1,a2,b1,b2,λl2 p2 m H2 s3 pZ st h2=>?_⟩;have wj:=hP.same (s2.trans s3);obtain⟨Jq,z1,z2,z3,z4,ts,fs,pX,hA⟩:=id wj;refine⟨C,Jq,fs,hA.o,hC,hA.m5,C,p,P',fp,rfl,wj,λt nt=>?_⟩;have JN:=ah.put (o:=.tup [.str "ever",.ref l1,.ref l2,.int P'.aG]) nt;exact q t l1 [ar] l2 p2 m _ ((s2.trans s3).trans JN) aI st ((h1.same s3).same JN) (h2.same JN)
theorem afu(T:Tx K mg A)(az:aj mg base A.aY A.aQ)(aA:aj mg base A.aZ A.aU)(aB:aj mg base A.a_ A.aV):aW P w K mg base bu 8 A.uR A.rG ["plate", "ring", "beat", "dues"] (acr K [A.bx] A.aX A.bG A.aU (cg eT) (b_ "soonest_of")):=by
 refine T.HJ.EY adO (λvs H Q E h=>?_) (λAr outer s H vs Q E hr h=>?_)
 ·obtain⟨C,p,P',fp,r,b,D,ps,ds,rfl,_⟩:=h
  rfl
 ·obtain⟨C,p,P',fp,r,b,D,ps,ds,rfl,hC,hP,ok,r0,r1,hd,d1,eX,hc,T0,q⟩:=h;have d9:=hd.n;have iR:(Ar.deeper (envOfC "soonest_of" (aP eT) s.heap.objs.size A.uR A.rG.code)).in1.depth<recursionLimit:=hr.depth;have vY:_+16<cLine:=Nat.lt_of_le_of_lt (Nat.add_le_add_left (by decide:16<=64) _) hr.units
  refine⟨_,(aK (bD (bF (E7 (c:=A.aZ) (P:=A.aU) (ps:=["due"]) (fs:=["plate", "ring", "beat"]) (fv:=[0,1,2]) rfl T.lG aA T.Tj (je.of rfl rfl rfl rfl (by rfl) (by rfl) (by repeat (first | exact trivial | refine⟨rfl,?_⟩)) (by rfl) (by rfl) (by rfl) (by decide +kernel)) rfl rfl rfl (λ_ _ _ _=>rfl) (λf c2 s2 H2=>(gZ (aa (br (afj T az aA aB) ((hr.mono (by decide)).in1.deeper _) rfl T.Qf T.HG.kp T.Qe .nil aO (aa (pv 1) (aa (pv 2) (aa (pv 3) (aa (pv 0) au))))) (aa (eV (K:=K) rfl (pv 0) rfl) au)))) rfl iR vY (pv 3)) rfl))),?_⟩
  walk_at "rdt";refine⟨ps,hd.l,by lia,T0,qZ (yq P' r b) ds,λj a H2 hj sb tb=>?_,λi a H2 hi least sb tb=>?_⟩
  ·have iE:j<ds.length:=by rw[← d9];exact d7 hj
   have kt:=T0.iW sb;refine(hd.kt kt).el j a ds[j] hj (List.getElem?_eq_getElem iE) λdx ap l ts m b' bC hD=>?_;rw[yr (List.getElem?_eq_getElem iE)];obtain⟨c1,c2⟩:=hc _ (List.getElem_mem iE);refine⟨_,rfl,_,rfl,_,rfl,C,p,P',fp,r,b,a,ds[j],dx,ap,l,ts,m,b',bC,rfl,hC,hP.kt kt,ok,r0,r1,hD,c1,c2,λH3 s3=>?_⟩;exact⟨_,_,_,s3 _ _ hD.o,T.mG,T.mH,_,rfl,λp np=>⟨rfl,λ_ _ e _=>ah.put np _ _ (s3 _ _ e),(tb.same s3).same (ah.put np)⟩⟩
  ·have h_:i<ds.length:=by rw[← d9];exact d7 hi
   refine(hd.kt (T0.iW sb)).el i a ds[i] hi (List.getElem?_eq_getElem h_) λdx ap l ts m b' bC hD=>?_;rw[d9] at least;exact⟨_,_,_,hD.o,T.mG,T.mH,_,rfl,q _ H2 sb tb (OE (λ_=>rfl) (List.getElem?_eq_getElem h_) least)⟩
theorem afv(T:Tx K mg A)(az:aj mg base A.aY A.aQ)(aA:aj mg base A.aZ A.aU)(aB:aj mg base A.a_ A.aV):aW P w K mg base bu 9 A.uU A.zD ["self", "plate", "ring", "beat", "dues"] (OD K [A.bx] A.aX A.bG A.aU (cg eT) (b_ "soonest_of") yq):=by
 refine T.Qo.ok adR (λvs H Q E h=>?_) (λaR Ar outer s H vs Q E hr h=>?_)
 ·obtain⟨x,C,p,P',fp,r,b,D,ps,ds,rfl,_⟩:=h
  rfl
 ·obtain⟨x,C,p,P',fp,r,b,D,ps,ds,rfl,hC,hP,ok,r0,r1,hd,d1,eX,hc,T0,q⟩:=h;refine⟨_,(aK (bD (br (afu T az aA aB) (hr.mono (by decide)) rfl T.Qh T.HJ.kp T.Qg .nil aO (aa (pv 1) (aa (pv 2) (aa (pv 3) (aa (pv 4) au))))))),?_⟩
  walk_at "rdm";exact⟨C,p,P',fp,r,b,D,ps,ds,rfl,hC,hP,ok,r0,r1,hd,d1,eX,hc,T0,q⟩
theorem afw(T:Tx K mg A)(az:aj mg base A.aY A.aQ)(aA:aj mg base A.aZ A.aU)(aB:aj mg base A.a_ A.aV):aW P w K mg base bu 10 A.A5 A.A6 ["plate", "asks", "rule", "ring", "shelf"] (adk K [A.bx] ⟨A.cT,A.cU,A.cV,A.bL,A.bQ⟩ A.aX A.dQ ⟨(A.aQ,cg dP,b_ "nearest_of"),(A.aU,cg eT,b_ "soonest_of"),(A.aV,cg eU,b_ "latest_of")⟩):=by
 refine T.IC.ok mC (λvs H Q E h=>?_) (λaR Ar outer s H vs Q E hr h=>?_)
 ·obtain⟨C,p,la,ru,dx,B,P',fp,ps,qs,o,st,J,rfl,_⟩:=h
  rfl
 ·obtain⟨C,p,la,ru,dx,B,P',fp,ps,qs,o,st,J,rfl,hC,hP,pk,pn,ha,ok,rd,lN,tb,j0,al,q⟩:=h;have hu:=j5 hr;refine⟨_,(aH (bI (i:=5) mC.nd rfl (Or.inl rfl) (tF T.SN (afs T az aA aB) (hr.mono (by decide)) rfl T.SO T.RP .nil aO (aa (pv 0) (aa (pv 1) (aa (pv 3) au)))))
   (aH (nH (dI (adi (pv 2) (lz (.of T.vP T.HL (Je T az aA aB) (hr.mono (by decide)) T.By) (lz (.of T.vQ T.HM (Je T az aA aB) (hr.mono (by decide)) T.By) (lz (.of T.vR T.HN (Je T az aA aB) (hr.mono (by decide)) T.By) (lz (.of T.lF T.HY (Jf T az aA aB) (hr.mono (by decide)) T.BC) (lz (.of T.n_ T.HZ (Jf T az aA aB) (hr.mono (by decide)) T.BC) Pa))))) aO)))
   (aH (bI (i:=6) mC.nd rfl (Or.inl rfl) (eO au))
   (aH (bI (i:=7) mC.nd rfl (Or.inl rfl) (eO au))
   (aH (bI (i:=8) mC.nd rfl (Or.inl rfl) (bq xq (eO (aa oK au)) (cQ gb rfl T.fz boot_len (aa (pv 1) au))))
   (aH (Yl PassesOwn.never (qw (bF (pv 5) rfl) (λ_=>rfl))
   (aH (bI (i:=9) mC.nd rfl (Or.inl rfl) (MC (pv 5) T.mJ T.RZ (ae8 T az aA aB) (hr.mono (by decide)) T.RY .nil aO))
   (aH (nH (bI (i:=10) mC.nd rfl (Or.inl rfl) (adh (pv 2) (lz (.of T.vP T.HP (afk T az aA aB) (hr.mono (by decide)) T.Qn) (lz (.of T.vQ T.HQ (afv T az aA aB) (hr.mono (by decide)) T.Qp) (lz (.of T.vR T.HR (afe T az aA aB) (hr.mono (by decide)) T.Qs) (lz (.of T.lF T.Ia (Uq T az aA aB) (hr.mono (by decide)) T.H_) (lz (.of T.n_ T.Ib (Uq T az aA aB) (hr.mono (by decide)) T.H_) Pa))))) aO (aa (pv 0) (aa (bF (pv 5) rfl) (aa (bF (pv 5) rfl) (aa (pv 9) au)))))))
   (aH (dI (jY PySem.F.plainAttrs_list PySem.F.slot_list_append PySem.F.type_list_append kU (pv 7) (aa (pv 10) au)))
   (aH (Mc (bF (pv 5) rfl) (Mb (pv 8) (pv 10) set_list))
   (aK (dI (jY PySem.F.plainAttrs_list PySem.F.slot_list_extend PySem.F.type_list_extend M6 (pv 6) (aa (MB (pv 5) T.mJ T.R3 (afp T az aA aB) (hr.mono (by decide)) T.R1 .nil aO (aa (pv 10) au)) au)))))))))
   (aH (bI (i:=11) mC.nd rfl (Or.inl rfl) (br (aeX T az aA aB) (hr.mono (by decide)) rfl T.R8 T.Iw.kp T.R7 .nil aO (aa (pv 6) au)))
   (aH (bI (i:=12) mC.nd rfl (Or.inl rfl) (L5 (qw (pv 6) (λ_=>rfl)) (bR gF (bR cS (pv 6) (s_ tD aF) (λ_ _=>rfl)) aF (λ_ _=>rfl)) aF))
   (aK (bD (tF T.SR (aeW T az aA aB) (hr.mono (by decide)) rfl T.SV T.R6 .nil aO (aa (pv 6) (aa (pv 8) (aa (br (aeZ T az aA aB) (hr.mono (by decide)) rfl T.Sf T.IB.kp T.Se .nil aO (aa (pv 1) (aa (pv 11) (aa (pv 4) au)))) (aa (br (ae9 T az aA aB) (hr.mono (by decide)) rfl T.Sd T.IA.kp T.Sa .nil aO (aa (pv 1) (aa (pv 7) au))) (aa (pv 12) au)))))))))))))))),?_⟩
  walk_at "rdt";intro x dc nx ndc nn;have s1:ah H (upd (upd H dc (.own x)) x (.ins A.bJ dc [])):=(ah.put ndc).trans (ah.put (by rw[aD (Ne.symm nn)];exact nx))
  have eY:upd (upd H dc (.own x)) x (.ins A.bJ dc []) x=some (.ins A.bJ dc []):=aI;generalize upd (upd H dc (.own x)) x (.ins A.bJ dc [])=H1 at *
  refine⟨C,x,dc,p,la,P',fp,ps,qs,0,rfl,eY,hC,hP.same s1,pn,ha.same s1,ok,(λq hq=>by rw[(rd q hq).k];exact ES (by decide)),λkp ks Dx ls H2 sb nD hc el=>⟨rfl,?_⟩⟩
  have s2:ah H H2:=λc o e=>sb _ _ (s1 _ _ e) (λz=>by rw[z,nx] at e;cases e)
  have nDH:=s1.free nD;have nrx:ru≠x:=λz=>by obtain⟨_,_,e⟩:=lN.ins;rw[z,nx] at e;cases e
  refine⟨λσ H3=>∃B',σ = [some (V.ref p),some (V.ref la),some (V.ref ru),some (V.int 0),some (V.int 0),some (V.ref x),none,none,none,none,none,none,none]/\bO ru (iu.of ⟨(A.aQ,cg dP,b_ "nearest_of"),(A.aU,cg eT,b_ "soonest_of"),(A.aV,cg eU,b_ "latest_of")⟩ o).1 H H3/\cu H H3/\eK (iu.of ⟨(A.aQ,cg dP,b_ "nearest_of"),(A.aU,cg eT,b_ "soonest_of"),(A.aV,cg eU,b_ "latest_of")⟩ o) H3/\cF K ⟨A.cT,A.cU,A.cV,A.bL,A.bQ⟩ o ⟨st.c,true,[]⟩ H3 ru dx B'/\B'≠Dx/\bN K A.bJ A.aX A.bG H3 x dc kp ks (iQ qs qs.length) p 0 0 Dx ls,?_,?_⟩
  ·cases o with
   | near=>exact⟨A.cT,dx,[],s2 _ _ lN,rfl,_,.head _,ru,rfl,x,rfl,bO.of (SameBut.of s2),cu.of s2,tb.same s2,s2 _ _ lN,hc.ne,hc⟩
   | gP=>exact⟨A.cU,dx,[],s2 _ _ lN,rfl,_,.tail _ (.head _),ru,rfl,x,rfl,bO.of (SameBut.of s2),cu.of s2,tb.same s2,s2 _ _ lN,hc.ne,hc⟩
   | gQ=>exact⟨A.cV,dx,[],s2 _ _ lN,rfl,_,.tail _ (.tail _ (.head _)),ru,rfl,x,rfl,bO.of (SameBut.of s2),cu.of s2,tb.same s2,s2 _ _ lN,hc.ne,hc⟩
   | li sw =>
    obtain⟨C',hk,hK,lt⟩:=lN;have wk:=lt.same s2;have mem:(C',yx K [A.bL,A.bQ])∈[(A.cT,yE),(A.cU,yE),(A.cV,yE),(A.bL,yx K [A.bL,A.bQ]),(A.bQ,yx K [A.bL,A.bQ])]:=by
     rcases id hk with⟨e,_⟩ | ⟨e,_⟩ <;> rw[e]
     ·exact .tail _ (.tail _ (.tail _ (.head _)))
     ·exact .tail _ (.tail _ (.tail _ (.tail _ (.head _))))
    exact⟨C',dx,_,wk.o,by simp[iF,List.lookup_cons,fc],_,mem,C',ru,dx,st.c,_,rfl,hk.mem,hK,wk.o,.inr ⟨_,_,rfl⟩,λB' H3 nB lJ uc=>⟨B',rfl,λc u e n z=>lJ _ _ (s2 _ _ e) n,(cu.of s2).trans (wk.iW lJ),(tb.same s2).but lJ wk.o,⟨C',hk,hK,uc⟩,(λz=>by rw[z,hc.d] at nB;cases nB),hc.kt (wk.iW lJ)⟩⟩
  ·rintro σ H3 ⟨B',rfl,wm,rS,rT,Cj,nB3,jq⟩;walk_at "rdt";intro R nR Pk nP T0 nT0;have an:=ha.n;have on:=ok.n;have fR:=lA.of wm rS nR;have sR:=ah.put (o:=.lst []) nR;have fP:=lA.of wm rS (sR.free nP);have sP:=ah.put (o:=.lst []) nP;have Ck:=ah.put (o:=.lst [V.aN]) nT0;have wu:=(sR.trans sP).trans Ck;have JO:=(sP.trans Ck) _ _ (aI (H:=H3) (a:=R) (o:=.lst []));have p7:=Ck _ _ (aI (H:=upd H3 R (.lst [])) (a:=Pk) (o:=.lst []));have nRP:R≠Pk:=bX (aI (H:=H3) (a:=R) (o:=.lst [])) nP;generalize upd (upd (upd H3 R (.lst [])) Pk (.lst [])) T0 (.lst [V.aN])=H4 at *
   refine⟨_,.inl (aE.of (wu _ _ (rS.lst ha.l))),by lia,by rw[List.length_map];lia,by rw[List.length_map];lia,λTk nT=>?_⟩
   have et:(List.replicate (((ps.map V.ref).length:Int)).toNat [V.aN]).flatten=cY qs.length []:=by unfold cY;simp[an]
   rw[et];have fT:=lA.of wm rS (wu.free nT);have sT:=ah.put (o:=.lst (cY qs.length [])) nT;have lM:=wu.trans sT;have Uu:=sT _ _ JO;have Uv:=sT _ _ p7;have Uw:upd H4 Tk (.lst (cY qs.length [])) Tk=some (.lst (cY qs.length [])):=aI;have nRT:R≠Tk:=bX JO nT;have nPT:Pk≠Tk:=bX p7 nT;generalize upd H4 Tk (.lst (cY qs.length []))=H5 at *
   have I0:Pf K ⟨A.cT,A.cU,A.cV,A.bL,A.bQ⟩ A.bJ A.aX A.bG (iu.of ⟨(A.aQ,cg dP,b_ "nearest_of"),(A.aU,cg eT,b_ "soonest_of"),(A.aV,cg eU,b_ "latest_of")⟩ o) o P' qs J H H3 H5 ls ru dx B' x dc kp p Dx R Pk Tk ks (iQ qs qs.length) 0 0 ls ⟨st.c,true,[]⟩ [] [] [] :=
    { kx:=wm.same lM,kt:=rS.trans (cu.of lM),tb:=rT.same lM,rA:=Cj.same lM,nB:=nB3,nx:=nrx,co:=jq.same lM,j:=(by rw[el];exact j0),fx:=nx,fd:=nDH,c3:=jq,bt:=(λc u e _ _ _=>lM _ _ e),sub:=.refl _,n3:=⟨nR,sR.free nP,wu.free nT⟩,fR:=fR,fP:=fP,fT:=fT,ne:=⟨nRP,nRT,nPT⟩,rr:=⟨Uu,rfl,λi t r e=>(by simp at e)⟩,r5:=(λ_ h=>nomatch h),rl:=Nat.le_refl _,rh:=(λ_ h=>nomatch h),pP:=Uv,tT:=Uw,n:=(by have:=congrArg List.length el;rw[List.length_map,Fx] at this;simpa using this),all:=λd hd=>.inl (el▸hd),dr:=λy hy=>el▸List.mem_map_of_mem hy,tn:=(λ_ h=>nomatch h),r0:=Int.le_refl _,r1:=by have:=pk.n2;lia }
   generalize akM:ls=uI at *
   refine acz λBd hBd=>?_;refine⟨λm σ H'=>∃(B:Addr) (r b:Int) (ls:List (Dr×Addr)) (st:Lt) (tk:List (Int×Int)) (ts:List Addr) (rows:List (List Int)) (u9 Ux JP JQ:Option V),m=ls.length/\σ = [some (V.ref p),some (V.ref la),some (V.ref ru),some (V.int 0),some (V.int 0),some (V.ref x),some (V.ref R),some (V.ref Pk),some (V.ref Tk),u9,Ux,JP,JQ]/\Pf K ⟨A.cT,A.cU,A.cV,A.bL,A.bQ⟩ A.bJ A.aX A.bG (iu.of ⟨(A.aQ,cg dP,b_ "nearest_of"),(A.aU,cg eT,b_ "soonest_of"),(A.aV,cg eU,b_ "latest_of")⟩ o) o P' qs J H H3 H' uI ru dx B x dc kp p Dx R Pk Tk ks (iQ qs qs.length) r b ls st tk ts rows,⟨_,_,_,_,uI,_,_,_,_,none,none,none,none,rfl,rfl,I0⟩,?_⟩;clear I0 Uu Uv Uw sT lM JO p7 wu Ck sP sR jq Cj wm rS rT;rintro m σ H6 ⟨B2,r2,b2,c_,eE,cJ,ji,wz,u9,Ux,JP,JQ,rfl,rfl,I⟩;have JR:=I.co.o;unfold dW at JR;wp_walk using T,JR;refine⟨_,.inr (.inr ⟨_,I.co.d,rfl⟩),eo (λh0=>?_) λh0=>?_⟩
   ·have hl:1<=c_.length:=by
     cases c_ with
     | nil=>simp[cO] at h0
     | cons y l=>simp
    have kn:=ac8 rd;refine⟨_,λ_ _ h=>h,hBd _ _ _ ?_⟩;wp_walk using T,JR;refine⟨x,dc,kp,ks,_,p,r2,b2,Dx,c_,rfl,I.co,hl,λns h=>by rw[kn ns h];simp,λb3 D H7 Uy oB JS nD hD=>?_⟩
    rw[ac9 kn] at hD;have jO:=I.rA.iH I.co oB I.nx I.nB;have kx7:=I.kx.iH oB I.fx I.fd;have JT:=I.kt.iH oB I.fx I.fd;have jr:=I.tb.iH I.co oB;have Uz:=JS.o;unfold dW at Uz;have cj:1<=((c_.filter λy=>decide (y.1.q.at_<=b3)).map (·.1)).length:=by
     obtain⟨M,⟨y,hy,e⟩,_,e2⟩:=Uy;have:y∈c_.filter λy=>decide (y.1.q.at_<=b3):=List.mem_filter.mpr ⟨hy,decide_eq_true (by rw[e,e2];split <;> lia)⟩
     rw[List.length_map];exact List.length_pos_of_mem this
    have hd2:((c_.filter λy=>decide (y.1.q.at_<=b3)).map (·.1)).length<=100:=by
     have:=List.length_filter_le (λy:Dr×Addr=>decide (y.1.q.at_<=b3)) c_;have:=I.co.n;rw[List.length_map];lia
    have l6:∀y∈c_,yH P' y.1.q/\y.1.c=cH P'.nc y.1.q.first y.1.q.many:=λy hy=>by
     obtain⟨a,b⟩:=uF _ _ _ _ (I.dr y hy);exact⟨rd _ a,b⟩
    have UA:∀d∈(c_.filter λy=>decide (y.1.q.at_<=b3)).map (·.1),1<=d.c.length:=λd hd=>by
     obtain⟨y,hy,rfl⟩:=List.mem_map.mp hd;obtain⟨a,b⟩:=l6 y (List.mem_filter.mp hy).1;have:=a.m0;rw[b,a.cn];lia
    wp_walk using T,Uz;refine⟨λσ H8=>∃(d:Dr) (cA:Lt) (B':Addr),σ = [some (V.ref p),some (V.ref la),some (V.ref ru),some (V.int 0),some (V.int 0),some (V.ref x),some (V.ref R),some (V.ref Pk),some (V.ref Tk),some (V.ref D),some (V.int d.n),JP,JQ]/\bO ru (iu.of ⟨(A.aQ,cg dP,b_ "nearest_of"),(A.aU,cg eT,b_ "soonest_of"),(A.aV,cg eU,b_ "latest_of")⟩ o).1 H7 H8/\cu H7 H8/\eK (iu.of ⟨(A.aQ,cg dP,b_ "nearest_of"),(A.aU,cg eT,b_ "soonest_of"),(A.aV,cg eU,b_ "latest_of")⟩ o) H8/\cF K ⟨A.cT,A.cU,A.cV,A.bL,A.bQ⟩ o cA H8 ru dx B'/\B'≠Dx/\yI o eE P' r2 b3 ((c_.filter λy=>decide (y.1.q.at_<=b3)).map (·.1)) d cA,?_,?_⟩;have UB:∀d∈(c_.filter λy=>decide (y.1.q.at_<=b3)).map (·.1),1<=d.c.length/\k8 P' d.c:=λd hd=>by
     refine⟨UA d hd,?_⟩;obtain⟨y,hy,rfl⟩:=List.mem_map.mp hd;obtain⟨a,b⟩:=l6 y (List.mem_filter.mp hy).1;rw[b];exact a.c
    ·cases o with
     | near=>exact⟨A.cT,dx,[],jO,rfl,_,.head _,ru,C,p,P',fp,r2,b3,D,_,_,rfl,hC,hP.kt JT,pk,I.r0,I.r1,hD,cj,hd2,UB,jr,λd H8 kF mO best=>⟨d,eE,B2,rfl,bO.tb kF,jr.iW kF,mO,kF _ _ jO (jr.ne jO (λ_ z=>nomatch z)),I.nB,best,rfl⟩⟩
     | gP=>exact⟨A.cU,dx,[],jO,rfl,_,.tail _ (.head _),ru,C,p,P',fp,r2,b3,D,_,_,rfl,hC,hP.kt JT,pk,I.r0,I.r1,hD,cj,hd2,UB,jr,λd H8 kF mO best=>⟨d,eE,B2,rfl,bO.tb kF,jr.iW kF,mO,kF _ _ jO (jr.ne jO (λ_ z=>nomatch z)),I.nB,best,rfl⟩⟩
     | gQ=>exact⟨A.cV,dx,[],jO,rfl,_,.tail _ (.tail _ (.head _)),ru,p,r2,b3,D,_,_,rfl,hD,cj,hd2,jr,λd H8 kF mO best=>⟨d,eE,B2,rfl,bO.tb kF,jr.iW kF,mO,kF _ _ jO (jr.ne jO (λ_ z=>nomatch z)),I.nB,best,rfl⟩⟩
     | li sw =>
      obtain⟨C',hk,hK,lt⟩:=jO;refine⟨C',dx,_,lt.o,by simp[iF,List.lookup_cons,fc],Pd K A.aX A.bG A.bL A.bQ A.aQ (cg dP) (b_ "nearest_of"),?_,C',ru,dx,B2,sw,eE,p,r2,b3,D,_,_,P',rfl,hk,hK,lt,hD,cj,hd2,UA,jr,λd B' H8 bB Cm mO lt8 best=>⟨d,_,B',rfl,Cm,lt.adl (let ⟨ps,e,_⟩:=jr;⟨ps,e⟩) Cm,mO,⟨C',hk,hK,lt8⟩,nBD I.nB JS bB,rfl,best⟩⟩
      rcases id hk with⟨e,_⟩ | ⟨e,_⟩ <;> rw[e]
      ·exact .tail _ (.tail _ (.tail _ (.head _)))
      ·exact .tail _ (.tail _ (.tail _ (.tail _ (.head _))))
    ·rintro σ H8 ⟨d,cA,B',rfl,Cm,p8,mO,hr8,UC,UD⟩;have Cn:=JS.kt p8;have p9:=p8.lst (I.co.lst oB I.pP) iV.ints;have Co:=p8.lst (I.co.lst oB I.tT) (ac5 _ _);have JU:=I.co.zt oB I.rr;have JV:Zt H8 R ji wz:=⟨p8.lst JU.l,JU.n,λi t r e1 e2=>p8.tup (JU.t i t r e1 e2)⟩;obtain⟨UE,UG,UH⟩:=I.ne;have bt8:=(I.bt.iH oB).kt p8;obtain⟨y,hyf,ey⟩:=List.mem_map.mp UD.mem;have hy:=(List.mem_filter.mp hyf).1;subst ey;have rW:=Cn.o;have UI:x≠Pk:=λz=>by rw[z,p9] at rW;cases rW
     have nxT:x≠Tk:=λz=>by rw[z,Co] at rW;cases rW
     have nDP:Dx≠Pk:=λz=>by have:=Cn.d;rw[z,p9] at this;cases this
     have nDT:Dx≠Tk:=λz=>by have:=Cn.d;rw[z,Co] at this;cases this
     obtain⟨yn0,UJ⟩:=uE _ _ _ _ (I.dr y hy);simp only[Nat.zero_add] at UJ;walk_at "rdt";refine⟨⟨_,aE.of p9⟩,_,p9,by rw[List.length_map,List.length_map];have:=I.n;lia,?_⟩
     have UK:upd H8 Pk (.lst (((cJ.map (·.1)).map V.int)++[V.int y.1.n])) x=some (.ins A.bJ dc (dW kp p r2 b3 Dx)):=by rw[aD UI];exact rW
     have JW:upd H8 Pk (.lst (((cJ.map (·.1)).map V.int)++[V.int y.1.n])) Tk=some (.lst (cY qs.length cJ)):=by rw[aD (Ne.symm UH)];exact Co
     unfold dW at UK;refine⟨_,_,_,UK,T.mJ,T.vO,V.int b3,by simp[List.lookup_cons,fc],_,JW,y.1.n.toNat,by rw[Fy];unfold i8;rw[if_pos (by lia),if_pos (by lia)],?_⟩
     rw[← ac4 qs.length cJ (y.1.n,b3)];have UL:Zt (upd (upd H8 Pk (.lst (((cJ.map (·.1)).map V.int)++[V.int y.1.n]))) Tk (.lst (cY qs.length (cJ++[(y.1.n,b3)])))) R ji wz:=⟨by rw[aD UG,aD UE];exact JV.l,JV.n,λi t r e1 e2=>by
      have:=JV.t i t r e1 e2;rw[aD (λz=>by rw[z,Co] at this;cases this),aD (λz=>by rw[z,p9] at this;cases this)];exact this⟩
     have UM:upd (upd H8 Pk (.lst (((cJ.map (·.1)).map V.int)++[V.int y.1.n]))) Tk (.lst (cY qs.length (cJ++[(y.1.n,b3)]))) x=some (.ins A.bJ dc (dW kp p r2 b3 Dx)):=by rw[aD nxT,aD UI];exact rW
     have afx:upd (upd H8 Pk (.lst (((cJ.map (·.1)).map V.int)++[V.int y.1.n]))) Tk (.lst (cY qs.length (cJ++[(y.1.n,b3)]))) Dx=some (.dK (cO c_)):=by rw[aD nDT,aD nDP];exact Cn.d
     have afy:upd (upd H8 Pk (.lst (((cJ.map (·.1)).map V.int)++[V.int y.1.n]))) Tk (.lst (cY qs.length (cJ++[(y.1.n,b3)]))) Pk=some (.lst (((cJ++[(y.1.n,b3)]).map (·.1)).map V.int)):=by rw[aD UH,aI];simp
     have afz:upd (upd H8 Pk (.lst (((cJ.map (·.1)).map V.int)++[V.int y.1.n]))) Tk (.lst (cY qs.length (cJ++[(y.1.n,b3)]))) Tk=some (.lst (cY qs.length (cJ++[(y.1.n,b3)]))):=aI;have JX:jG x Dx H3 (upd (upd H8 Pk (.lst (((cJ.map (·.1)).map V.int)++[V.int y.1.n]))) Tk (.lst (cY qs.length (cJ++[(y.1.n,b3)])))):=(bt8.put I.n3.2.1).put I.n3.2.2;have afA:bO ru (iu.of ⟨(A.aQ,cg dP,b_ "nearest_of"),(A.aU,cg eT,b_ "soonest_of"),(A.aV,cg eU,b_ "latest_of")⟩ o).1 H (upd (upd H8 Pk (.lst (((cJ.map (·.1)).map V.int)++[V.int y.1.n]))) Tk (.lst (cY qs.length (cJ++[(y.1.n,b3)])))):=((kx7.trans Cm).put I.fP).put I.fT;have UN:cu H (upd (upd H8 Pk (.lst (((cJ.map (·.1)).map V.int)++[V.int y.1.n]))) Tk (.lst (cY qs.length (cJ++[(y.1.n,b3)])))):=((JT.trans p8).FD I.fP).FD I.fT;have afB:eK (iu.of ⟨(A.aQ,cg dP,b_ "nearest_of"),(A.aU,cg eT,b_ "soonest_of"),(A.aV,cg eU,b_ "latest_of")⟩ o) (upd (upd H8 Pk (.lst (((cJ.map (·.1)).map V.int)++[V.int y.1.n]))) Tk (.lst (cY qs.length (cJ++[(y.1.n,b3)])))):=(mO.i9 p9).i9 JW;have afC:cF K ⟨A.cT,A.cU,A.cV,A.bL,A.bQ⟩ o cA (upd (upd H8 Pk (.lst (((cJ.map (·.1)).map V.int)++[V.int y.1.n]))) Tk (.lst (cY qs.length (cJ++[(y.1.n,b3)])))) ru dx B':=(hr8.i9 p9).i9 JW;generalize upd (upd H8 Pk (.lst (((cJ.map (·.1)).map V.int)++[V.int y.1.n]))) Tk (.lst (cY qs.length (cJ++[(y.1.n,b3)])))=H10 at *
     have rX:=I.c3.O8 JX I.sub UM afx;obtain⟨ya,yb⟩:=l6 y hy;have ycn:y.1.c.length=y.1.q.many.toNat:=by rw[yb];exact ya.cn
     have Um:=ya.m0;have Uo:=ya.m1;have JY:k8 P' y.1.c:=by rw[yb];exact ya.c
     have UO:=UM;unfold dW at UO;refine⟨⟨_,aE.of UL.l⟩,_,_,UO,by simp[List.lookup_cons,fc],C,x,dc,kp,ks,_,p,P',fp,r2,b3,Dx,c_,y,rfl,rX,hy,hC,hP.kt UN,pk,I.r0,I.r1,JY,by lia,by lia,λl tw H11 mQ nl Cp JZ=>?_⟩
     have rY:=rX.zt mQ UL;have wl:=t_ P' y.1.c (r2,b3);have irn:=I.rr.n;have irl:=I.rl;have UP:=I.n;have izn:=JZ.n;rw[List.length_map] at izn;have fl:=ac7 I.co.up hy;have J1:(c_.filter λz=>decide (z.1.n≠y.1.n)).Sublist c_:=List.filter_sublist;have nxR:x≠R:=λz=>by have:=Cp.o;rw[z,rY.l] at this;cases this
     have nDR:Dx≠R:=λz=>by have:=Cp.d;rw[z,rY.l] at this;cases this
     refine⟨l,rfl,_,rY.l,_,JZ.l,by rw[List.length_map,List.length_map];lia,_,?_,B',(c9 P' (r2,b3) y.1.c).1,(c9 P' (r2,b3) y.1.c).2,c_.filter (λz=>decide (z.1.n≠y.1.n)),rfl,cA,cJ++[(y.1.n,b3)],ji++tw,wz++(gc P' (r2,b3) y.1.c).map (λrow=>y.1.n::row),?_⟩
     ·lia
     have sd:O7 (c_.map (·.1)) b2 b3:=by
      obtain⟨M,⟨z,hz,e⟩,hm,e2⟩:=Uy;exact⟨M,⟨z.1,List.mem_map_of_mem hz,e⟩,λd hd=>by obtain⟨z,hz,rfl⟩:=List.mem_map.mp hd;exact hm z hz,e2⟩
     have jj:=al.go (c_.map (·.1)) r2 b2 eE cJ b3 y.1 cA I.j (λz=>by have:=congrArg List.length z;rw[List.length_map] at this;simp at this;rw[this] at hy;cases hy) sd (by rw[List.filter_map];exact UD)
     rw[List.filter_map] at jj;have UQ:=EJ P' (n:=P'.rc.length) y.1.c (r2,b3) I.r0 I.r1 λq hq=>⟨(JY q hq).1,(JY q hq).2.1⟩;exact {
      kx:=(afA.iH mQ I.fx I.fd).put I.fR,kt:=(UN.iH mQ I.fx I.fd).FD I.fR,tb:=(afB.iH rX mQ).i9 rY.l,rA:=(afC.iH rX mQ I.nx UC).i9 rY.l,nB:=UC,nx:=I.nx,co:=I.c3.O8 ((JX.iH mQ).put I.n3.1) (J1.trans I.sub) (by rw[aD nxR];exact Cp.o) (by rw[aD nDR];exact Cp.d),j:=jj,fx:=I.fx,fd:=I.fd,c3:=I.c3,bt:=(JX.iH mQ).put I.n3.1,sub:=J1.trans I.sub,n3:=I.n3,fR:=I.fR,fP:=I.fP,fT:=I.fT,ne:=I.ne,rr:=rY.cat JZ,
      r5:=(λw hw=>by
       rcases List.mem_append.mp hw with hw | hw
       ·exact I.r5 w hw
       ·obtain⟨row,hr,rfl⟩:=List.mem_map.mp hw;rw[List.length_cons,EI P' y.1.c (r2,b3) row hr]),
      rl:=(by rw[List.length_append,List.length_append,List.length_map,wl,List.length_singleton];lia),
      rh:=(λq hq=>by
       rcases List.mem_append.mp hq with hq | hq
       ·obtain⟨w,hw,e⟩:=I.rh q hq;exact⟨w,List.mem_append_left _ hw,e⟩
       ·rw[List.mem_singleton.mp hq];obtain⟨row,hr⟩:=List.exists_mem_of_length_pos (l:=gc P' (r2,b3) y.1.c) (by lia)
        exact⟨_,List.mem_append_right _ (List.mem_map_of_mem hr),rfl⟩),
      pP:=(by rw[aD (Ne.symm UE)];exact rX.lst mQ afy),tT:=(by rw[aD (Ne.symm UG)];exact rX.lst mQ afz),
      n:=(by rw[List.length_append,List.length_singleton];lia),
      all:=(λd hd=>by
       rcases I.all d hd with h | ⟨q',iO,e⟩
       ·by_cases e:d.n=y.1.n
        ·exact .inr ⟨(y.1.n,b3),List.mem_append_right _ (List.mem_singleton_self _),e.symm⟩
        ·obtain⟨z,hz,rfl⟩:=List.mem_map.mp h;exact .inl (List.mem_map_of_mem (List.mem_filter.mpr ⟨hz,decide_eq_true e⟩))
       ·exact .inr ⟨q',List.mem_append_left _ iO,e⟩),
      dr:=(λz hz=>I.dr z (J1.subset hz)),
      tn:=(λq hq=>by
       rcases List.mem_append.mp hq with hq | hq
       ·exact I.tn q hq
       ·rw[List.mem_singleton.mp hq];exact⟨by simpa using yn0,UJ⟩),
      r0:=UQ.1,r1:=UQ.2 }
   ·have hl:c_ = []:=by
     cases c_ with
     | nil=>rfl
     | cons y l=>simp[cO] at h0
    subst hl;have UP:=I.n;have irl:=I.rl;simp only[List.length_nil,Nat.add_zero] at UP;refine⟨R,ji,wz,rfl,I.rr,by lia,I.r5,λEd kvs H7 s7 nE hE hv=>?_⟩
    have fin:∀v5,O6 K A.aX [V.ref la,V.ref Ed,V.int 0] H7 (λx H1=>O5 K A.aX [V.ref la,V.ref Pk] H1 (λx_5 H1=>∀(rZ dx:Addr),H1 rZ=none->H1 dx=none->dx≠rZ->O4 A.dQ [V.ref rZ,V.ref R,V.ref Tk,x,x_5,v5] (upd (upd H1 dx (HO.own rZ)) rZ (HO.ins A.dQ dx [])) (λv H2=>v=V.aN/\Q (V.ref rZ) H2) E0) E0) E0:=by
     intro v5;have UR:=(ha.kt I.kt).same s7;refine⟨la,ps,qs,Ed,kvs,0,rfl,UR,on,λq hq=>⟨(rd q hq).k,(rd q hq).e⟩,hE,λn n0 n1=>?_,λl H8 s8=>?_⟩
     ·obtain⟨d,hd,e⟩:=Fz P'.nc qs 0 n.toNat (by lia)
      rcases I.all d hd with h | ⟨q',iO,e2⟩
      ·cases h
      ·refine hv n ?_;obtain⟨w',hw,e3⟩:=I.rh q' iO;exact⟨w',hw,by rw[e3,e2,e];congr 1;lia⟩
     ·refine⟨la,ps,qs,Pk,cJ.map (·.1),rfl,UR.same s8,on,λq hq=>⟨(rd q hq).k,(rd q hq).f0,(rd q hq).f1,by have:=(rd q hq).m0;lia,(rd q hq).m1⟩,s8 _ _ (s7 _ _ I.pP),by rw[List.length_map];lia,λn hn=>?_,λl2 H9 s9 xx dd nxx ndd nnd=>⟨xx,dd,_,_,_,_,_,rfl,aI,rfl,?_⟩⟩
      ·obtain⟨q',iO,rfl⟩:=List.mem_map.mp hn;exact I.tn q' iO
      ·have sa:ah H6 H9:=(s7.trans s8).trans s9;have sb:∀u,ah H9 (upd (upd (upd H9 dd (.own xx)) xx (.ins A.dQ dd [])) xx u):=λu c o e=>by
        have n1:c≠xx:=λz=>by rw[z,nxx] at e;cases e
        have n2:c≠dd:=λz=>by rw[z,ndd] at e;cases e
        rw[aD n1,aD n1,aD n2];exact e
       have sc:=λu=>sa.trans (sb u);exact q xx dd _ Tk _ _ _ r2 b2 eE cJ dx B2 _ (I.kx.same (sc _)) (I.tb.same (sc _)) I.j (I.rA.same (sc _)) aI (sc _ _ _ I.tT)
    refine⟨_,.inl ⟨_,aE.of (s7 _ _ I.rr.l),rfl⟩,eo (λh1=>?_) λh1=>fin _⟩;have fV:wz≠[]:=λz=>by
     have:=I.rr.n;rw[z] at this;have:ji = []:=List.length_eq_zero_iff.mp this;rw[this] at h1;simp at h1
    have hz:=I.rr.same s7;have hw5:=I.r5 _ (List.getLast_mem fV);obtain⟨g1,g2,g3,g4,g5,eg⟩:=O3 hw5;rw[← List.dropLast_concat_getLast fV,eg] at hz;obtain⟨q9,t,rfl,ht⟩:=hz.last;exact⟨_,aE.of (s7 _ _ I.rr.l),_,by rw[List.map_append];exact MR _ _,t,rfl,_,bE.of ht,_,fG (j:=4) rfl,fin _⟩
theorem afD(T:Tx K mg A)(az:aj mg base A.aY A.aQ)(aA:aj mg base A.aZ A.aU)(aB:aj mg base A.a_ A.aV):aW P w K mg base bu 11 A.Bp A.Bq ["_law_plate", "_law_rule", "_law_found", "_law_times", "_law_most"] (ady K A.bx ⟨A.cT,A.cU,A.cV,A.bL,A.bQ⟩ A.aX ⟨(A.aQ,cg dP,b_ "nearest_of"),(A.aU,cg eT,b_ "soonest_of"),(A.aV,cg eU,b_ "latest_of")⟩):=by
 refine T.IL.ok pL (λvs H Q E h=>?_) (λaR Ar outer s H vs Q E hr h=>?_)
 ·obtain⟨p,ru,t,dx,B,l1,l2,times,most,n1,n,P',fp,p1,p2,o,st,rfl,_⟩:=h
  rfl
 ·obtain⟨p,ru,t,dx,B,l1,l2,times,most,n1,n,P',fp,p1,p2,o,st,rfl,hP,ev,ht,h1,h2,t1,t2,m2,lN,hc,tb,q⟩:=h;have pW:=hr.oV;have a1:=h1.n;have a2:=h2.n;have nn:1<=n:=by
   have:=ev.st.ge;have:=ev.ca;by_cases z:n=0
   ·subst z;simp at *;lia
   ·lia
  have US:(fL P' n).length=n:=by unfold fL;rw[List.length_map,List.length_range]
  rw[US] at a2;refine⟨_,(aH (iY (bI (i:=5) pL.nd rfl (Or.inr rfl) (xh MW rfl T.pQ boot_list (aa (bR gF (pv 2) aF (λ_ _=>rfl)) au))))
   (aH (iY (dY PassesOwn.never rfl (mW rfl T.gv (aa (cQ (Mt rfl) rfl T.lG boot_min (aa (pv 3) (aa (bq tu (bq jz aF (cQ gb rfl T.fz boot_len (aa (pv 5) au))) (cQ gb rfl T.fz boot_len (aa (bR gF (pv 2) aF (λ_ _=>rfl)) au))) au))) au)) (bH (i:=6) pL.nd rfl (Or.inl rfl))
   (aK (dY PassesOwn.never rfl (fE (bR gF (pv 2) aF (λ_ _=>rfl))) (bH (i:=7) pL.nd rfl (Or.inl rfl))
   (aK (dI (jY PySem.F.plainAttrs_list PySem.F.slot_list_append PySem.F.type_list_append kU (pv 5) (aa (br (afr T az aA aB) (hr.mono (by decide)) rfl T.Ss T.IG.kp T.Sq .nil aO (aa (pv 7) (aa (bq i6 (pv 6) (bR gF (pv 2) aF (λ_ _=>rfl))) au))) au))))))))
   (aH (iY (dY PassesOwn.never rfl (mW rfl T.gv (aa (bq jz (cQ gb rfl T.fz boot_len (aa (pv 5) au)) aF) au)) (bH (i:=8) pL.nd rfl (Or.inl rfl))
   (aK (cy (bM jU (bF (bR cS (pv 5) (pv 8) (λ_ _=>rfl)) rfl) (bF (bR cS (pv 5) (bq cG (pv 8) aF) (λ_ _=>rfl)) rfl) (bK _)) (aK (bD iA)) cE))))
   (aH (iY (bI (i:=9) pL.nd rfl (Or.inr rfl) (bF (br (afw T az aA aB) (hr.mono (by decide)) rfl T.Sh T.IC.kp T.Sg (show Vals [.int 0,.int 0] [.int 0 A.Hw,.int 0 A.Hx] from(.cons ⟨_,rfl⟩ (.cons ⟨_,rfl⟩ .nil))) aO (aa (pv 0) (aa (pv 5) (aa (pv 1) au)))) rfl)))
   (aH (iY (cy (bM lT (cQ (abO rfl) rfl T.vW boot_max (aa (pv 9) au)) (bR cS (pv 9) aF (λ_ _=>rfl)) (bK _)) (aK (bD iA)) cE))
   (aH (dY PassesOwn.never rfl (fE (pv 9)) (bH (i:=10) pL.nd rfl (Or.inr rfl))
   (aK (cy (bM jU (cQ gb rfl T.fz boot_len (aa (iP (N:=["_law_k", "_law_beat", "_law_taken", "_law_asks"]) (nt:=1) (fv:=[10,9,5]) (dw.of rfl rfl (by rfl) (by rfl) (by repeat (first | exact trivial | refine⟨rfl,?_⟩)) (by rfl) (by rfl) (by rfl) (by decide) (by decide +kernel)) rfl (mW rfl T.gv (aa (cQ gb rfl T.fz boot_len (aa (pv 5) au)) au)) (λC s H fp=>(bH (i:=0) (show List.Nodup (["_law_k", "_law_beat", "_law_taken", "_law_asks"]:List Str) by decide +kernel) rfl (Or.inl rfl))) (λC s H fp=>(nu (Mp qq qq (eV (K:=K) rfl (bR (EA (K:=K) rfl) (pv 3) (pv 0) (λ_ _=>rfl)) rfl) (pv 1) (bR (EA (K:=K) rfl) (pv 2) (pv 0) (λ_ _=>rfl))))) (λC s H fp=>(pv 0))) au)) (pv 4) (bK _)) (aK (bD iA)) cE)))
   (aK (bD iA)))))))),?_⟩
  refine jk λN1 k1=>?_;walk_at "rdt";refine⟨_,bE.of ht,_,rfl,l1,rfl,_,.inl (aE.of h1.l),λL nL=>k1 _ _ ?_⟩;have sL:=ah.put (o:=.lst (p1.map V.ref)) nL;have hL:cW K A.aX (upd H L (.lst (p1.map V.ref))) L p1 (fX P' n1 n 0):=⟨aI,h1.n,λi p' q' e1 e2=>by
   obtain⟨m,b,d,z⟩:=h1.t i p' q' e1 e2;exact⟨m,b,d,z.same sL⟩⟩
  generalize upd H L (.lst (p1.map V.ref))=H1 at sL hL ⊢;refine jk λN2 k2=>?_;have rd:∃k:Nat,((if (100 - (p1.length:Int)) / n<times then(100 - (p1.length:Int)) / n else times)=(k:Int))/\(fX P' n1 n k).length<=100:=by
   have d0:0<=(100 - (p1.length:Int)) / n:=Int.ediv_nonneg (by simp at a1;lia) (by lia)
   have dm:=Int.ediv_mul_le (100 - (p1.length:Int)) (show (n:Int)≠0 by lia)
   generalize (100 - (p1.length:Int)) / n=x at d0 dm;refine⟨(if x<times then x else times).toNat,by split <;> lia,?_⟩
   show (rounds P' n _).length+1<=100;rw[uK];have:(((if x<times then x else times).toNat:Nat):Int)*n<=x*n:=Int.mul_le_mul_of_nonneg_right (by split <;> lia) (by lia)
   simp at a1;rw[a1] at dm;have c:((((if x<times then x else times).toNat)*n:Nat):Int)=(((if x<times then x else times).toNat:Nat):Int)*n:=by simp
   lia
  obtain⟨k,ek,afE⟩:=rd;refine EB k (λτ σ H'=>∃(v6 v7:Option V) (ps:List Addr),σ = [some (V.ref p),some (V.ref ru),some (V.ref t),some (V.int times),some (V.int most),some (V.ref L),v6,v7,none,none,none]/\ah H H'/\cW K A.aX H' L ps (fX P' n1 n τ)) (λQ q=>?_) (by lia) ⟨none,none,_,rfl,sL,hL⟩ ?_ ?_
  ·walk_at "rdm";refine⟨_,.inl (aE.of hL.l),_,bE.of (sL _ _ ht),_,rfl,l2,rfl,_,.inl (aE.of (sL _ _ h2.l)),by rw[List.length_map];lia,by rw[List.length_map];have:=ev.st.b;lia,?_⟩
   rw[List.length_map,List.length_map,a2,ek];exact q
  ·rintro τ σ H2 N hN hτ ⟨v6,v7,ps,rfl,s2,hl⟩;walk_at "rdm";refine rl l2 (p2.map V.ref) (λκ σ H'=>∃(v7:Option V) (ps:List Addr),σ = [some (V.ref p),some (V.ref ru),some (V.ref t),some (V.int times),some (V.int most),some (V.ref L),some (V.int (τ:Int)),v7,none,none,none]/\ah H H'/\cW K A.aX H' L ps (fX P' n1 n τ++((fL P' n).take κ).map (nN · ((τ:Int)*P'.aG)))) (λQ q=>?_) (aE.of (s2 _ _ h2.l)) ⟨_,ps,rfl,s2,by rw[List.take_zero,List.map_nil,List.append_nil];exact hl⟩ (by rintro κ σ H' _ ⟨_,_,rfl,s',_⟩;exact aE.of (s' _ _ h2.l)) ?_ ?_
   ·walk_at "rdm";exact⟨_,bE.of (s2 _ _ ht),_,rfl,q⟩
   ·rintro κ x σ H3 N' p_ hx ⟨v7,fj,rfl,s3,r9⟩;obtain⟨a,UT,rfl⟩:=ff hx;have J4:κ<n:=by have:=d7 UT;lia
    obtain⟨m,b,d,ha⟩:=h2.t κ a (jH P' κ) UT (by unfold fL;rw[List.getElem?_map,List.getElem?_range J4];rfl)
    obtain⟨c,e1,e2,e3,e4⟩:=ev.chunk J4;have cb:=ev.cb;have l9:=ev.l9;have b1:=ev.b1;have lp:=ev.lp;have bl:cD P'<=P'.aG:=by
     have:=Int.mul_le_mul_of_nonneg_right ev.ca (show 0<=cD P' by lia)
     rw[Int.one_mul,lp] at this;exact this
    have UU:0<=P'.aG:=by lia
    have hm1:=Int.mul_le_mul (show (κ:Int)*16<=60 by lia) (show cD P'<=1000000000 by lia) (show 0<=cD P' by lia) (by decide)
    have JG:=Int.mul_nonneg (show 0<=(κ:Int)*16 by lia) (show 0<=cD P' by lia)
    have akN:k<=100:=by
     have:(fX P' n1 n k).length=k*n+1:=by show (rounds P' n k).length+1=_;rw[uK]
     have:=Nat.le_mul_of_pos_right k (show 0<n by lia)
     lia
    have ht1:=Int.mul_le_mul (show (τ:Int)<=100 by lia) l9 UU (by decide)
    have ht0:=Int.mul_nonneg (show 0<=(τ:Int) by lia) UU
    have nl:=r9.n;rw[List.length_append,List.length_map,List.length_take] at nl;walk_at "rdm";have ab:xX ((κ:Int)*16) (min 16 (c0 P' - (κ:Int)*16)) ((κ:Int)*16*cD P' + (τ:Int)*P'.aG) 0 (some ((κ:Int)*16*cD P' + (τ:Int)*P'.aG)):=⟨by lia,by lia,by lia,by lia,by lia,by lia,by lia,by lia,λy hy=>by cases hy;exact⟨by lia,by lia⟩⟩
    refine⟨⟨_,aE.of r9.l⟩,_,bE.of (s3 _ _ ht),_,rfl,_,rfl,.inl ⟨by lia,by lia⟩,a,_,jH P' κ,m,b,d,rfl,ha.same s3,ab,λa' m' b' d' H4 s4 na' ha'=>?_⟩
    have kD:=r9.same s4;have tks:=take_succ_get (l:=fL P' n) (i:=κ) (x:=jH P' κ) (by unfold fL;rw[List.getElem?_map,List.getElem?_range J4];rfl)
    refine⟨_,kD.l,?_,p_ _ _ ⟨_,fj++[a'],rfl,ah.put2 (s3.trans s4) nL,?_⟩⟩
    ·have l3:(fX P' n1 n τ).length=τ*n+1:=by show (rounds P' n τ).length+1=_;rw[uK]
     have lk:(fX P' n1 n k).length=k*n+1:=by show (rounds P' n k).length+1=_;rw[uK]
     have:=Nat.mul_le_mul_right n (show τ<=k by lia)
     have sb:=ev.st.b;refine adz ?_;rw[List.length_map];lia
    ·rw[tks,List.map_append,← List.append_assoc];exact kD.snoc ha'
   ·rintro σ H3 ⟨v7,fj,rfl,s3,r9⟩;rw[List.length_map,a2,List.take_of_length_le (by rw[US];lia)] at r9
    exact hN _ _ ⟨_,_,fj,rfl,s3,r9⟩
  ·rintro σ H2 ⟨v6,v7,ps,rfl,s2,hl⟩;refine k2 _ _ ?_;refine jk λN3 k3=>?_;have en:=hl.n;have up:=ev.up k;have rC:=ev.rC afE;have UW:=ev.rd k;have UX:=ev.start k hc;have UY:=λo=>JE.along (o:=o) ev (ev.all k);have J5:=(ev.yJ k).up;have wA:fX P' n1 n k=lu n1 0 0::rounds P' n k:=rfl;generalize rounds P' n k=rs at wA J5;generalize hqs:fX P' n1 n k=qs at *
   have q1:1<=qs.length:=by rw[← hqs];show 1<=(rounds P' n k).length+1;lia
   refine EB (qs.length - 1) (λi σ H'=>∃(v8:Option V),σ = [some (V.ref p),some (V.ref ru),some (V.ref t),some (V.int times),some (V.int most),some (V.ref L),v6,v7,v8,none,none]/\H' = H2) (λQ q=>?_) (by lia) ⟨none,rfl,rfl⟩ ?_ ?_
   ·walk_at "rdm";refine⟨_,.inl (aE.of hl.l),?_⟩;rw[List.length_map,en,show (qs.length:Int) - 1=((qs.length - 1:Nat):Int) by lia]
    exact q
   ·rintro i σ H3 N hN hi ⟨v8,rfl,rfl⟩;obtain⟨x1,m1,b1,d1,g1,y1⟩:=hl.at (List.getElem?_eq_getElem (show i<qs.length by lia))
    obtain⟨x2,m3,b2,d2,g2,y2⟩:=hl.at (List.getElem?_eq_getElem (show i+1<qs.length by lia))
    have u:=up i _ _ (List.getElem?_eq_getElem (show i<qs.length by lia)) (List.getElem?_eq_getElem (show i+1<qs.length by lia))
    have o1:=y1.o;have o2:=y2.o;unfold fh at o1 o2;walk_at "rdt";exact⟨_,aE.of hl.l,_,fG g1,x1,rfl,_,_,_,o1,T.jL,T.n8,V.int qs[i].at_,by simp[List.lookup_cons,fc],_,aE.of hl.l,_,fG g2,x2,rfl,_,_,_,o2,T.jL,T.n8,V.int qs[i+1].at_,by simp[List.lookup_cons,fc],_,rfl,_,rfl,ite_no (by lia) (hN _ _ ⟨_,rfl,rfl⟩)⟩
   rintro σ H3 ⟨v8,rfl,rfl⟩;refine k3 _ _ ?_;refine jk λN4 k4=>?_;walk_at "rdt";have J6:=lN.same s2;have rT:=tb.same s2;refine⟨A.bx,p,L,ru,dx,B,P',fp,ps,qs,o,st,_,rfl,by simp,hP.same s2,ev.ok,ev.nM,hl,rC,UW,J6,rT,UX,UY o,λx eu w1 ta w3 w4 w5 r b cA tk uH B' H4 kx UZ j rA hx dU=>?_⟩
   obtain⟨b0,bs,et,lb,bf⟩:=j.ends q1;rw[et] at dU;refine⟨x,rfl,_,_,_,hx,T.SQ,T.BX,_,rfl,k4 _ _ ?_⟩;have kD:=J6.rC rT kx hl;have q4:=λ{H5:Hp} (s5:ah H4 H5)=>q H5 (λb o e n1 n2=>s5 _ _ (kx _ _ (s2 _ _ e) n1 n2)) (UZ.same s5);clear kx UZ rA hx j J6 rT UX UY UW rC hl s2 et;refine jk λN5 k5=>?_;walk_at "rdt";refine⟨b0::bs,aE.of dU,by simp,λM hM tG=>⟨_,aE.of dU,_,fG (j:=0) (v:=.int b0) rfl,rfl,ite_no (λz=>z ?_) (k5 _ _ ?_)⟩⟩
   ·rcases List.mem_cons.mp hM with rfl | hM
    ·rfl
    ·obtain⟨i,hi,e⟩:=List.getElem_of_mem hM;have:=(bf i M (by rw[List.getElem?_eq_getElem hi,e])).1
     have:=tG b0 (List.mem_cons_self ..);lia
   walk_at "rdt";refine rl ta ((b0::bs).map V.int) (λi σ H'=>∃(v10:Option V),σ = [some (V.ref p),some (V.ref ru),some (V.ref t),some (V.int times),some (V.int most),some (V.ref L),v6,v7,v8,some (V.ref ta),v10]/\ah H4 H') (λQ q=>⟨_,rfl,q⟩) (aE.of dU) ⟨none,rfl,ah.refl _⟩ (by rintro i σ H' _ ⟨_,rfl,s'⟩;exact aE.of (s' _ _ dU)) ?_ ?_
   ·rintro i y σ H5 N hN hy ⟨v10,rfl,s5⟩;obtain⟨c,wL,rfl⟩:=ff hy;have r_:=kD.same s5;have afF:=s5 _ _ dU;walk_at "rdt";refine EF (qs.length:Int) (λD j ys aq H6=>∃(u:Option V),ys=((List.range j).filter (lB qs (b0::bs) c)).map (λ(k:Nat)=>V.int (k:Int))/\aq = [u,some (V.int c),some (V.ref ta),some (V.ref L)]/\H6 D=some (.lst ys)/\ah H5 H6/\H5 D=none) (λQ q=>?_) (by lia) (by lia) ?_ ?_ ?_ ?_
    ·walk_at "rdm";refine⟨_,.inl (aE.of r_.l),?_⟩;rw[List.length_map,en];exact q
    ·intro D hD;exact⟨none,rfl,rfl,aI,ah.put hD,hD⟩
    ·rintro D j ys aq H6 ⟨u,rfl,rfl,e1,e2,e3⟩;have w2:=PB (q0:=lu n1 0 0) (c:=c) J5 (by rw[← wA];exact bf) j
     rw[← wA] at w2;exact⟨e1,g9 (by rw[List.length_map,← List.countP_eq_length_filter];lia)⟩
    ·rintro D j ys aq H6 N' p_ hj ⟨u,rfl,rfl,e1,e2,e3⟩;have hj:j<qs.length:=by lia
     obtain⟨x1,m1,b1,d1,g1,y1⟩:=(r_.same e2).at (List.getElem?_eq_getElem hj);have U0:j<(b0::bs).length:=by rw[List.length_cons];lia
     have o1:=y1.o;unfold fh at o1;have wi:=adA (c:=c) (List.getElem?_eq_getElem hj) (List.getElem?_eq_getElem U0);have ws:=adB (qs:=qs) (bs:=b0::bs) (c:=c) (i:=j);rw[wi] at ws;walk_at "rdt";refine⟨_,aE.of (r_.same e2).l,_,fG g1,x1,rfl,_,_,_,o1,T.jL,T.n8,V.int qs[j].at_,by simp[List.lookup_cons,fc],_,rfl,eo (λc1=>⟨_,aE.of (e2 _ _ afF),_,fG (v:=.int (b0::bs)[j]) (by rw[List.getElem?_map,List.getElem?_eq_getElem U0];rfl),_,rfl,eo (λc2=>?_) λc2=>?_⟩) λc1=>?_⟩
     ·rw[if_pos (decide_eq_true ⟨c1,c2⟩)] at ws;exact⟨e1,p_ _ _ _ ⟨_,by rw[ws,List.map_append];rfl,rfl,aI,ah.put2 e2 e3,e3⟩⟩
     ·rw[if_neg (λz=>c2 (of_decide_eq_true z).2),List.append_nil] at ws;exact p_ _ _ _ ⟨_,by rw[ws],rfl,e1,e2,e3⟩
     ·rw[if_neg (λz=>c1 (of_decide_eq_true z).1),List.append_nil] at ws;exact p_ _ _ _ ⟨_,by rw[ws],rfl,e1,e2,e3⟩
    ·rintro D ys aq H6 ⟨u,rfl,rfl,e1,e2,e3⟩;refine⟨D,rfl,_,.inl (aE.of e1),?_⟩;have w2:=PB (q0:=lu n1 0 0) (c:=c) J5 (by rw[← wA];exact bf) (qs.length:Int).toNat
     rw[← wA] at w2;rw[List.length_map,← List.countP_eq_length_filter];exact ite_no (by lia) (hN _ _ ⟨_,rfl,s5.trans e2⟩)
   ·rintro σ H5 ⟨v10,rfl,s5⟩;walk_at "rdt";exact q4 s5
theorem afG(T:Tx K mg A)(az:aj mg base A.aY A.aQ)(aA:aj mg base A.aZ A.aU)(aB:aj mg base A.a_ A.aV):aW P w K mg base bu 12 A.Br A.Bs ["_law_script"] (x_ K [(A.aY,A.aQ),(A.aZ,A.aU),(A.a_,A.aV)]):=by
 refine T.Sy.ok lD (λvs H Q E h=>?_) (λaR Ar outer s H vs Q E hr h=>?_)
 ·obtain⟨a,ns,rfl,_⟩:=h
  rfl
 ·obtain⟨a,ns,rfl,hS,lK,hT,q⟩:=h;have U1:=hT (A.aY,A.aQ) (by simp)
  have U3:=hT (A.aZ,A.aU) (by simp)
  have yl:=hT (A.a_,A.aV) (by simp)
  have T0:lC (⟨(A.aQ,cg dP,b_ "nearest_of"),(A.aU,cg eT,b_ "soonest_of"),(A.aV,cg eU,b_ "latest_of")⟩:iu) H:=⟨⟨#[],U1,trivial,.inl rfl⟩,⟨#[],U3,trivial,.inl rfl⟩,⟨#[],yl,trivial,.inl rfl⟩⟩;have pW:=hr.oV;refine⟨_,(aH (iY (bI (i:=1) lD.nd rfl (Or.inl rfl) (bR gF (br (afq T az aA aB) (hr.mono (by decide)) rfl T.So T.IF.kp T.Sm .nil aO (aa (pv 0) au)) aF (λ_ _=>rfl))))
   (aH (iY (bI (i:=2) lD.nd rfl (Or.inl rfl) (bq cG aF (bq lR (br (ow T az aA aB) (hr.mono (by decide)) rfl T.mF T.lE.kp T.mD .nil aO (aa (pv 0) (aa aF au))) aF))))
   (aH (iY (bI (i:=3) lD.nd rfl (Or.inl rfl) (eO (aa fD (aa fD (aa fD (aa fD (aa fD au))))))))
   (aH (iY (bI (i:=4) lD.nd rfl (Or.inl rfl) (eO (aa (E9 T.SX rfl T.SY) (aa (E9 T.S0 rfl T.S2) (aa (E9 T.S3 rfl T.S4) (aa (ME T.SD (TN T az aA aB) (hr.mono (by decide)) rfl T.SE T.HX (show Vals [.bl false] [.bool false] from(.cons rfl .nil)) aO) (aa (ME T.SG (TN T az aA aB) (hr.mono (by decide)) rfl T.SH T.HX (show Vals [.bl false] [.bool false] from(.cons rfl .nil)) aO) au))))))))
   (aH (dY PassesOwn.never rfl (mW rfl T.gv (aa aF au)) (bH (i:=5) lD.nd rfl (Or.inl rfl))
   (aH (iY (bI (i:=6) lD.nd rfl (Or.inl rfl) (bq lR (bq cG (br (gw T az aA aB) (hr.mono (by decide)) rfl T.gj T.fY.kp T.gi .nil aO (aa (br (ow T az aA aB) (hr.mono (by decide)) rfl T.mF T.lE.kp T.mD .nil aO (aa (pv 0) (aa aF au))) (aa aF (aa aF au)))) (bq i6 aF (pv 5))) aF)))
   (aH (iY (bI (i:=7) lD.nd rfl (Or.inl rfl) (br (aft T az aA aB) (hr.mono (by decide)) rfl T.Qy T.HV.kp T.Qx .nil aO (aa (pv 1) (aa (bR cS (pv 3) (pv 6) (λ_ _=>rfl)) (aa (pv 2) au))))))
   (aH (iY (bI (i:=8) lD.nd rfl (Or.inl rfl) (bq cG aF (br (gw T az aA aB) (hr.mono (by decide)) rfl T.gj T.fY.kp T.gi .nil aO (aa (br (ow T az aA aB) (hr.mono (by decide)) rfl T.mF T.lE.kp T.mD .nil aO (aa (pv 0) (aa aF au))) (aa (bq cG aF (pv 5)) (aa aF au)))))))
   (aH (iY (nH (cy (bM mZ (br (gw T az aA aB) (hr.mono (by decide)) rfl T.gj T.fY.kp T.gi .nil aO (aa (br (ow T az aA aB) (hr.mono (by decide)) rfl T.mF T.lE.kp T.mD .nil aO (aa (pv 0) (aa aF au))) (aa (bq cG aF (pv 5)) (aa aF au)))) aF (bK _)) (aK (iY (bI (i:=8) lD.nd rfl (Or.inl rfl) aF))) cE)))
   (aK (cy (PW.pt (gn (jw (jv (br (afb T az aA aB) (hr.mono (by decide)) rfl T.Sv T.IK.kp T.Su .nil aO (aa (pv 7) au)))) (gU (jw (qw (br (afD T az aA aB) (hr.mono (by decide)) rfl T.Sx T.IL.kp T.Sw .nil aO (aa (pv 1) (aa (bR cS (pv 4) (pv 6) (λ_ _=>rfl)) (aa (pv 7) (aa (pv 8) (aa (pv 2) au)))))) (λ_=>rfl)))))) (aK (bD iA)) cE)))))))
   (aK (bD iA))))))),?_⟩
  refine jk λN1 k1=>?_;wp_walk using T,jf,fH;refine⟨a,ns,rfl,hS,lK,λt p wt z aG sk sw fp H1 s1 ht hP wo=>⟨t,rfl,_,bE.of ht,_,rfl,k1 _ _ ?_⟩⟩;have J7:=s1.seq hS;have T1:=T0.same s1;clear T0 U1 U3 yl hT hS s1 ht;refine jk λN2 k2=>?_;wp_walk using T,jf,fH;refine⟨ns,J7,lK,k2 _ _ ?_⟩;have m0:=Int.emod_nonneg (iT ns 4) (show (39:Int)≠0 by decide)
  have m1:=Int.emod_lt_of_pos (iT ns 4) (show (0:Int)<39 by decide)
  obtain⟨most,em⟩:∃m,2+iT ns 4 % 39=m:=⟨_,rfl⟩;rw[em];have mo2:2<=most:=by lia
  clear em m0 m1;refine jk λN3 k3=>?_;wp_walk using T,jf,fH;intro W nW;refine k3 _ _ ?_;have sW:=ah.put (o:=.lst (iG.map V.str)) nW;have hW:upd H1 W (.lst (iG.map V.str)) W=some (.lst (iG.map V.str)):=aI;have eW:upd H1 W (.lst [V.str "nearest",V.str "soonest",V.str "latest",V.str "lift",V.str "sweep"])=upd H1 W (.lst (iG.map V.str)):=rfl;rw[eW];generalize upd H1 W (.lst (iG.map V.str))=H2 at sW hW ⊢;have U4:=sW.seq J7;have wj:=hP.same sW;have T2:=T1.same sW;clear J7 hP T1 sW eW nW;have U5:pG K A.bL:=⟨T.lF,T.BG,T.rN,T.BH⟩;have U6:pG K A.bQ:=⟨T.n_,T.BI,T.BJ,T.BK⟩;have made:∀ {H3 H4:Hp} {x1 d1 C:Addr},H3 x1=none->H3 d1=none->SameBut x1 (upd (upd H3 d1 (.own x1)) x1 (.ins C d1 [])) H4->ah H3 H4:=λqL Cq Cr b o e=>by
   have e1:=bX e qL;have e2:=bX e Cq;exact Cr b o (by rw[aD e1,aD e2];exact e) e1
  refine jk λN4 k4=>?_;wp_walk using T,jf,fH;intro x1 d1 qL Cq ne1;have sA:ah H2 (upd (upd H2 d1 (.own x1)) x1 (.ins A.cT d1 [])):=made qL Cq (λ_ _ e _=>e);have eA:=aI (H:=upd H2 d1 (.own x1)) (a:=x1) (o:=.ins A.cT d1 []);generalize upd (upd H2 d1 (.own x1)) x1 (.ins A.cT d1 [])=G1 at sA eA ⊢;intro x2 d2 J8 x9 ne2;have sB:ah G1 (upd (upd G1 d2 (.own x2)) x2 (.ins A.cU d2 [])):=made J8 x9 (λ_ _ e _=>e);have eB:=aI (H:=upd G1 d2 (.own x2)) (a:=x2) (o:=.ins A.cU d2 []);have U7:x1≠x2:=bX eA J8;generalize upd (upd G1 d2 (.own x2)) x2 (.ins A.cU d2 [])=G2 at sB eB ⊢;intro x3 d3 Cs U8 ne3;have sC:ah G2 (upd (upd G2 d3 (.own x3)) x3 (.ins A.cV d3 [])):=made Cs U8 (λ_ _ e _=>e);have eC:=aI (H:=upd G2 d3 (.own x3)) (a:=x3) (o:=.ins A.cV d3 []);have U9:x1≠x3:=bX (sB _ _ eA) Cs;have Fe:x2≠x3:=bX eB Cs;generalize upd (upd G2 d3 (.own x3)) x3 (.ins A.cV d3 [])=G3 at sC eC ⊢;intro x4 d4 wB U_ ne4;refine⟨A.bL,x4,d4,false,rfl,by simp,U5,aI,λB4 G4 nB4 Cr kD=>⟨rfl,?_⟩⟩
  have sD:=made wB U_ Cr;have Va:x1≠x4:=bX (sC _ _ (sB _ _ eA)) wB;have Vb:x2≠x4:=bX (sC _ _ eB) wB;have Vc:x3≠x4:=bX eC wB;clear Cr;intro x5 d5 se Vd ne5;refine⟨A.bQ,x5,d5,false,rfl,by simp,U6,aI,λB5 G5 nB5 Cd r_=>⟨rfl,?_⟩⟩
  have sE:=made se Vd Cd;have Ve:x1≠x5:=bX (sD _ _ (sC _ _ (sB _ _ eA))) se;have Vf:x2≠x5:=bX (sD _ _ (sC _ _ eB)) se;have Vg:x3≠x5:=bX (sD _ _ eC) se;have Vh:x4≠x5:=bX kD.o se;clear Cd;intro L nL;have sF:=ah.put (o:=.lst [V.ref x1,V.ref x2,V.ref x3,V.ref x4,V.ref x5]) nL;have hL:upd G5 L (.lst [V.ref x1,V.ref x2,V.ref x3,V.ref x4,V.ref x5]) L=some (.lst [V.ref x1,V.ref x2,V.ref x3,V.ref x4,V.ref x5]):=aI;generalize upd G5 L (.lst [V.ref x1,V.ref x2,V.ref x3,V.ref x4,V.ref x5])=H3 at sF hL ⊢;refine k4 _ _ ?_;obtain⟨rs,er,nd,Cj⟩:∃rs:List R5,[V.ref x1,V.ref x2,V.ref x3,V.ref x4,V.ref x5] = rs.map (λr=>V.ref r.ru)/\(rs.map (·.ru)).Nodup/\nQ K ⟨A.cT,A.cU,A.cV,A.bL,A.bQ⟩ H3 rs (λ_=>True):=by
   refine⟨[⟨.near,x1,d1,x1⟩,⟨.gP,x2,d2,x2⟩,⟨.gQ,x3,d3,x3⟩,⟨.li false,x4,d4,B4⟩,⟨.li true,x5,d5,B5⟩],rfl,by simp[U7,U9,Fe,Va,Vb,Vc,Ve,Vf,Vg,Vh],λj r e _=>?_⟩
   match j,e with
   | 0,e=>cases e;exact sF _ _ (sE _ _ (sD _ _ (sC _ _ (sB _ _ eA))))
   | 1,e=>cases e;exact sF _ _ (sE _ _ (sD _ _ (sC _ _ eB)))
   | 2,e=>cases e;exact sF _ _ (sE _ _ (sD _ _ eC))
   | 3,e=>cases e;exact⟨A.bL,.inl ⟨rfl,rfl⟩,U5,kD.same (sE.trans sF)⟩
   | 4,e=>cases e;exact⟨A.bQ,.inr ⟨rfl,rfl⟩,U6,r_.same sF⟩
   | j+5,e=>simp at e
  have rl5:rs.length=5:=by have:=congrArg List.length er;simpa using this.symm
  rw[er] at hL;have wC:=((((sA.trans sB).trans sC).trans sD).trans sE).trans sF;have Cg:=wC.seq U4;have wg:=wj.same wC;have T3:=T2.same wC;have hW3:=wC _ _ hW;clear made sA eA sB eB sC eC sD sE sF qL Cq ne1 J8 x9 ne2 Cs U8 ne3 wB U_ ne4 se Vd ne5 nB4 nB5 kD r_ nL U7 U9 Fe Va Vb Vc Ve Vf Vg Vh er U4 wj T2 hW wC;have d31:=iU (iT ns 5) 31 (m:=5) (by decide)
  obtain⟨k0,Vi⟩:∃k:Nat,cM (iT ns 5) 31 5=(k:Int):=⟨(cM (iT ns 5) 31 5).toNat,by lia⟩
  rw[Vi] at d31;refine EB 2 (λi σ H'=>∃(v5 v6 v7 v8:Option V),σ = [some (V.ref a),some (V.ref p),some (V.int most),some (V.ref W),some (V.ref L),v5,v6,v7,v8]/\aE K H' a (ns.map V.int)/\bY K A.bx H' p (ku z aG sk sw) fp/\lC (⟨(A.aQ,cg dP,b_ "nearest_of"),(A.aU,cg eT,b_ "soonest_of"),(A.aV,cg eU,b_ "latest_of")⟩:iu) H'/\H' W=some (.lst (iG.map V.str))/\H' L=some (.lst (rs.map (λr=>V.ref r.ru)))/\nQ K ⟨A.cT,A.cU,A.cV,A.bL,A.bQ⟩ H' rs (λj=>i=0\/i=1/\j≠k0)) (λQ q=>q) (by decide) ⟨_,_,_,_,rfl,Cg,wg,T3,hW3,hL,λj r e _=>Cj j r e trivial⟩ ?_ ?_
  ·rintro i σ H4 N hN hi ⟨v5,v6,v7,v8,rfl,J9,p7,T4,Vj,Vk,hr4⟩;dsimp only[mV,List.set];refine jk λM1 l1=>?_;wp_walk using T,jf,fH;refine⟨ns,J9,lK,l1 _ _ ?_⟩;rw[Vi];obtain⟨k,ek,k5,kk⟩:∃k:Nat,((k0:Int)+2*(i:Int)) % 5=(k:Int)/\k<5/\(i=0/\k=k0\/i=1/\k≠k0):=⟨(((k0:Int)+2*(i:Int)) % 5).toNat,by lia,by lia,by lia⟩
   rw[ek];obtain⟨w',ew,we,wb⟩:=adC (k:=(k:Int)) (by lia) (by lia)
   obtain⟨m0,_,st0⟩:=O9 (i:=0) (j:=c0 (ku z aG sk sw)) (c:=16) (by lia) (by
    have:=wo.zl.ok;have cl:=nA z λp hp=>(wo.zl.ok.r p hp).1;have c2:=wo.zl.ok.s2;obtain⟨y,hy,e⟩:=o_ (get_mem (xP (counts z) (show 0<(counts z).length by lia)))
    have:=wo.zl.ok.r y hy
    show (counts z).getD 0 0<=_;lia) (by decide) (by
    have cl:=nA z λp hp=>(wo.zl.ok.r p hp).1;have c2:=wo.zl.ok.s2;obtain⟨y,hy,e⟩:=o_ (get_mem (xP (counts z) (show 0<(counts z).length by lia)))
    have:=wo.zl.ok.r y hy
    show 0<=(counts z).getD 0 0;lia)
   obtain⟨n1,sf⟩:=wo.ev st0;have b0:=sf.b1;refine jk λM2 l2=>?_;wp_walk using T,jf,fH;refine⟨_,aE.of Vj,_,ew,A.bx,p,_,fp,n1,most,w',rfl,by simp,p7,sf.nx,sf.ca,sf.cb,by lia,sf.btl,we,wb,λt' Vl p1 Vm p2 m H5 s5 Vn jT jo oA=>l2 _ _ ?_⟩
   obtain⟨n1',ev⟩:=wo.ev jT;have en:=sf.nx.one ev.nx;subst en;have Vo:=s5.seq J9;have d6:=iU (iT ns 6) (32+(i:Int)) (m:=8) (by decide)
   refine jk λM3 l3=>?_;wp_walk using T,jf,fH;refine⟨ns,Vo,lK,by lia,by lia,l3 _ _ ?_⟩
   refine jk λM4 l4=>?_;wp_walk using T,jf,fH;refine⟨λσ H'=>∃times:Int,σ = [some (V.ref a),some (V.ref p),some (V.int most),some (V.ref W),some (V.ref L),some (V.int (i:Int)),some (V.int (k:Int)),some (V.ref t'),some (V.int times)]/\H' = H5/\1<=times/\times<=100,⟨ns,Vo,lK,by lia,by lia,eo (λ_ N' p_=>p_ _ _ ⟨100,rfl,rfl,by decide,by decide⟩) λ_=>⟨_,rfl,rfl,by lia,by lia⟩⟩,?_⟩
   rintro σ H' ⟨times,rfl,rfl,tm1,tm2⟩;refine l4 _ _ ?_;wp_walk using T,jf,fH;have Vp:(fL (ku z aG sk sw) m).length=m:=by unfold fL;rw[List.length_map,List.length_range]
   have mb:1<=m/\m<=60:=by
    have ge:=jT.ge;have ca:=ev.ca;have cb:=ev.cb;refine⟨?_,?_⟩
    ·by_cases z0:m=0
     ·subst z0;simp at ge;lia
     ·lia
    ·by_cases z1:m<=60
     ·exact z1
     ·have:=jT.lt 60 (by lia)
      lia
   obtain⟨r,er⟩:∃r,rs[k]? = some r:=⟨rs[k],List.getElem?_eq_getElem (by lia)⟩
   refine⟨t',Vl,Vm,p1,p2,_,_,aG,rfl,Vn,wo.l1,jo,oA,by simp,by simp,by rw[Vp];lia,by rw[Vp];lia,λq hq=>by rw[List.mem_singleton.mp hq];exact⟨rfl,rfl⟩,adD,λH6 s6=>⟨true,rfl,ite_no (by simp) ?_⟩⟩
   have oE:=s5.trans s6;have Vq:=hr4.same oE;have T6:=T4.same oE;have u6:=Vq k r er (kk.imp And.left id);refine⟨_,aE.of (oE _ _ Vk),_,fG (v:=.ref r.ru) (by rw[List.getElem?_map,er];rfl),p,r.ru,t',r.dx,r.B,Vl,Vm,times,most,n1,m,_,fp,p1,p2,r.o,_,rfl,p7.same oE,ev,s6 _ _ Vn,jo.same s6,oA.same s6,tm1,tm2,mo2,u6,rfl,T6.of r.o,λH7 kp jr=>⟨true,rfl,ite_no (by simp) (hN _ _ ⟨_,_,_,_,rfl,?_⟩)⟩⟩
   have t0:=T6.of r.o;have jO:=Vq.step nd er (kk.imp And.left id) t0 kp;refine⟨u6.seq t0 kp (oE.seq J9),u6.Fw t0 kp (p7.same oE),T6.step T.B7 T.B8 T.B9 u6 kp jr,u6.lst t0 kp (oE _ _ Vj),u6.lst t0 kp (oE _ _ Vk),λj r2 e2 hj=>jO j r2 e2 ⟨?_,?_⟩⟩
   ·lia
   ·lia
  ·rintro σ H4 ⟨v5,v6,v7,v8,rfl,_⟩;walk_at "rdm";exact q _
end
theorem qa{C:List Value->Prop}(h:C []):∀us:List Value,us.length=0->C us:=λ| [],_=>h
theorem dz{n:Nat}{C:List Value->Prop}(h:∀a us,us.length=n->C (a::us)):∀us:List Value,us.length=n+1->C us:=λ| a::us,e=>h a us (Nat.succ.inj e)
theorem Ct{K:W.Frag}{fd:FuncData}{ps:List Str}{ds:List Value}(n:Nat)(e:n+ds.length=ps.length)(h:∀s,K.In s.heap->∀us:List Value,us.length=n->BindsTo s fd ⟨us,[]⟩ (ps.zip (us++ds))):Binds K fd ps ds:=λs us X hl=>h s X us (by rw[List.length_append] at hl;lia)
theorem eL{C:List Value->Prop}(h:∀a0,C [a0]):∀us:List Value,us.length=1->C us:=dz λa0=>qa (h a0)
theorem gk{C:List Value->Prop}(h:∀a0 a1,C [a0,a1]):∀us:List Value,us.length=2->C us:=dz λa0=>dz λa1=>qa (h a0 a1)
theorem iK{C:List Value->Prop}(h:∀a0 a1 a2,C [a0,a1,a2]):∀us:List Value,us.length=3->C us:=dz λa0=>dz λa1=>dz λa2=>qa (h a0 a1 a2)
theorem qb{C:List Value->Prop}(h:∀a0 a1 a2 a3,C [a0,a1,a2,a3]):∀us:List Value,us.length=4->C us:=dz λa0=>dz λa1=>dz λa2=>dz λa3=>qa (h a0 a1 a2 a3)
theorem qc{C:List Value->Prop}(h:∀a0 a1 a2 a3 a4,C [a0,a1,a2,a3,a4]):∀us:List Value,us.length=5->C us:=dz λa0=>dz λa1=>dz λa2=>dz λa3=>dz λa4=>qa (h a0 a1 a2 a3 a4)
theorem Vr{C:List Value->Prop}(h:∀a0 a1 a2 a3 a4 a5,C [a0,a1,a2,a3,a4,a5]):∀us:List Value,us.length=6->C us:=dz λa0=>dz λa1=>dz λa2=>dz λa3=>dz λa4=>dz λa5=>qa (h a0 a1 a2 a3 a4 a5)
theorem afH{C:List Value->Prop}(h:∀a0 a1 a2 a3 a4 a5 a6 a7 a8 a9,C [a0,a1,a2,a3,a4,a5,a6,a7,a8,a9]):∀us:List Value,us.length=10->C us:=dz λa0=>dz λa1=>dz λa2=>dz λa3=>dz λa4=>dz λa5=>dz λa6=>dz λa7=>dz λa8=>dz λa9=>qa (h a0 a1 a2 a3 a4 a5 a6 a7 a8 a9)
theorem all_mk{l:W.OpenLaw}{w:World}{K:W.Frag}{h:Heap}{mg:Str->Option Value}{fa:Addr}{Cu J_ Ka Kc Kd Cv wD Ke Kf Kg Kh Kl Cw Km Cy Cz qd CB CF CG Kn Ko Kp Kq Kr sr CH wF wG wH CI CJ Ks Ku Kv Kw Ky Kz KA CK CM CN CO CQ CT CU CV CW CY KC KD CZ KG KH KI KJ C1 C2 C3 C4 C5 C6 KL KN KO KP C7 C8 KQ KR KS KU KW KY KZ K0 K1 K2:Addr}{afI C9 afJ afK Vs afL Vt afM Vu afN K3 afO afP K4 afQ afR K5:Option Addr}{afS afT afU afV afW afX afY afZ af0 af1:Array (Option Value)}{af2 C_ Dc De wI Df af3 af4 Vv Vw Vx Dg Vy af5 Vz VA VB Dh VC af6 VD VE VF Di VG af7 K6 K7 K8 Dj K9 af8 af9 K_ La Lb Dk Lc af_ aga Ld Le Lf Dl Lg:Value}{agb agc agd:Nat}{Lh Li Lj:Tok}{VH qX qY VI VJ VL VM VN VO VP VQ VR VS VT VU VV VW VX VY VZ V0 V1 V2 V3 V4 V5 V6 V7 V8 V9 V_ Wa Wb Wc Wd We Wf Wg Wh Wi Wj Wk Wl Wm Wn Wo Wq Wr Ws Wt Wu Wv Ww Wx Wy Wz WA WB WC WD WE WG WH WI WJ WK WL WM:FuncData}{aX:Addr}{bL:Addr}{bQ:Addr}{bx:Addr}{bG:Addr}{bJ:Addr}{dQ:Addr}{gR:Addr}{cT:Addr}{cU:Addr}{cV:Addr}{vm:Tok}{vn:Tok}{vo:Tok}{vp:Tok}{vq:Tok}{vt:Tok}{vv:Tok}{vA:Tok}{vB:Tok}{vC:Tok}{vD:Tok}{vE:Tok}{vF:Tok}{aY aQ:Addr}{age:Option Addr}{WN:Array Value}{agf:Array (Option Value)}{aZ aU:Addr}{agg:Option Addr}{WO:Array Value}{agh:Array (Option Value)}{a_ aV:Addr}{agi:Option Addr}{WQ:Array Value}{agj:Array (Option Value)}{nX:Addr}{agk:Option Addr}{agl:Nat}{agm:Array (Option Value)}{agn ago agp:Tok}{nY:Addr}{agq:Option Addr}{agr:Nat}{ags:Array (Option Value)}{agt agu agv agw agx:Tok}(X:K.In h)(G:h.Ns mainGlobals mg)(hfa:mg "law" = some (.ref fa))
  (agy:W.nsIn K mainGlobals "BOUND_WORDS" = some (some (.ref nX)))
  (agz:K.lookup nX=some ⟨.type "tuple",agk,.seq #[.str "first" agn,.str "calm lift" ago,.str "calm sweep" agp] agl,agm⟩)
  (agA:W.nsIn K mainGlobals "EVER_WORDS" = some (some (.ref nY)))
  (agB:K.lookup nY=some ⟨.type "tuple",agq,.seq #[.str "nearest" agt,.str "soonest" agu,.str "latest" agv,.str "lift" agw,.str "sweep" agx] agr,ags⟩)
  (agC:W.nsIn K mainGlobals "Ask" = some (some (.ref aX)))
  (agD:W.nsIn K mainGlobals "Lift" = some (some (.ref bL)))
  (agE:W.nsIn K mainGlobals "Sweep" = some (some (.ref bQ)))
  (agF:W.nsIn K mainGlobals "Plate" = some (some (.ref bx)))
  (agG:W.nsIn K mainGlobals "Due" = some (some (.ref bG)))
  (agH:W.nsIn K mainGlobals "Course" = some (some (.ref bJ)))
  (agI:W.nsIn K mainGlobals "Played" = some (some (.ref dQ)))
  (agJ:W.nsIn K mainGlobals "Rule" = some (some (.ref gR)))
  (agK:W.nsIn K mainGlobals "Nearest" = some (some (.ref cT)))
  (agL:W.nsIn K mainGlobals "Soonest" = some (some (.ref cU)))
  (agM:W.nsIn K mainGlobals "Latest" = some (some (.ref cV)))
  (ax0:W.findIn K (.ref aX) "__init__" = some (some (.ref Cu)))
  (ix0:W.isFn K (.ref Cu)=true)
  (F0:aJ K "__init__" "Ask.__init__" FN Cu VH)
  (ax1:W.nsIn K mainGlobals "check_between" = some (some (.ref J_)))
  (F1:aJ K "check_between" "check_between" FO J_ qX)
  (ax2:W.nsIn K mainGlobals "check_behind" = some (some (.ref Ka)))
  (F2:aJ K "check_behind" "check_behind" FP Ka qY)
  (ax3:W.nsIn K mainGlobals "check_fields" = some (some (.ref Kc)))
  (F3:aJ K "check_fields" "check_fields" FQ Kc VI)
  (ax4:W.nsIn K mainGlobals "told_behind" = some (some (.ref Kd)))
  (F4:aJ K "told_behind" "told_behind" FT Kd VJ)
  (ax5:W.nsIn K mainGlobals "reading" = some (some (.ref Cv)))
  (lx5:K.lookup Cv=some ⟨af2,afI,.func (W.fnOf "reading" "reading" (d_ iI) (dD iI) (aP iI) (.ref wD) C_ Dc De C9 wI Df),afS⟩)
  (Lk:K.lookup wD=some ⟨af3,afJ,.seq #[.int 0 Lh,.none,.none] agb,afT⟩)
  (cx5:W.codeIn K wI "reading" = true)
  (kx5:W.keepIn K (.ref Cv)=true)
  (ax6:W.nsIn K mainGlobals "clash" = some (some (.ref Ke)))
  (F6:aJ K "clash" "clash" FU Ke VL)
  (ax7:W.nsIn K mainGlobals "next_begin" = some (some (.ref Kf)))
  (F7:aJ K "next_begin" "next_begin" FW Kf VM)
  (ax8:W.nsIn K mainGlobals "way" = some (some (.ref Kg)))
  (F8:aJ K "way" "way" FY Kg VN)
  (ax9:W.nsIn K mainGlobals "ring_of" = some (some (.ref Kh)))
  (F9:aJ K "ring_of" "ring_of" FZ Kh VO)
  (agN:W.nsIn K mainGlobals "first_of" = some (some (.ref Kl)))
  (WR:aJ K "first_of" "first_of" F_ Kl VP)
  (agO:W.nsIn K mainGlobals "nearest_of" = some (some (.ref Cw)))
  (agP:K.lookup Cw=some ⟨af4,afK,.func (W.fnOf "nearest_of" "nearest_of" (d_ dP) (dD dP) (aP dP) .none Vv Vw Vx Vs Dg Vy),afU⟩)
  (agQ:W.codeIn K Dg "nearest_of" = true)
  (agR:W.keepIn K (.ref Cw)=true)
  (agS:W.nsIn K mainGlobals "first_begin" = some (some (.ref Km)))
  (WS:aJ K "first_begin" "first_begin" Ga Km VQ)
  (agT:W.nsIn K mainGlobals "soonest_of" = some (some (.ref Cy)))
  (agU:K.lookup Cy=some ⟨af5,afL,.func (W.fnOf "soonest_of" "soonest_of" (d_ eT) (dD eT) (aP eT) .none Vz VA VB Vt Dh VC),afV⟩)
  (agV:W.codeIn K Dh "soonest_of" = true)
  (agW:W.keepIn K (.ref Cy)=true)
  (agX:W.nsIn K mainGlobals "latest_of" = some (some (.ref Cz)))
  (agY:K.lookup Cz=some ⟨af6,afM,.func (W.fnOf "latest_of" "latest_of" (d_ eU) (dD eU) (aP eU) .none VD VE VF Vu Di VG),afW⟩)
  (agZ:W.codeIn K Di "latest_of" = true)
  (ag0:W.keepIn K (.ref Cz)=true)
  (ag1:W.findIn K (.ref gR) "anew" = some (some (.ref qd)))
  (Dm:W.isFn K (.ref qd)=true)
  (ag2:W.findIn K (.ref cT) "anew" = some (some (.ref qd)))
  (ag3:W.findIn K (.ref cU) "anew" = some (some (.ref qd)))
  (ag4:W.findIn K (.ref cV) "anew" = some (some (.ref qd)))
  (su:aJ K "anew" "Rule.anew" Gb qd VR)
  (ag5:W.findIn K (.ref cT) "pick" = some (some (.ref CB)))
  (ag6:W.isFn K (.ref CB)=true)
  (Ll:aJ K "pick" "Nearest.pick" Gd CB VS)
  (ag7:W.findIn K (.ref cU) "pick" = some (some (.ref CF)))
  (ag8:W.isFn K (.ref CF)=true)
  (Lm:aJ K "pick" "Soonest.pick" Ge CF VT)
  (ag9:W.findIn K (.ref cV) "pick" = some (some (.ref CG)))
  (ag_:W.isFn K (.ref CG)=true)
  (Ln:aJ K "pick" "Latest.pick" Gf CG VU)
  (aha:W.nsIn K mainGlobals "read_of_next_ring" = some (some (.ref Kn)))
  (WT:aJ K "read_of_next_ring" "read_of_next_ring" Gg Kn VV)
  (ahb:W.nsIn K mainGlobals "round_of_ring_0" = some (some (.ref Ko)))
  (WU:aJ K "round_of_ring_0" "round_of_ring_0" Gh Ko VW)
  (ahc:W.nsIn K mainGlobals "settled" = some (some (.ref Kp)))
  (WV:aJ K "settled" "settled" Gi Kp VX)
  (ahd:W.nsIn K mainGlobals "that_way" = some (some (.ref Kq)))
  (WW:aJ K "that_way" "that_way" Gj Kq VY)
  (ahe:W.nsIn K mainGlobals "batch_of" = some (some (.ref Kr)))
  (WX:aJ K "batch_of" "batch_of" Gk Kr VZ)
  (ahf:W.findIn K (.ref bL) "__init__" = some (some (.ref sr)))
  (WY:W.isFn K (.ref sr)=true)
  (ahg:W.findIn K (.ref bQ) "__init__" = some (some (.ref sr)))
  (ahh:K.lookup sr=some ⟨af7,afN,.func (W.fnOf "__init__" "Lift.__init__" (d_ jI) (dD jI) (aP jI) (.ref CH) K6 K7 K8 K3 Dj K9),afX⟩)
  (ahi:K.lookup CH=some ⟨af8,afO,.seq #[.bool false] agc,afY⟩)
  (ahj:W.codeIn K Dj "Lift.__init__" = true)
  (ahk:W.keepIn K (.ref sr)=true)
  (ahl:W.findIn K (.ref bL) "anew" = some (some (.ref wF)))
  (WZ:W.isFn K (.ref wF)=true)
  (ahm:W.findIn K (.ref bQ) "anew" = some (some (.ref wF)))
  (Dn:aJ K "anew" "Lift.anew" Gm wF V0)
  (ahn:W.findIn K (.ref bL) "pick" = some (some (.ref wG)))
  (W0:W.isFn K (.ref wG)=true)
  (aho:W.findIn K (.ref bQ) "pick" = some (some (.ref wG)))
  (Dp:aJ K "pick" "Lift.pick" Gn wG V1)
  (ahp:W.findIn K (.ref bL) "looked_at" = some (some (.ref wH)))
  (W2:W.isFn K (.ref wH)=true)
  (ahq:W.findIn K (.ref bQ) "looked_at" = some (some (.ref wH)))
  (Dq:aJ K "looked_at" "Lift.looked_at" Gp wH V2)
  (ahr:W.findIn K (.ref bL) "choose" = some (some (.ref CI)))
  (ahs:W.isFn K (.ref CI)=true)
  (Lo:aJ K "choose" "Lift.choose" Gq CI V3)
  (aht:W.findIn K (.ref bQ) "choose" = some (some (.ref CJ)))
  (ahu:W.isFn K (.ref CJ)=true)
  (Lq:aJ K "choose" "Sweep.choose" Gr CJ V4)
  (ahv:W.nsIn K mainGlobals "check_zones" = some (some (.ref Ks)))
  (W3:aJ K "check_zones" "check_zones" Gs Ks V5)
  (ahw:W.nsIn K mainGlobals "check_turning" = some (some (.ref Ku)))
  (W4:aJ K "check_turning" "check_turning" Gu Ku V6)
  (ahx:W.nsIn K mainGlobals "check_swing" = some (some (.ref Kv)))
  (W5:aJ K "check_swing" "check_swing" Gv Kv V7)
  (ahy:W.nsIn K mainGlobals "check_no_detour" = some (some (.ref Kw)))
  (W6:aJ K "check_no_detour" "check_no_detour" Gw Kw V8)
  (ahz:W.nsIn K mainGlobals "cells_by_ring" = some (some (.ref Ky)))
  (W7:aJ K "cells_by_ring" "cells_by_ring" Gx Ky V9)
  (ahA:W.nsIn K mainGlobals "cells_by_number" = some (some (.ref Kz)))
  (W8:aJ K "cells_by_number" "cells_by_number" Gy Kz V_)
  (ahB:W.nsIn K mainGlobals "numbers_by_cell" = some (some (.ref KA)))
  (W9:aJ K "numbers_by_cell" "numbers_by_cell" Gz KA Wa)
  (ahC:W.findIn K (.ref bx) "__init__" = some (some (.ref CK)))
  (ahD:W.isFn K (.ref CK)=true)
  (W_:aJ K "__init__" "Plate.__init__" GA CK Wb)
  (ahE:W.findIn K (.ref bx) "rings" = some (some (.ref CM)))
  (ahF:W.isFn K (.ref CM)=true)
  (Lr:aJ K "rings" "Plate.rings" GB CM Wc)
  (ahG:W.findIn K (.ref bx) "cells_of" = some (some (.ref CN)))
  (ahH:W.isFn K (.ref CN)=true)
  (Ls:aJ K "cells_of" "Plate.cells_of" GC CN Wd)
  (ahI:W.findIn K (.ref bx) "beats_of" = some (some (.ref CO)))
  (ahJ:W.isFn K (.ref CO)=true)
  (Lu:aJ K "beats_of" "Plate.beats_of" GD CO We)
  (ahK:W.findIn K (.ref bx) "lap_beats" = some (some (.ref CQ)))
  (ahL:W.isFn K (.ref CQ)=true)
  (Lv:aJ K "lap_beats" "Plate.lap_beats" GF CQ Wf)
  (ahM:W.findIn K (.ref bx) "begins" = some (some (.ref CT)))
  (ahN:W.isFn K (.ref CT)=true)
  (Lw:aJ K "begins" "Plate.begins" GG CT Wg)
  (ahO:W.findIn K (.ref bx) "swing_of" = some (some (.ref CU)))
  (ahP:W.isFn K (.ref CU)=true)
  (Lx:aJ K "swing_of" "Plate.swing_of" GH CU Wh)
  (ahQ:W.findIn K (.ref bx) "has_cell" = some (some (.ref CV)))
  (ahR:W.isFn K (.ref CV)=true)
  (Ly:aJ K "has_cell" "Plate.has_cell" GI CV Wi)
  (ahS:W.findIn K (.ref bx) "cell_at" = some (some (.ref CW)))
  (ahT:W.isFn K (.ref CW)=true)
  (Lz:aJ K "cell_at" "Plate.cell_at" GJ CW Wj)
  (ahU:W.findIn K (.ref bx) "number_of" = some (some (.ref CY)))
  (ahV:W.isFn K (.ref CY)=true)
  (LA:aJ K "number_of" "Plate.number_of" GK CY Wk)
  (ahW:W.nsIn K mainGlobals "stretch" = some (some (.ref KC)))
  (Xa:aJ K "stretch" "stretch" GL KC Wl)
  (ahX:W.nsIn K mainGlobals "stretch_by_number" = some (some (.ref KD)))
  (Xb:aJ K "stretch_by_number" "stretch_by_number" GN KD Wm)
  (ahY:W.findIn K (.ref bG) "__init__" = some (some (.ref CZ)))
  (ahZ:W.isFn K (.ref CZ)=true)
  (Xc:aJ K "__init__" "Due.__init__" GO CZ Wn)
  (ah0:W.nsIn K mainGlobals "check_beat" = some (some (.ref KG)))
  (Xd:aJ K "check_beat" "check_beat" GP KG Wo)
  (ah1:W.nsIn K mainGlobals "check_told" = some (some (.ref KH)))
  (Xe:aJ K "check_told" "check_told" GQ KH Wq)
  (ah2:W.nsIn K mainGlobals "kept_behind" = some (some (.ref KI)))
  (Xf:aJ K "kept_behind" "kept_behind" GR KI Wr)
  (ah3:W.nsIn K mainGlobals "orders" = some (some (.ref KJ)))
  (Xg:aJ K "orders" "orders" GS KJ Ws)
  (ah4:W.findIn K (.ref bJ) "__init__" = some (some (.ref C1)))
  (ah5:W.isFn K (.ref C1)=true)
  (Xh:aJ K "__init__" "Course.__init__" GU C1 Wt)
  (ah6:W.findIn K (.ref bJ) "stay" = some (some (.ref C2)))
  (ah7:W.isFn K (.ref C2)=true)
  (LB:aJ K "stay" "Course.stay" GV C2 Wu)
  (ah8:W.findIn K (.ref bJ) "has_to_wait" = some (some (.ref C3)))
  (ah9:W.isFn K (.ref C3)=true)
  (LC:aJ K "has_to_wait" "Course.has_to_wait" GW C3 Wv)
  (ah_:W.findIn K (.ref bJ) "ready" = some (some (.ref C4)))
  (aia:W.isFn K (.ref C4)=true)
  (LD:aJ K "ready" "Course.ready" GX C4 Ww)
  (aib:W.findIn K (.ref bJ) "take" = some (some (.ref C5)))
  (aic:W.isFn K (.ref C5)=true)
  (LF:aJ K "take" "Course.take" GY C5 Wx)
  (aid:W.findIn K (.ref dQ) "__init__" = some (some (.ref C6)))
  (aie:W.isFn K (.ref C6)=true)
  (Xi:aJ K "__init__" "Played.__init__" GZ C6 Wy)
  (aif:W.nsIn K mainGlobals "last_ends" = some (some (.ref KL)))
  (Xj:aJ K "last_ends" "last_ends" G0 KL Wz)
  (aih:W.nsIn K mainGlobals "numbers_of" = some (some (.ref KN)))
  (Xk:aJ K "numbers_of" "numbers_of" G6 KN WA)
  (aii:W.nsIn K mainGlobals "answers_of" = some (some (.ref KO)))
  (Xl:aJ K "answers_of" "answers_of" G7 KO WB)
  (aij:W.nsIn K mainGlobals "told_of" = some (some (.ref KP)))
  (Xm:aJ K "told_of" "told_of" G8 KP WC)
  (aik:W.nsIn K mainGlobals "play" = some (some (.ref C7)))
  (ail:K.lookup C7=some ⟨af9,afP,.func (W.fnOf "play" "play" (d_ jJ) (dD jJ) (aP jJ) (.ref C8) K_ La Lb K4 Dk Lc),afZ⟩)
  (aim:K.lookup C8=some ⟨af_,afQ,.seq #[.int 0 Li,.int 0 Lj] agd,af0⟩)
  (ain:W.codeIn K Dk "play" = true)
  (aio:W.keepIn K (.ref C7)=true)
  (aip:W.nsIn K mainGlobals "_law_cell" = some (some (.ref KQ)))
  (Xn:aJ K "_law_cell" "_law_cell" G9 KQ WD)
  (aiq:W.nsIn K mainGlobals "_law_draw" = some (some (.ref KR)))
  (Xo:aJ K "_law_draw" "_law_draw" G_ KR WE)
  (air:W.nsIn K mainGlobals "_law_swing" = some (some (.ref KS)))
  (Xp:aJ K "_law_swing" "_law_swing" Hf KS WG)
  (ais:W.nsIn K mainGlobals "_law_zones" = some (some (.ref KU)))
  (Xq:aJ K "_law_zones" "_law_zones" Hg KU WH)
  (ait:W.nsIn K mainGlobals "_law_made_plate" = some (some (.ref KW)))
  (Xr:aJ K "_law_made_plate" "_law_made_plate" Hh KW WI)
  (aiu:W.nsIn K mainGlobals "_law_again" = some (some (.ref KY)))
  (Xs:aJ K "_law_again" "_law_again" Hi KY WJ)
  (aiv:W.nsIn K mainGlobals "_law_reads" = some (some (.ref KZ)))
  (Xu:aJ K "_law_reads" "_law_reads" Hj KZ WK)
  (aiw:W.nsIn K mainGlobals "_law_right" = some (some (.ref K0)))
  (Xv:aJ K "_law_right" "_law_right" Hl K0 WL)
  (aix:W.nsIn K mainGlobals "_law_kept" = some (some (.ref K1)))
  (Xw:aJ K "_law_kept" "_law_kept" Ho K1 WM)
  (Xx:W.nsIn K mainGlobals "law" = some (some (.ref K2)))
  (aiy:K.lookup K2=some ⟨aga,afR,.func (W.fnOf "law" "law" (d_ jK) (dD jK) (aP jK) .none Ld Le Lf K5 Dl Lg),af1⟩)
  (aiz:W.codeIn K Dl "law" = true)
  (aiA:W.keepIn K (.ref K2)=true)
  (aiB:W.plainGet K aX Str.empty=true)
  (aiC:W.hasDictIn K aX=true)
  (aiD:W.plainOver K aX=true)
  (aiE:W.findIn K (.ref aX) "__setattr__" = some (some (.builtin "object.__setattr__")))
  (aiF:W.makesIn K aX=true)
  (aiG:W.keepIn K (.ref aX)=true)
  (vL:W.findIn K (.ref aX) "kind" = some none)
  (IM:W.findIn K (.ref aX) "first" = some none)
  (IP:W.findIn K (.ref aX) "many" = some none)
  (IQ:W.findIn K (.ref aX) "marks" = some none)
  (n8:W.findIn K (.ref aX) "at" = some none)
  (IS:W.findIn K (.ref aX) "asker" = some none)
  (vM:W.findIn K (.ref aX) "latest" = some none)
  (vN:W.findIn K (.ref aX) "behind" = some none)
  (IT:W.findIn K (.ref aX) "early" = some none)
  (aiH:W.plainGet K bL Str.empty=true)
  (aiI:W.hasDictIn K bL=true)
  (aiJ:W.plainOver K bL=true)
  (aiK:W.findIn K (.ref bL) "__setattr__" = some (some (.builtin "object.__setattr__")))
  (aiL:W.makesIn K bL=true)
  (aiM:W.keepIn K (.ref bL)=true)
  (BG:W.findIn K (.ref bL) "calm" = some none)
  (rN:W.findIn K (.ref bL) "inward" = some none)
  (BH:W.findIn K (.ref bL) "batch" = some none)
  (aiN:W.plainGet K bQ Str.empty=true)
  (aiO:W.hasDictIn K bQ=true)
  (aiP:W.plainOver K bQ=true)
  (aiQ:W.findIn K (.ref bQ) "__setattr__" = some (some (.builtin "object.__setattr__")))
  (aiR:W.makesIn K bQ=true)
  (aiS:W.keepIn K (.ref bQ)=true)
  (BI:W.findIn K (.ref bQ) "calm" = some none)
  (BJ:W.findIn K (.ref bQ) "inward" = some none)
  (BK:W.findIn K (.ref bQ) "batch" = some none)
  (aiT:W.plainGet K bx Str.empty=true)
  (aiU:W.hasDictIn K bx=true)
  (aiV:W.plainOver K bx=true)
  (aiW:W.findIn K (.ref bx) "__setattr__" = some (some (.builtin "object.__setattr__")))
  (aiX:W.makesIn K bx=true)
  (aiY:W.keepIn K (.ref bx)=true)
  (BL:W.findIn K (.ref bx) "ring_cells" = some none)
  (BN:W.findIn K (.ref bx) "lap" = some none)
  (BO:W.findIn K (.ref bx) "skew" = some none)
  (BP:W.findIn K (.ref bx) "swing" = some none)
  (BQ:W.findIn K (.ref bx) "number_cells" = some none)
  (BR:W.findIn K (.ref bx) "cell_numbers" = some none)
  (aiZ:W.plainGet K bG Str.empty=true)
  (ai0:W.hasDictIn K bG=true)
  (ai1:W.plainOver K bG=true)
  (ai2:W.findIn K (.ref bG) "__setattr__" = some (some (.builtin "object.__setattr__")))
  (ai3:W.makesIn K bG=true)
  (ai4:W.keepIn K (.ref bG)=true)
  (mH:W.findIn K (.ref bG) "number" = some none)
  (BS:W.findIn K (.ref bG) "ask" = some none)
  (BU:W.findIn K (.ref bG) "cells" = some none)
  (ai5:W.plainGet K bJ Str.empty=true)
  (ai6:W.hasDictIn K bJ=true)
  (ai7:W.plainOver K bJ=true)
  (ai8:W.findIn K (.ref bJ) "__setattr__" = some (some (.builtin "object.__setattr__")))
  (ai9:W.makesIn K bJ=true)
  (ai_:W.keepIn K (.ref bJ)=true)
  (IU:W.findIn K (.ref bJ) "keeping" = some none)
  (IV:W.findIn K (.ref bJ) "plate" = some none)
  (BV:W.findIn K (.ref bJ) "ring" = some none)
  (vO:W.findIn K (.ref bJ) "beat" = some none)
  (BW:W.findIn K (.ref bJ) "left" = some none)
  (aja:W.plainGet K dQ Str.empty=true)
  (ajb:W.hasDictIn K dQ=true)
  (ajc:W.plainOver K dQ=true)
  (ajd:W.findIn K (.ref dQ) "__setattr__" = some (some (.builtin "object.__setattr__")))
  (aje:W.makesIn K dQ=true)
  (ajf:W.keepIn K (.ref dQ)=true)
  (IW:W.findIn K (.ref dQ) "rows" = some none)
  (BX:W.findIn K (.ref dQ) "taken" = some none)
  (IX:W.findIn K (.ref dQ) "told" = some none)
  (IY:W.findIn K (.ref dQ) "answers" = some none)
  (IZ:W.findIn K (.ref dQ) "end" = some none)
  (ajg:W.plainGet K gR Str.empty=true)
  (ajh:W.hasDictIn K gR=true)
  (aji:W.plainOver K gR=true)
  (ajj:W.findIn K (.ref gR) "__setattr__" = some (some (.builtin "object.__setattr__")))
  (ajk:W.makesIn K gR=true)
  (ajl:W.keepIn K (.ref gR)=true)
  (ajm:W.findIn K (.ref gR) "__init__" = some (some (.builtin "object.__init__")))
  (ajn:W.plainGet K cT Str.empty=true)
  (ajo:W.hasDictIn K cT=true)
  (ajp:W.plainOver K cT=true)
  (ajq:W.findIn K (.ref cT) "__setattr__" = some (some (.builtin "object.__setattr__")))
  (ajr:W.makesIn K cT=true)
  (ajs:W.keepIn K (.ref cT)=true)
  (ajt:W.findIn K (.ref cT) "__init__" = some (some (.builtin "object.__init__")))
  (aju:W.plainGet K cU Str.empty=true)
  (ajv:W.hasDictIn K cU=true)
  (ajw:W.plainOver K cU=true)
  (ajx:W.findIn K (.ref cU) "__setattr__" = some (some (.builtin "object.__setattr__")))
  (ajy:W.makesIn K cU=true)
  (ajz:W.keepIn K (.ref cU)=true)
  (ajA:W.findIn K (.ref cU) "__init__" = some (some (.builtin "object.__init__")))
  (ajB:W.plainGet K cV Str.empty=true)
  (ajC:W.hasDictIn K cV=true)
  (ajD:W.plainOver K cV=true)
  (ajE:W.findIn K (.ref cV) "__setattr__" = some (some (.builtin "object.__setattr__")))
  (ajF:W.makesIn K cV=true)
  (ajG:W.keepIn K (.ref cV)=true)
  (ajH:W.findIn K (.ref cV) "__init__" = some (some (.builtin "object.__init__")))
  (ajI:W.nsIn K mainGlobals "MOST_CELLS_asks" = some (some (.int 16 vm)))
  (ajJ:W.nsIn K mainGlobals "GREATEST_FIRST" = some (some (.int 1000000 vn)))
  (ajK:W.nsIn K mainGlobals "GREATEST_AT" = some (some (.int 1000000000000 vo)))
  (ajL:W.nsIn K mainGlobals "GREATEST_ASKER" = some (some (.int 20 vp)))
  (ajM:W.nsIn K mainGlobals "GREATEST_LATEST" = some (some (.int 10000000000000 vq)))
  (ajN:W.nsIn K mainGlobals "GREATEST_BEHIND" = some (some (.int 99 vt)))
  (ajO:W.nsIn K mainGlobals "MOST_CELLS_settled" = some (some (.int 16 vv)))
  (ajP:W.nsIn K mainGlobals "MOST_ZONES" = some (some (.int 5 vA)))
  (ajQ:W.nsIn K mainGlobals "MOST_RINGS_IN_ZONE" = some (some (.int 40 vB)))
  (ajR:W.nsIn K mainGlobals "MOST_CELLS_IN_RING" = some (some (.int 60 vC)))
  (ajS:W.nsIn K mainGlobals "LEAST_RINGS" = some (some (.int 2 vD)))
  (ajT:W.nsIn K mainGlobals "MOST_RINGS" = some (some (.int 120 vE)))
  (ajU:W.nsIn K mainGlobals "MOST_BEATS" = some (some (.int 1000000000 vF)))
  (vU:W.nsIn K mainGlobals "abs" = some none)
  (BY:W.nsIn K mainGlobals "all" = some none)
  (vV:W.nsIn K mainGlobals "any" = some none)
  (BZ:W.nsIn K mainGlobals "bool" = some none)
  (Jb:W.nsIn K mainGlobals "dict" = some none)
  (oh:W.nsIn K mainGlobals "enumerate" = some none)
  (B0:W.nsIn K mainGlobals "int" = some none)
  (pO:W.nsIn K mainGlobals "isinstance" = some none)
  (fz:W.nsIn K mainGlobals "len" = some none)
  (pQ:W.nsIn K mainGlobals "list" = some none)
  (vW:W.nsIn K mainGlobals "max" = some none)
  (lG:W.nsIn K mainGlobals "min" = some none)
  (gv:W.nsIn K mainGlobals "range" = some none)
  (B3:W.nsIn K mainGlobals "sorted" = some none)
  (B6:W.nsIn K mainGlobals "sum" = some none)
  (rO:W.nsIn K mainGlobals "tuple" = some none)
  (ajV:Dg = .ref aY)
  (akO:K.lookup aY=some ⟨.type "code",age,.fields WN,agf⟩)
  (akP:WN[11]? = some (.ref aQ))
  (ajW:W.codeHdIn K aY aQ=true)
  (ajX:h.get? aQ=some (W.tabObj #[]))
  (ajY:Dh = .ref aZ)
  (akQ:K.lookup aZ=some ⟨.type "code",agg,.fields WO,agh⟩)
  (akR:WO[11]? = some (.ref aU))
  (ajZ:W.codeHdIn K aZ aU=true)
  (aj0:h.get? aU=some (W.tabObj #[]))
  (aj1:Di = .ref a_)
  (akS:K.lookup a_=some ⟨.type "code",agi,.fields WQ,agj⟩)
  (akT:WQ[11]? = some (.ref aV))
  (aj2:W.codeHdIn K a_ aV=true)
  (aj3:h.get? aV=some (W.tabObj #[]))
  (B7:aQ≠aU)
  (B8:aQ≠aV)
  (B9:aU≠aV)
  : ∃(fd:FuncData) (tabs:List (Addr×Addr)),(∀(s:Shared) (v:Value),BindsTo s fd ⟨[v],[]⟩ [("_law_script",v)])/\W.TabsAt tabs h/\∀base:Heap,K.In base->base.Ns mainGlobals mg->(∀q∈tabs,aj mg base q.1 q.2)->aW l.prog w K mg base bu 12 fa fd ["_law_script"] (x_ K tabs):=by
 have e:=hfa.symm.trans (W.mg_of X G Xx);cases e;have F5:=EL (st:=iI) lx5 cx5 kx5;have Xy:=fun_mk (st:=dP) agP agQ agR;have Xz:=fun_mk (st:=eT) agU agV agW;have XA:=fun_mk (st:=eU) agY agZ ag0;have F24:=EL (st:=jI) ahh ahj ahk;have F64:=EL (st:=jJ) ail ain aio;have XC:=fun_mk (st:=jK) aiy aiz aiA;have b0:=F0.binds (ps:=["self", "kind", "first", "many", "marks", "at", "asker", "latest", "behind", "early"]) λ_ _ _ _ _ _=>afH (λ_ _ _ _ _ _ _ _ _ _=>rfl)
 have b1:=F1.binds (ps:=["number", "least", "greatest", "words"]) λ_ _ _ _ _ _=>qb (λ_ _ _ _=>rfl);have b2:=F2.binds (ps:=["behind"]) λ_ _ _ _ _ _=>eL (λ_=>rfl)
 have b3:=F3.binds (ps:=["first", "many", "at", "asker", "latest", "behind"]) λ_ _ _ _ _ _=>Vr (λ_ _ _ _ _ _=>rfl)
 have b4:=F4.binds (ps:=["behind"]) λ_ _ _ _ _ _=>eL (λ_=>rfl)
 have aj4:Binds K (W.fnOf "reading" "reading" (d_ iI) (dD iI) (aP iI) (.ref wD) C_ Dc De C9 wI Df) ["first", "many", "at", "asker", "latest", "behind"] [.int 0 Lh,.none,.none]:=Ct 3 rfl λs X=>iK λ_ _ _=>W.binds_K X rfl Lk rfl rfl rfl
 have aj5:Binds K (W.fnOf "reading" "reading" (d_ iI) (dD iI) (aP iI) (.ref wD) C_ Dc De C9 wI Df) ["first", "many", "at", "asker", "latest", "behind"] [.none]:=Ct 5 rfl λs X=>qc λ_ _ _ _ _=>W.binds_K X rfl Lk rfl rfl rfl
 have b6:=F6.binds (ps:=["one", "other"]) λ_ _ _ _ _ _=>gk (λ_ _=>rfl);have b7:=F7.binds (ps:=["plate", "ring", "place", "beat"]) λ_ _ _ _ _ _=>qb (λ_ _ _ _=>rfl);have b8:=F8.binds (ps:=["plate", "ring", "beat", "cells"]) λ_ _ _ _ _ _=>qb (λ_ _ _ _=>rfl);have b9:=F9.binds (ps:=["due"]) λ_ _ _ _ _ _=>eL (λ_=>rfl)
 have b10:=WR.binds (ps:=["dues"]) λ_ _ _ _ _ _=>eL (λ_=>rfl)
 have b11:=Xy.binds (ps:=["ring", "dues"]) λ_ _ _ _ _ _=>gk (λ_ _=>rfl);have b12:=WS.binds (ps:=["plate", "ring", "beat", "due"]) λ_ _ _ _ _ _=>qb (λ_ _ _ _=>rfl);have b13:=Xz.binds (ps:=["plate", "ring", "beat", "dues"]) λ_ _ _ _ _ _=>qb (λ_ _ _ _=>rfl);have b14:=XA.binds (ps:=["dues"]) λ_ _ _ _ _ _=>eL (λ_=>rfl)
 have T_:=su.binds (ps:=["self"]) λ_ _ _ _ _ _=>eL (λ_=>rfl)
 have b16:=Ll.binds (ps:=["self", "plate", "ring", "beat", "dues"]) λ_ _ _ _ _ _=>qc (λ_ _ _ _ _=>rfl);have b17:=Lm.binds (ps:=["self", "plate", "ring", "beat", "dues"]) λ_ _ _ _ _ _=>qc (λ_ _ _ _ _=>rfl);have b18:=Ln.binds (ps:=["self", "plate", "ring", "beat", "dues"]) λ_ _ _ _ _ _=>qc (λ_ _ _ _ _=>rfl);have b19:=WT.binds (ps:=["plate"]) λ_ _ _ _ _ _=>eL (λ_=>rfl)
 have b20:=WU.binds (ps:=["plate"]) λ_ _ _ _ _ _=>eL (λ_=>rfl)
 have Jt:=WV.binds (ps:=["plate", "word", "most"]) λ_ _ _ _ _ _=>iK (λ_ _ _=>rfl);have b22:=WW.binds (ps:=["inward", "ring", "dues"]) λ_ _ _ _ _ _=>iK (λ_ _ _=>rfl);have b23:=WX.binds (ps:=["dues"]) λ_ _ _ _ _ _=>eL (λ_=>rfl)
 have aj6:Binds K (W.fnOf "__init__" "Lift.__init__" (d_ jI) (dD jI) (aP jI) (.ref CH) K6 K7 K8 K3 Dj K9) ["self", "calm"] [.bool false]:=Ct 1 rfl λs X=>eL λ_=>W.binds_K X rfl ahi rfl rfl rfl;have b25:=Dn.binds (ps:=["self"]) λ_ _ _ _ _ _=>eL (λ_=>rfl)
 have b26:=Dp.binds (ps:=["self", "plate", "ring", "beat", "dues"]) λ_ _ _ _ _ _=>qc (λ_ _ _ _ _=>rfl);have b27:=Dq.binds (ps:=["self", "dues"]) λ_ _ _ _ _ _=>gk (λ_ _=>rfl);have b28:=Lo.binds (ps:=["self", "ring", "dues"]) λ_ _ _ _ _ _=>iK (λ_ _ _=>rfl);have b29:=Lq.binds (ps:=["self", "ring", "dues"]) λ_ _ _ _ _ _=>iK (λ_ _ _=>rfl);have b30:=W3.binds (ps:=["zones"]) λ_ _ _ _ _ _=>eL (λ_=>rfl)
 have b31:=W4.binds (ps:=["zones", "lap", "skew"]) λ_ _ _ _ _ _=>iK (λ_ _ _=>rfl);have Fi:=W5.binds (ps:=["swing", "rings"]) λ_ _ _ _ _ _=>gk (λ_ _=>rfl);have b33:=W6.binds (ps:=["swing"]) λ_ _ _ _ _ _=>eL (λ_=>rfl)
 have b34:=W7.binds (ps:=["zones"]) λ_ _ _ _ _ _=>eL (λ_=>rfl)
 have b35:=W8.binds (ps:=["ring_cells", "spares"]) λ_ _ _ _ _ _=>gk (λ_ _=>rfl);have b36:=W9.binds (ps:=["number_cells"]) λ_ _ _ _ _ _=>eL (λ_=>rfl)
 have b37:=W_.binds (ps:=["self", "zones", "lap", "skew", "swing"]) λ_ _ _ _ _ _=>qc (λ_ _ _ _ _=>rfl);have b38:=Lr.binds (ps:=["self"]) λ_ _ _ _ _ _=>eL (λ_=>rfl)
 have b39:=Ls.binds (ps:=["self", "ring"]) λ_ _ _ _ _ _=>gk (λ_ _=>rfl);have b40:=Lu.binds (ps:=["self", "ring"]) λ_ _ _ _ _ _=>gk (λ_ _=>rfl);have b41:=Lv.binds (ps:=["self"]) λ_ _ _ _ _ _=>eL (λ_=>rfl)
 have b42:=Lw.binds (ps:=["self", "ring", "place"]) λ_ _ _ _ _ _=>iK (λ_ _ _=>rfl);have b43:=Lx.binds (ps:=["self", "ring", "other"]) λ_ _ _ _ _ _=>iK (λ_ _ _=>rfl);have b44:=Ly.binds (ps:=["self", "ring", "place"]) λ_ _ _ _ _ _=>iK (λ_ _ _=>rfl);have b45:=Lz.binds (ps:=["self", "number"]) λ_ _ _ _ _ _=>gk (λ_ _=>rfl);have b46:=LA.binds (ps:=["self", "ring", "place"]) λ_ _ _ _ _ _=>iK (λ_ _ _=>rfl);have b47:=Xa.binds (ps:=["plate", "ask"]) λ_ _ _ _ _ _=>gk (λ_ _=>rfl);have b48:=Xb.binds (ps:=["plate", "number", "ask"]) λ_ _ _ _ _ _=>iK (λ_ _ _=>rfl);have b49:=Xc.binds (ps:=["self", "plate", "number", "ask"]) λ_ _ _ _ _ _=>qb (λ_ _ _ _=>rfl);have b50:=Xd.binds (ps:=["asks", "number"]) λ_ _ _ _ _ _=>gk (λ_ _=>rfl);have b51:=Xe.binds (ps:=["asks", "number"]) λ_ _ _ _ _ _=>gk (λ_ _=>rfl);have b52:=Xf.binds (ps:=["asks", "number"]) λ_ _ _ _ _ _=>gk (λ_ _=>rfl);have b53:=Xg.binds (ps:=["plate", "asks"]) λ_ _ _ _ _ _=>gk (λ_ _=>rfl);have b54:=Xh.binds (ps:=["self", "plate", "asks", "ring"]) λ_ _ _ _ _ _=>qb (λ_ _ _ _=>rfl);have b55:=LB.binds (ps:=["self"]) λ_ _ _ _ _ _=>eL (λ_=>rfl)
 have b56:=LC.binds (ps:=["self", "number"]) λ_ _ _ _ _ _=>gk (λ_ _=>rfl);have b57:=LD.binds (ps:=["self"]) λ_ _ _ _ _ _=>eL (λ_=>rfl)
 have b58:=LF.binds (ps:=["self", "number"]) λ_ _ _ _ _ _=>gk (λ_ _=>rfl);have b59:=Xi.binds (ps:=["self", "rows", "taken", "told", "answers", "end"]) λ_ _ _ _ _ _=>Vr (λ_ _ _ _ _ _=>rfl);have b60:=Xj.binds (ps:=["rows"]) λ_ _ _ _ _ _=>eL (λ_=>rfl)
 have b61:=Xk.binds (ps:=["ask"]) λ_ _ _ _ _ _=>eL (λ_=>rfl)
 have b62:=Xl.binds (ps:=["asks", "picks"]) λ_ _ _ _ _ _=>gk (λ_ _=>rfl);have b63:=Xm.binds (ps:=["asks", "ends", "shelf"]) λ_ _ _ _ _ _=>iK (λ_ _ _=>rfl);have aj7:Binds K (W.fnOf "play" "play" (d_ jJ) (dD jJ) (aP jJ) (.ref C8) K_ La Lb K4 Dk Lc) ["plate", "asks", "rule", "ring", "shelf"] [.int 0 Li,.int 0 Lj]:=Ct 3 rfl λs X=>iK λ_ _ _=>W.binds_K X rfl aim rfl rfl rfl;have b65:=Xn.binds (ps:=["_law_script", "_law_k"]) λ_ _ _ _ _ _=>gk (λ_ _=>rfl);have b66:=Xo.binds (ps:=["_law_cell_here", "_law_turn", "_law_many"]) λ_ _ _ _ _ _=>iK (λ_ _ _=>rfl);have b67:=Xp.binds (ps:=["_law_cell_here", "_law_rings"]) λ_ _ _ _ _ _=>gk (λ_ _=>rfl);have b68:=Xq.binds (ps:=["_law_cell_here"]) λ_ _ _ _ _ _=>eL (λ_=>rfl)
 have b69:=Xr.binds (ps:=["_law_script"]) λ_ _ _ _ _ _=>eL (λ_=>rfl)
 have b70:=Xs.binds (ps:=["_law_ask", "_law_later"]) λ_ _ _ _ _ _=>gk (λ_ _=>rfl);have b71:=Xu.binds (ps:=["_law_asks", "_law_least", "_law_most"]) λ_ _ _ _ _ _=>iK (λ_ _ _=>rfl);have b72:=Xv.binds (ps:=["_law_found"]) λ_ _ _ _ _ _=>eL (λ_=>rfl)
 have b73:=Xw.binds (ps:=["_law_plate", "_law_rule", "_law_found", "_law_times", "_law_most"]) λ_ _ _ _ _ _=>qc (λ_ _ _ _ _=>rfl);have b74:=XC.binds (ps:=["_law_script"]) λ_ _ _ _ _ _=>eL (λ_=>rfl)
 let A:fu:={ yU:=Cu,yV:=VH,yW:=J_,yX:=qX,yY:=Ka,yZ:=qY,y_:=Kc,zb:=VI,zc:=Kd,zd:=VJ,ze:=Cv,rE:=(W.fnOf "reading" "reading" (d_ iI) (dD iI) (aP iI) (.ref wD) C_ Dc De C9 wI Df),zf:=Lh,zg:=Ke,zh:=VL,zj:=Kf,zm:=VM,zo:=Kg,zq:=VN,zu:=Kh,zw:=VO,zx:=Kl,zy:=VP,uQ:=Cw,rF:=(W.fnOf "nearest_of" "nearest_of" (d_ dP) (dD dP) (aP dP) .none Vv Vw Vx Vs Dg Vy),zz:=Km,zA:=VQ,uR:=Cy,rG:=(W.fnOf "soonest_of" "soonest_of" (d_ eT) (dD eT) (aP eT) .none Vz VA VB Vt Dh VC),uS:=Cz,rH:=(W.fnOf "latest_of" "latest_of" (d_ eU) (dD eU) (aP eU) .none VD VE VF Vu Di VG),nU:=qd,zB:=VR,uT:=CB,zC:=VS,uU:=CF,zD:=VT,uW:=CG,zE:=VU,zF:=Kn,zG:=VV,zH:=Ko,zI:=VW,zJ:=Kp,zK:=VX,zL:=Kq,zM:=VY,zN:=Kr,zO:=VZ,uX:=sr,zP:=(W.fnOf "__init__" "Lift.__init__" (d_ jI) (dD jI) (aP jI) (.ref CH) K6 K7 K8 K3 Dj K9),rJ:=wF,zQ:=V0,rK:=wG,zR:=V1,rL:=wH,zS:=V2,uY:=CI,zT:=V3,uZ:=CJ,zU:=V4,zW:=Ks,zX:=V5,zY:=Ku,zZ:=V6,z6:=Kv,z7:=V7,z8:=Kw,z9:=V8,z_:=Ky,Aa:=V9,Ab:=Kz,Ac:=V_,Ad:=KA,Ae:=Wa,Af:=CK,Ag:=Wb,u7:=CM,Ah:=Wc,u_:=CN,Ai:=Wd,vc:=CO,Aj:=We,vd:=CQ,Al:=Wf,ve:=CT,Am:=Wg,vf:=CU,An:=Wh,vg:=CV,Ao:=Wi,vh:=CW,Aq:=Wj,vj:=CY,As:=Wk,Au:=KC,Av:=Wl,Aw:=KD,Ax:=Wm,Ay:=CZ,Az:=Wn,AA:=KG,AB:=Wo,AD:=KH,AE:=Wq,AF:=KI,AG:=Wr,AH:=KJ,AI:=Ws,AJ:=C1,AK:=Wt,AL:=C2,AM:=Wu,AN:=C3,AO:=Wv,AQ:=C4,AR:=Ww,AS:=C5,AU:=Wx,AV:=C6,AW:=Wy,AX:=KL,AY:=Wz,AZ:=KN,A0:=WA,A1:=KO,A2:=WB,A3:=KP,A4:=WC,A5:=C7,A6:=(W.fnOf "play" "play" (d_ jJ) (dD jJ) (aP jJ) (.ref C8) K_ La Lb K4 Dk Lc),Hw:=Li,Hx:=Lj,A7:=KQ,A8:=WD,A9:=KR,A_:=WE,Ba:=KS,Bb:=WG,Bc:=KU,Be:=WH,Bf:=KW,Bg:=WI,Bh:=KY,Bj:=WJ,Bk:=KZ,Bl:=WK,Bm:=K0,Bo:=WL,Bp:=K1,Bq:=WM,Br:=fa,Bs:=(W.fnOf "law" "law" (d_ jK) (dD jK) (aP jK) .none Ld Le Lf K5 Dl Lg),aX:=aX,bL:=bL,bQ:=bQ,bx:=bx,bG:=bG,bJ:=bJ,dQ:=dQ,gR:=gR,cT:=cT,cU:=cU,cV:=cV,vm:=vm,vn:=vn,vo:=vo,vp:=vp,vq:=vq,vt:=vt,vv:=vv,vA:=vA,vB:=vB,vC:=vC,vD:=vD,vE:=vE,vF:=vF,aY:=aY,aQ:=aQ,aZ:=aZ,aU:=aU,a_:=a_,aV:=aV,nX:=nX,nY:=nY }
 have T:Tx K mg A:={ PV:=F0,PX:=b0,nZ:=F1,pM:=b1,pN:=W.mg_of X G ax1,Hy:=F2,PY:=b2,PZ:=W.mg_of X G ax2,Hz:=F3,P0:=b3,P1:=W.mg_of X G ax3,HA:=F4,P4:=b4,P5:=W.mg_of X G ax4,vG:=F5,P6:=aj4,P7:=aj5,Bu:=W.mg_of X G ax5,HB:=F6,P8:=b6,P9:=W.mg_of X G ax6,HC:=F7,P_:=b7,Qa:=W.mg_of X G ax7,Bv:=F8,HD:=b8,HE:=W.mg_of X G ax8,vH:=F9,Bw:=b9,Bx:=W.mg_of X G ax9,HF:=WR,Qc:=b10,Qd:=W.mg_of X G agN,rM:=Xy,vI:=b11,vJ:=W.mg_of X G agO,HG:=WS,Qe:=b12,Qf:=W.mg_of X G agS,HJ:=Xz,Qg:=b13,Qh:=W.mg_of X G agT,HK:=XA,Qi:=b14,Qj:=W.mg_of X G agX,Qk:=su,By:=T_,Ql:=⟨ag1,Dm,su.kp⟩,HL:=⟨ag2,Dm,su.kp⟩,HM:=⟨ag3,Dm,su.kp⟩,HN:=⟨ag4,Dm,su.kp⟩,Qm:=Ll,Qn:=b16,HP:=⟨ag5,ag6,Ll.kp⟩,Qo:=Lm,Qp:=b17,HQ:=⟨ag7,ag8,Lm.kp⟩,Qq:=Ln,Qs:=b18,HR:=⟨ag9,ag_,Ln.kp⟩,HS:=WT,Qt:=b19,Qu:=W.mg_of X G aha,HU:=WU,Qv:=b20,Qw:=W.mg_of X G ahb,HV:=WV,Qx:=Jt,Qy:=W.mg_of X G ahc,vK:=WW,BA:=b22,BB:=W.mg_of X G ahd,HW:=WX,Qz:=b23,QA:=W.mg_of X G ahe,QB:=F24,HX:=aj6,QC:=Dn,BC:=b25,HY:=⟨ahl,WZ,Dn.kp⟩,HZ:=⟨ahm,WZ,Dn.kp⟩,QD:=Dp,H_:=b26,Ia:=⟨ahn,W0,Dp.kp⟩,Ib:=⟨aho,W0,Dp.kp⟩,QE:=Dq,QF:=b27,QG:=⟨ahp,W2,Dq.kp⟩,QH:=⟨ahq,W2,Dq.kp⟩,QI:=Lo,QJ:=b28,QK:=⟨ahr,ahs,Lo.kp⟩,QL:=Lq,QM:=b29,QN:=⟨aht,ahu,Lq.kp⟩,Ic:=W3,QO:=b30,QS:=W.mg_of X G ahv,Ie:=W4,QT:=b31,QU:=W.mg_of X G ahw,Ig:=W5,QV:=Fi,QW:=W.mg_of X G ahx,Ih:=W6,QX:=b33,QY:=W.mg_of X G ahy,Ii:=W7,QZ:=b34,Q0:=W.mg_of X G ahz,Ij:=W8,Q3:=b35,Q4:=W.mg_of X G ahA,Ik:=W9,Q5:=b36,Q6:=W.mg_of X G ahB,Q7:=W_,Q8:=b37,Q9:=Lr,ael:=b38,Q_:=⟨ahE,ahF,Lr.kp⟩,Ra:=Ls,Rb:=b39,Rc:=⟨ahG,ahH,Ls.kp⟩,Rf:=Lu,BD:=b40,Rg:=⟨ahI,ahJ,Lu.kp⟩,Rh:=Lv,Il:=b41,Ri:=⟨ahK,ahL,Lv.kp⟩,Rj:=Lw,Rl:=b42,Rm:=⟨ahM,ahN,Lw.kp⟩,Rn:=Lx,Ro:=b43,Rp:=⟨ahO,ahP,Lx.kp⟩,Rq:=Ly,Rr:=b44,Rt:=⟨ahQ,ahR,Ly.kp⟩,Ru:=Lz,Rv:=b45,Rw:=⟨ahS,ahT,Lz.kp⟩,Rx:=LA,Ry:=b46,Rz:=⟨ahU,ahV,LA.kp⟩,Im:=Xa,RA:=b47,RB:=W.mg_of X G ahW,BE:=Xb,Io:=b48,Ip:=W.mg_of X G ahX,RD:=Xc,RE:=b49,Iq:=Xd,RG:=b50,RH:=W.mg_of X G ah0,Ir:=Xe,RI:=b51,RJ:=W.mg_of X G ah1,Iu:=Xf,RK:=b52,RL:=W.mg_of X G ah2,Iv:=Xg,RM:=b53,RN:=W.mg_of X G ah3,RO:=Xh,RP:=b54,RQ:=LB,RS:=b55,RT:=⟨ah6,ah7,LB.kp⟩,RU:=LC,RV:=b56,RW:=⟨ah8,ah9,LC.kp⟩,RX:=LD,RY:=b57,RZ:=⟨ah_,aia,LD.kp⟩,R0:=LF,R1:=b58,R3:=⟨aib,aic,LF.kp⟩,R4:=Xi,R6:=b59,Iw:=Xj,R7:=b60,R8:=W.mg_of X G aif,Iz:=Xk,R9:=b61,R_:=W.mg_of X G aih,IA:=Xl,Sa:=b62,Sd:=W.mg_of X G aii,IB:=Xm,Se:=b63,Sf:=W.mg_of X G aij,IC:=F64,Sg:=aj7,Sh:=W.mg_of X G aik,lE:=Xn,mD:=b65,mF:=W.mg_of X G aip,fY:=Xo,gi:=b66,gj:=W.mg_of X G aiq,ID:=Xp,Si:=b67,Sj:=W.mg_of X G air,IE:=Xq,Sk:=b68,Sl:=W.mg_of X G ais,IF:=Xr,Sm:=b69,So:=W.mg_of X G ait,IG:=Xs,Sq:=b70,Ss:=W.mg_of X G aiu,BF:=Xu,II:=b71,IJ:=W.mg_of X G aiv,IK:=Xv,Su:=b72,Sv:=W.mg_of X G aiw,IL:=Xw,Sw:=b73,Sx:=W.mg_of X G aix,Sy:=XC,aem:=b74,aen:=W.mg_of X G Xx,jL:=⟨aiB,aiC,aiD,aiE⟩,Sz:=⟨aiF,ax0,ix0,aiG⟩,SA:=W.mg_of X G agC,vL:=vL,IM:=IM,IP:=IP,IQ:=IQ,n8:=n8,IS:=IS,vM:=vM,vN:=vN,IT:=IT,lF:=⟨aiH,aiI,aiJ,aiK⟩,SD:=⟨aiL,ahf,WY,aiM⟩,SE:=W.mg_of X G agD,BG:=BG,rN:=rN,BH:=BH,n_:=⟨aiN,aiO,aiP,aiQ⟩,SG:=⟨aiR,ahg,WY,aiS⟩,SH:=W.mg_of X G agE,BI:=BI,BJ:=BJ,BK:=BK,kB:=⟨aiT,aiU,aiV,aiW⟩,SI:=⟨aiX,ahC,ahD,aiY⟩,SJ:=W.mg_of X G agF,BL:=BL,BN:=BN,BO:=BO,BP:=BP,BQ:=BQ,BR:=BR,mG:=⟨aiZ,ai0,ai1,ai2⟩,SK:=⟨ai3,ahY,ahZ,ai4⟩,SM:=W.mg_of X G agG,mH:=mH,BS:=BS,BU:=BU,mJ:=⟨ai5,ai6,ai7,ai8⟩,SN:=⟨ai9,ah4,ah5,ai_⟩,SO:=W.mg_of X G agH,IU:=IU,IV:=IV,BV:=BV,vO:=vO,BW:=BW,SQ:=⟨aja,ajb,ajc,ajd⟩,SR:=⟨aje,aid,aie,ajf⟩,SV:=W.mg_of X G agI,IW:=IW,BX:=BX,IX:=IX,IY:=IY,IZ:=IZ,SW:=⟨ajg,ajh,aji,ajj⟩,aeo:=⟨ajk,ajm,ajl⟩,aep:=W.mg_of X G agJ,vP:=⟨ajn,ajo,ajp,ajq⟩,SX:=⟨ajr,ajt,ajs⟩,SY:=W.mg_of X G agK,vQ:=⟨aju,ajv,ajw,ajx⟩,S0:=⟨ajy,ajA,ajz⟩,S2:=W.mg_of X G agL,vR:=⟨ajB,ajC,ajD,ajE⟩,S3:=⟨ajF,ajH,ajG⟩,S4:=W.mg_of X G agM,S5:=W.mg_of X G ajI,S6:=W.mg_of X G ajJ,S7:=W.mg_of X G ajK,S8:=W.mg_of X G ajL,S9:=W.mg_of X G ajM,S_:=W.mg_of X G ajN,I_:=W.mg_of X G ajO,Tc:=W.mg_of X G ajP,Td:=W.mg_of X G ajQ,Te:=W.mg_of X G ajR,Tf:=W.mg_of X G ajS,Tg:=W.mg_of X G ajT,Ja:=W.mg_of X G ajU,vU:=W.mg_none_of X G vU,BY:=W.mg_none_of X G BY,vV:=W.mg_none_of X G vV,BZ:=W.mg_none_of X G BZ,Jb:=W.mg_none_of X G Jb,oh:=W.mg_none_of X G oh,B0:=W.mg_none_of X G B0,pO:=W.mg_none_of X G pO,fz:=W.mg_none_of X G fz,pQ:=W.mg_none_of X G pQ,vW:=W.mg_none_of X G vW,lG:=W.mg_none_of X G lG,gv:=W.mg_none_of X G gv,B3:=W.mg_none_of X G B3,B6:=W.mg_none_of X G B6,rO:=W.mg_none_of X G rO,Ti:=ajV,Tj:=ajY,Tn:=aj1,To:=adm (λs a b c w X=>W.binds_K X rfl Lk rfl rfl rfl) rfl,Tp:=W.mg_of X G agy,Tq:=⟨_,_,_,agz,rfl,rfl,(show 3<=sizeLine by decide),(.cons ⟨_,rfl⟩ (.cons ⟨_,rfl⟩ (.cons ⟨_,rfl⟩ .nil)))⟩,Tr:=W.mg_of X G agA,Tt:=⟨_,_,_,agB,rfl,rfl,(show 5<=sizeLine by decide),(.cons ⟨_,rfl⟩ (.cons ⟨_,rfl⟩ (.cons ⟨_,rfl⟩ (.cons ⟨_,rfl⟩ (.cons ⟨_,rfl⟩ .nil)))))⟩,B7:=B7,B8:=B8,B9:=B9 }
 have hT:W.TabsAt [(aY,aQ),(aZ,aU),(a_,aV)] h:=by
  intro q hq;simp only[List.mem_cons,List.not_mem_nil,or_false] at hq;rcases hq with rfl | rfl | rfl
  ·exact⟨W.codeHd_of_K X ajW,ajX⟩
  ·exact⟨W.codeHd_of_K X ajZ,aj0⟩
  ·exact⟨W.codeHd_of_K X aj2,aj3⟩
 exact⟨(W.fnOf "law" "law" (d_ jK) (dD jK) (aP jK) .none Ld Le Lf K5 Dl Lg),[(aY,aQ),(aZ,aU),(a_,aV)],λs v=>.of_eq rfl,hT,λbase _ _ hL=>afG T (hL (aY,aQ) (by simp)) (hL (aZ,aU) (by simp)) (hL (a_,aV) (by simp))⟩
end _W
/-! akU names are taken,so akV no fast copy is laid of the largest tables: the compiled file stays small -/
structure PySem.W.Fast:Prop where(tw16311922167085318169 tw15971547972772340752 tw135920151770806736 tw80467496687605759 tw1961972821456462948 tw11986070434726445349 tw13542672751179884146 tw8817293327289742325 tw7456293602950957011 tw14690197942028464348 tw10329255143321921952 tw16193382143355340863 tw13725840577173204206 tw17891914803047365668 tw622943349803621487 tw18190347058304738076 tw15051988639525430476 tw15633445410051279955 tw9074253457899664313 tw14617481983591124518 tw17445440720269642033 tw4899453294061719181 tw3410260418234706750 tw3315775610427922215 tw18176009151049166151 tw10446037689026380347 tw14511363993151483204 tw11865090875109823836 tw2610343338444569782 tw18328807251154326457 tw1964568149930690977 tw12476888431415411142 tw12257003998006426957 tw10611134624995779900 tw15517617390866043901 tw1445338817962496681 tw10635417391242103306 tw14035147749930736261 tw1725958713910889438 tw4266019707644818361 tw10294341036517802656 tw1605131420508725970 tw15590906494284054027 tw2734104550500047650 tw15990730143701023300 tw6779775808338385104 tw9158156804962383679 tw2563597404312019153 tw3932710087565166181 tw4039583394325548916 tw11805244003662482496 tw12338247381823246689 tw18005206512593879920 tw15907891376601911253 tw4436341060888636444 tw4449666828340753783 tw4741784859024876416 tw10046796966714599331 tw10436722620317526233 tw16214336590550666594 tw12785920652123824985 tw10454996057279045987 tw10437605456790676619 tw2585858599492449868 tw10669967332605267562 tw12628215771050037019 tw13183758441294212005 tw9617205342744707817 tw8083433183938604764 tw17559987374498293171 tw16825727816557003586 tw3832109529442286680 tw6501742838950254373 tw1794246121716319239 tw1769156940679296782 tw8822412299473749848 tw28494561145405442 tw13134315406339222610 tw6360852108408494562 tw12111022646038464116 tw3547780674579389785 tw2946114582000666360 tw5799959262174440751 tw1946510735718834279 tw8698638418537149160 tw8870821404891869712 tw683528253695731325 tw12830397592223473168 tw583616273837158450 tw14612511719982231145 tw7551163189703050668 tw2083193551963999461 tw14472141269743574926 tw15354756929610265354 tw16369208799595282152 tw10648981315930136097 tw411647820499158719 tw4729535193778950543 tw17568855211154235082 tw15727980916179408731 tw12629296103452096705 tw437566237628544812 tw6593120137410525580 tw6247793778578077438 tw5432596846495495587 tw240238506121477662 tw12481950429969061490 tw12932553669513923531 tw6712460729254483684 tw17436695132092692783 tw11225325744856069466 tw479002889318820541 tw3679917420713091464 tw10614307140371953196 tw9178242219004897256 tw16429698172394591741 tw3109780533932755677 tw10448299212488885056 tw13414749375787256176 tw15849125007743712064 tw9893419795691467180 tw12439300496335315239 tw2988952280433029039 tw10796417939901801086 tw3385430815369591455 tw9127127005688080379 tw4379307357884070380 tw12774132445766857892 tw14831993996495187397 tw5816076162874004885 tw1378609700775922195 tw10217864536172646638 tw13255921671288971005 tw8944431823399542256 tw17756295034809653477 tw12515330568800424989 tw11803374696445146599 tw14321409889092166821 tw9509022414812934225 tw1106043772802632171 tw8681761996842792905 tw17492953009545805946 tw9604571495470140820 tw6077387246340593354 tw15368987875913117459 tw14536175180588748738 tw5182588701839371666 tw14158842869238178745 tw4821335417489755586 tw11538518205649400417 tw3515593871502277863 tw12323858653657691503 tw3007059074207828766 tw18227439342369020451 tw7000113270643318560 tw17142324143979486407 tw1376274035208203103 tw3681660688711840697 tw12496671782345238890 tw1999527723332015016 tw7707677060727816618 tw17084085957608966484 tw9584157774952683469 tw18252499058425426891 tw6682265435715084411 tw9899841647148198666 tw11243178819805619727 tw9532554146664876845 tw9840168787945405216 tw17750135586554106083 tw1732785117962313377 tw9839774847246723279 tw15855703137016780453 tw17707385198178436658 tw1756775551169117395 tw270028175491090873 tw1647911000488608131 tw10964994743711271324 tw17772503984391710239 tw9057766387045832187 tw15613325341843789503 tw18002140435054521755 tw12940881047712273888 tw5872400231294519286 tw5817739581015535097 tw14428978390094239196 tw10956629087683097913 tw18033896476755727162 tw5962358654581879524 tw3089020260545485746 tw11809086538689901288 tw6920086526058555736 tw825090914973802955 tw10098031333110668338 tw13924349441707332073 tw17131937295989785516 tw13011370559247478255 tw82265433632402166 tw11792514393405314942 tw16064204372802504453 tw7927713532545558558 tw10890919103524865337 tw15617488479701885235 tw10287295580234465714 tw3461554496917042437 tw11999273252029494561 tw8768814704243497181 tw3335165181371760808 tw7563029588083612827 tw10999841798864442700 tw2577933749571283691 tw2560061570548379893 tw15159805188857937286 tw10222387325608307233 tw14067475752172395649 tw17047340122614525995 tw9077750997728177684 tw10581052399536994954 tw17204580088527595327 tw18040667107889635698 tw5536398814034773077 tw4685334569940999665 tw10814266999199979750 tw5696731832332530104 tw14373487303591899403 tw6696361724090439118 tw12432325774974760873 tw4674791208343895125 tw1486740975808757885 tw2167613287740231092 tw15971921997148577811 tw15046318723077859808 tw1788797417481050064 tw18367828429984130453 tw4545422985712262311 tw15438115552759970102 tw14113017072793402372 tw8275514978881462509 tw13008677404764469331 tw3157361917968143265 tw17002630778475828980 tw12369172005452216312 tw7739402223841039303 tw6736568723585306339 tw8580176431124133434 tw14060402900344936437 tw16959960227896431280 tw6574181499161553254 tw17437651733974539619 tw14470879324347572448 tw10425872179935997963 tw15197575569367102320 tw10835693204458020523 tw14351528542057273005 tw12514655268402064450 tw17183691017098321601 tw5480442121516348236 tw9331335731711197891 tw1150331221026959562 tw8535682044917806885 tw2989445359769738913 tw15679846581192680185 tw1836966014571688395 tw12915139937564479075 tw1661676533966179476 tw9249456759991301719 tw16127817411954028217 tw8651235297956934626 tw4954351242018384136 tw12689917674416931528 tw12159277303110319916 tw4426853545083804070 tw2331853129426072507 tw10571335727106771523 tw2711116026378475284 tw3525472008223122471 tw7368562479365401011 tw5358853709360914210 tw9919105106808842713 tw16224319552766404122:True)
open PySem PySem.W PyProof.Rows
set_option maxHeartbeats 0 in
theorem PySem.Challenge.cw_armswing_k54_whole_kept_waiting_holds : PySem.Challenge.rw_armswing_k54_whole_kept_waiting.Holds := by
 w_on; o_law; k_head; (case hw => w_witness2)
 k_fill
 refine _L.walk_lawT (l := PySem.Challenge.rw_armswing_k54_whole_kept_waiting) (k := 12) (x := "_law_script") rfl rfl ⟨rfl, by decide, by decide⟩ (λw h Y => PySem.W.km_in_of Y) ?nt ?F
 case nt => intro w; first | k_is | rfl
 case F =>
  intro w mg fa h Y KX G hmg
  refine' _W.all_mk KX G hmg ?_ ?_ ?_ ?_ ?_ ?_ ?_ ?_ ?_ ?_ ?_ ?_ ?_ ?_ ?_ ?_ ?_ ?_ ?_ ?_ ?_ ?_ ?_ ?_ ?_ ?_ ?_ ?_ ?_ ?_ ?_ ?_ ?_ ?_ ?_ ?_ ?_ ?_ ?_ ?_ ?_ ?_ ?_ ?_ ?_ ?_ ?_ ?_ ?_ ?_ ?_ ?_ ?_ ?_ ?_ ?_ ?_ ?_ ?_ ?_ ?_ ?_ ?_ ?_ ?_ ?_ ?_ ?_ ?_ ?_ ?_ ?_ ?_ ?_ ?_ ?_ ?_ ?_ ?_ ?_ ?_ ?_ ?_ ?_ ?_ ?_ ?_ ?_ ?_ ?_ ?_ ?_ ?_ ?_ ?_ ?_ ?_ ?_ ?_ ?_ ?_ ?_ ?_ ?_ ?_ ?_ ?_ ?_ ?_ ?_ ?_ ?_ ?_ ?_ ?_ ?_ ?_ ?_ ?_ ?_ ?_ ?_ ?_ ?_ ?_ ?_ ?_ ?_ ?_ ?_ ?_ ?_ ?_ ?_ ?_ ?_ ?_ ?_ ?_ ?_ ?_ ?_ ?_ ?_ ?_ ?_ ?_ ?_ ?_ ?_ ?_ ?_ ?_ ?_ ?_ ?_ ?_ ?_ ?_ ?_ ?_ ?_ ?_ ?_ ?_ ?_ ?_ ?_ ?_ ?_ ?_ ?_ ?_ ?_ ?_ ?_ ?_ ?_ ?_ ?_ ?_ ?_ ?_ ?_ ?_ ?_ ?_ ?_ ?_ ?_ ?_ ?_ ?_ ?_ ?_ ?_ ?_ ?_ ?_ ?_ ?_ ?_ ?_ ?_ ?_ ?_ ?_ ?_ ?_ ?_ ?_ ?_ ?_ ?_ ?_ ?_ ?_ ?_ ?_ ?_ ?_ ?_ ?_ ?_ ?_ ?_ ?_ ?_ ?_ ?_ ?_ ?_ ?_ ?_ ?_ ?_ ?_ ?_ ?_ ?_ ?_ ?_ ?_ ?_ ?_ ?_ ?_ ?_ ?_ ?_ ?_ ?_ ?_ ?_ ?_ ?_ ?_ ?_ ?_ ?_ ?_ ?_ ?_ ?_ ?_ ?_ ?_ ?_ ?_ ?_ ?_ ?_ ?_ ?_ ?_ ?_ ?_ ?_ ?_ ?_ ?_ ?_ ?_ ?_ ?_ ?_ ?_ ?_ ?_ ?_ ?_ ?_ ?_ ?_ ?_ ?_ ?_ ?_ ?_ ?_ ?_ ?_ ?_ ?_ ?_ ?_ ?_ ?_ ?_ ?_ ?_ ?_ ?_ ?_ ?_ ?_ ?_ ?_ ?_ ?_ ?_ ?_ ?_ ?_ ?_ ?_ ?_ ?_ ?_ ?_ ?_ ?_ ?_ ?_ ?_ ?_ ?_ ?_ ?_ ?_ ?_ ?_ ?_ ?_ ?_ ?_ ?_ ?_ ?_ ?_ ?_ ?_ ?_ ?_ ?_ ?_ ?_ ?_ ?_ ?_ ?_ ?_ ?_ ?_ ?_ ?_ ?_ ?_
  all_goals (first | k_is | kit_is | k_exc | exact _L.fun_mk (by k_is) (by k_is) (by k_is) | rfl | exact PySem.W.km_tabs_of Y _ (by decide) | decide | decide +kernel | kernel_rfl | skip)

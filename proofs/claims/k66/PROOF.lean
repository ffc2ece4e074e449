import PyProof.Rows.All
import Wide.All
import OpenK.AllK
import Wide.FinOn
import Lean
import PyProof.EqAt
import PyProof.EqKinds
import PyProof.TupleCall
import PySem.Challenge.RW_armswing_k66_least_by_all
set_option compiler.extract_closed false
set_option Elab.async false
set_option linter.all false
set_option maxRecDepth 100000
namespace _L
open PySem PySem.Spec PyProof.Rows
noncomputable abbrev Key:=Sum Int Str
noncomputable def rB:Key->Value->Bool
 | .inl k,v=>Value.isInt k v
 | .inr x,v=>Value.isStrOf x v
noncomputable def ZA(w:World):Key->Int
 | .inl k=>hashInt k
 | .inr x=>hashStr w x
theorem mJ:∀ {k:Key} {v:Value},rB k v=true->(∃i t,k=Sum.inl i/\v=Value.int i t)\/(∃x t,k=Sum.inr x/\v=Value.str x t)
 | .inl i,v,h=>by
  obtain⟨t,e⟩:=Value.isInt_shape (k:=i) (v:=v) h;exact .inl ⟨i,t,rfl,e⟩
 | .inr x,v,h=>by
  obtain⟨t,e⟩:=Value.isStrOf_shape (x:=x) (v:=v) h;exact .inr ⟨x,t,rfl,e⟩
theorem ZC(i:Int)(t:Tok):rB (.inl i) (.int i t)=true:=by simp[rB,Value.isInt]
theorem ZD(x:Str)(t:Tok):rB (.inr x) (.str x t)=true:=by simp[rB,Value.isStrOf]
theorem ZE(a b:Int):decide ((Sum.inl a:Key)=Sum.inl b)=(a == b):=by
 by_cases e:a=b
 ·subst e;simp
 ·have h:¬ (Sum.inl a:Key)=Sum.inl b:=λq=>e (Sum.inl.inj q);rw[decide_eq_false h];exact(beq_eq_false_iff_ne.mpr e).symm
theorem ZF(a b:Str):decide ((Sum.inr a:Key)=Sum.inr b)=decide (a=b):=by
 by_cases e:a=b
 ·subst e;simp
 ·have h:¬ (Sum.inr a:Key)=Sum.inr b:=λq=>e (Sum.inr.inj q);rw[decide_eq_false h,decide_eq_false e]
theorem ZG(a:Int)(b:Str):decide ((Sum.inl a:Key)=Sum.inr b)=false:=decide_eq_false (λq=>nomatch q)
theorem ZI(a:Str)(b:Int):decide ((Sum.inr a:Key)=Sum.inl b)=false:=decide_eq_false (λq=>nomatch q)
noncomputable def dI(prog:Program)(w:World):PySem.KeyKind prog w Key where
 is:=rB
 hash:=ZA w
 inj:=λv a b ha hb=>by
  rcases mJ ha with⟨i,t,rfl,rfl⟩ | ⟨x,t,rfl,rfl⟩
  ·rcases mJ hb with⟨j,u,rfl,e⟩ | ⟨y,u,rfl,e⟩
   ·injection e with e1 _;rw[e1]
   ·exact nomatch e
  ·rcases mJ hb with⟨j,u,rfl,e⟩ | ⟨y,u,rfl,e⟩
   ·exact nomatch e
   ·injection e with e1 _;rw[e1]
 byValue:=λk v h=>by
  rcases mJ h with⟨i,t,rfl,rfl⟩ | ⟨x,t,rfl,rfl⟩ <;> rfl
 pyHash:=λhv h=>by
  rcases mJ hv with⟨i,t,rfl,rfl⟩ | ⟨x,t,rfl,rfl⟩
  ·exact wpAny_pyHash_int h
  ·exact wpAny_pyHash_str h
 eqBool:=λhu hv h=>by
  rcases mJ hu with⟨i,t,rfl,rfl⟩ | ⟨x,t,rfl,rfl⟩
  ·rcases mJ hv with⟨j,u,rfl,rfl⟩ | ⟨y,u,rfl,rfl⟩
   ·rw[ZE] at h;exact wpAny_eqBool_int h
   ·rw[ZG] at h;exact SeqAt.EqAt.int_str i t y u _ _ _ _ h
  ·rcases mJ hv with⟨j,u,rfl,rfl⟩ | ⟨y,u,rfl,rfl⟩
   ·rw[ZI] at h;exact SeqAt.EqAt.str_int x t j u _ _ _ _ h
   ·rw[ZF] at h;exact wpAny_eqBool_str h
 «strs» := λk x t v h=>by
  rcases mJ h with⟨i,u,rfl,e⟩ | ⟨y,u,rfl,e⟩
  ·exact nomatch e
  ·injection e with e1 _;subst e1;cases v <;> rfl
theorem ZJ(prog:Program)(w:World)(i:Int)(t:Tok):(dI prog w).is (.inl i) (.int i t)=true:=ZC i t
theorem ZK(prog:Program)(w:World)(x:Str)(t:Tok):(dI prog w).is (.inr x) (.str x t)=true:=ZD x t
inductive V where
 | aP | bl (b:Bool) | int (i:Int) | str (x:Str) | gA (b:Array UInt8) | lH (b:UInt64) | ref (a:Addr) | ty (n:String)
 deriving DecidableEq
noncomputable def RelV:V->Value->Prop
 | .aP,u=>u=Value.none
 | .bl b,u=>u=Value.bool b
 | .int i,u=>∃t,u=Value.int i t
 | .str x,u=>∃t,u=Value.str x t
 | .gA b,u=>∃t,u=Value.bytes b t
 | .lH b,u=>∃t,u=Value.float b t
 | .ref a,u=>u=Value.ref a
 | .ty n,u=>u=Value.type n
noncomputable abbrev Vals:List V->List Value->Prop:=Paired RelV
theorem Vals.length{xs:List V}{us:List Value}(r:Vals xs us):xs.length=us.length:=Paired.length r
theorem Vals.get:∀ {xs:List V} {us:List Value} {i:Nat} {x:V},Vals xs us->xs[i]? = some x->∃u,us[i]? = some u/\RelV x u
 | _,_,_,_,.nil,e=>by simp at e
 | _,_,0,_,.cons r _,e=>by simp at e;subst e;exact⟨_,rfl,r⟩
 | _,_,i+1,x,.cons _ t,e=>by
  obtain⟨u,h1,h2⟩:=Vals.get (i:=i) (x:=x) t (by simpa using e)
  exact⟨u,by simpa using h1,h2⟩
theorem Vals.set{x:V}{u:Value}(r:RelV x u):∀ {xs:List V} {us:List Value} (i:Nat),Vals xs us->Vals (xs.set i x) (us.set i u)
 | _,_,_,.nil=>.nil
 | _,_,0,.cons _ t=>.cons r t
 | _,_,i+1,.cons q t=>.cons q (Vals.set r i t)
theorem Vals.append{xs ys:List V}{us ws:List Value}(h:Vals xs us)(g:Vals ys ws):Vals (xs++ys) (us++ws):=by
 induction h with
 | nil=>exact g
 | cons r t ih=>exact .cons r ih
theorem Vals.take:∀ {xs:List V} {us:List Value} (n:Nat),Vals xs us->Vals (xs.take n) (us.take n)
 | _,_,0,_=>.nil
 | _,_,_+1,.nil=>.nil
 | _,_,n+1,.cons r t=>.cons r (Vals.take n t)
theorem Vals.drop:∀ {xs:List V} {us:List Value} (n:Nat),Vals xs us->Vals (xs.drop n) (us.drop n)
 | _,_,0,r=>r
 | _,_,_+1,.nil=>.nil
 | _,_,n+1,.cons _ t=>Vals.drop n t
noncomputable def gb:Option V->Option Value->Prop
 | some v,some u=>RelV v u
 | none,none=>True
 | _,_=>False
noncomputable def KV{κ:Type}:List (κ×V)->List (κ×Value)->Prop:=Paired λ(p:κ×V) (q:κ×Value)=>p.1=q.1/\RelV p.2 q.2
noncomputable def kV:Key->V
 | .inl i=>.int i
 | .inr x=>.str x
inductive HO where
 /-- a list -/
 | lst (xs:List V)
 /-- a tuple (never changes) -/
 | tup (xs:List V)
 /-- a dict whose keys are ints and texts;one whose keys are tuples of ints and texts (the empty one is both) -/
 | dK (az:List (Key×V)) | dT (az:List (List Key×V))
 /-- a set of ints: its members,its size -/
 | set (S:Int->Bool) (n:Nat)
 /-- an instance of the class at C,its dict at dx,its attributes -/
 | ins (C dx:Addr) (fs:List (Str×V))
 /-- the dict of the instance at x -/
 | own (x:Addr)
 /-- the dict of an exception -/
 | xd (fs:List (Str×V))
 /-- a bound method,f of x -/
 | met (f x:Addr)
 /-- a range object lo,lo+1,.. below hi -/
 | Ff (lo hi:Int)
 /-- a thing that is known to the object (the script;a dict while a loop walks it): read,never written while it is so -/
 | gP (o:Obj) (u:HO)
 /-- a code object's table -/
 | eO (ps:Array Value)
 /-- any other thing,by what is true of its one object (a def of one's own: SetO a S n:=HO.ext λh=>..) -/
 | ext (φ:Heap->Prop)
noncomputable abbrev Hp:=Addr->Option HO
noncomputable def upd(H:Hp)(a:Addr)(o:HO):Hp:=λb=>if b=a then some o else H b
theorem aD{H:Hp}{a:Addr}{o:HO}:upd H a o a=some o:=by unfold upd;rw[if_pos rfl]
theorem aI{H:Hp}{a b:Addr}{o:HO}(h:b≠a):upd H a o b=H b:=by unfold upd;rw[if_neg h]
theorem yX{H:Hp}{a:Addr}{o u:HO}:upd (upd H a o) a u=upd H a u:=by
 funext b;unfold upd;split <;> rfl
theorem gQ{H:Hp}{a b:Addr}{o u:HO}(h:H a=some o)(h':H b=some u)(d:o≠u):a≠b:=by
 intro e;subst e;rw[h] at h';exact d (Option.some.inj h')
theorem bO{H:Hp}{a b:Addr}{o:HO}(h:H a=some o)(h':H b=none):a≠b:=by
 intro e;subst e;rw[h] at h';cases h'
section
variable(P:Program)(w:World)
noncomputable def dB(H:Hp)(h:Heap)(a:Addr):HO->Prop
 | .lst xs=>xs.length<=sizeLine/\∃(aC:List Value) (n:Nat),Vals xs aC/\h.get? a=some { cls:=.type "list",data:=.seq aC.toArray n }
 | .tup xs=>xs.length<=sizeLine/\∃aC:List Value,Vals xs aC/\IsTup h a aC.toArray
 | .dK az=>az.length<=sizeLine/\(a == sysModules)=false/\∃vs,KV az vs/\h.DictOf (dI P w) a vs
 | .dT az=>az.length<=sizeLine/\(a == sysModules)=false/\∃xs:List (List Key×Addr×Value),
   Paired (λ(p:List Key×V) (q:List Key×Addr×Value)=>p.1=q.1/\H q.2.1=some (.tup (p.1.map kV))/\RelV p.2 q.2.2) az xs/\
   ∃o es ep,h.get? a=some o/\o.ExactDict/\o.data = .dict es ep/\es.toList=xs.map (entryOfKey (tupleKind (dI P w)))/\(xs.map (·.1)).Nodup
 | .set S n=>h.SetOf (intKind P w) a S n
 | .ins C dx fs=>H dx=some (.own a)/\fs.length<=1000/\dx≠a/\h.get? a=some (PySem.W.instObj C dx)/\
   ∃mA,h.Ns1 dx mA/\(∀f,gb (fs.lookup f) (mA f))/\PySem.Within mA (fs.map (·.1))
 | .own _=>∃o,h.get? a=some o
 | .xd fs=>∃mA,h.Ns1 a mA/\∀f,gb (fs.lookup f) (mA f)
 | .Ff lo hi=>∃t u v,h.get? a=some { cls:=.type "range",data:=.fields #[.int lo t,.int hi u,.int 1 v] }
 | .gP o u=>h.get? a=some o/\dB H h a u
 | .eO ps=>h.get? a=some { cls:=.none,data:=.fields ps }
 | .met f x=>h.get? a=some (PySem.W.methodObj (.ref f) (.ref x))
 | .ext φ=>φ h/\(∃o,h.get? a=some o)/\∀h1 h2:Heap,φ h1->(∀o,h1.get? a=some o->h2.get? a=some o)->φ h2
noncomputable def cU(H:Hp)(h:Heap):Prop:=∀a o,H a=some o->dB P w H h a o
end
section
variable{P:Program}{w:World}{H H':Hp}{h h':Heap}{a:Addr}{o:HO}
theorem dB.lt(x:dB P w H h a o):a<h.objs.size:=by
 cases o with
 | lst xs=>obtain⟨_,_,_,_,e⟩:=x;exact Heap.lt_size e
 | tup xs=>obtain⟨_,_,_,p⟩:=x;exact p.lt
 | dK az=>obtain⟨_,_,_,_,o,_,_,e,_⟩:=x;exact Heap.lt_size e
 | dT az=>obtain⟨_,_,_,_,o,_,_,e,_⟩:=x;exact Heap.lt_size e
 | set S n=>obtain⟨o,_,_,_,e,_⟩:=x;exact Heap.lt_size e
 | ins C dx fs=>obtain⟨_,_,_,e,_⟩:=x;exact Heap.lt_size e
 | own y=>obtain⟨_,e⟩:=x;exact Heap.lt_size e
 | xd fs=>obtain⟨_,⟨_,_,_,e,_⟩,_⟩:=x;exact Heap.lt_size e
 | Ff lo hi=>obtain⟨_,_,_,e⟩:=x;exact Heap.lt_size e
 | gP ob u=>obtain⟨e,_⟩:=x;exact Heap.lt_size e
 | eO ps=>exact Heap.lt_size (show h.get? a=some _ from x)
 | met f y=>exact Heap.lt_size (show h.get? a=some _ from x)
 | ext φ=>obtain⟨_,⟨_,e⟩,_⟩:=x;exact Heap.lt_size e
theorem Paired.Ot{α β:Type}{F G:α->β->Prop}{Ou:List α}{Ov:List β}(h:Paired F Ou Ov)(f:∀a b,F a b->G a b):Paired G Ou Ov:=by
 induction h with
 | nil=>exact .nil
 | cons r t ih=>exact .cons (f _ _ r) ih
theorem dB.kh(x:dB P w H h a o)(k:∀b u,(b=a\/H b=some (.own a))->h.get? b=some u->h'.get? b=some u)
  (ho:∀b,H b=some (.own a)->H' b=some (.own a)) (ht:∀b xs,H b=some (.tup xs)->H' b=some (.tup xs)):dB P w H' h' a o:=by
 induction o with
 | lst xs=>obtain⟨z,aC,n,r,e⟩:=x;exact⟨z,aC,n,r,k _ _ (.inl rfl) e⟩
 | tup xs=>obtain⟨z,aC,r,ob,e,c⟩:=x;exact⟨z,aC,r,ob,k _ _ (.inl rfl) e,c⟩
 | dK az=>obtain⟨z,y,vs,r,ob,es,ep,e,c⟩:=x;exact⟨z,y,vs,r,ob,es,ep,k _ _ (.inl rfl) e,c⟩
 | dT az =>
  obtain⟨z,y,xs,r,ob,es,ep,e,c⟩:=x;exact⟨z,y,xs,Paired.Ot r λp q z=>⟨z.1,ht _ _ z.2.1,z.2.2⟩,ob,es,ep,k _ _ (.inl rfl) e,c⟩
 | set S n=>obtain⟨ob,es,ep,t,e,c⟩:=x;exact⟨ob,es,ep,t,k _ _ (.inl rfl) e,c⟩
 | ins C dx fs =>
  obtain⟨d,z,ne,e,mA,⟨od,es,ep,e2,c⟩,r⟩:=x;exact⟨ho _ d,z,ne,k _ _ (.inl rfl) e,mA,⟨od,es,ep,k _ _ (.inr d) e2,c⟩,r⟩
 | own y=>obtain⟨ob,e⟩:=x;exact⟨ob,k _ _ (.inl rfl) e⟩
 | xd fs=>obtain⟨mA,⟨od,es,ep,e,c⟩,r⟩:=x;exact⟨mA,⟨od,es,ep,k _ _ (.inl rfl) e,c⟩,r⟩
 | Ff lo hi=>obtain⟨t,u,v,e⟩:=x;exact⟨t,u,v,k _ _ (.inl rfl) e⟩
 | gP ob u ih=>obtain⟨e,q⟩:=x;exact⟨k _ _ (.inl rfl) e,ih q⟩
 | eO ps =>
  have e:h.get? a=some { cls:=.none,data:=.fields ps }:=x
  show h'.get? a=some { cls:=.none,data:=.fields ps };exact k a _ (.inl rfl) e
 | met f y =>
  have e:h.get? a=some (PySem.W.methodObj (.ref f) (.ref y)):=x
  show h'.get? a=some (PySem.W.methodObj (.ref f) (.ref y));exact k a _ (.inl rfl) e
 | ext φ=>obtain⟨p,⟨o,e⟩,st⟩:=x;exact⟨st _ _ p λo q=>k _ _ (.inl rfl) q,⟨o,k _ _ (.inl rfl) e⟩,st⟩
theorem cU.lt(x:cU P w H h)(e:H a=some o):a<h.objs.size:=(x a o e).lt
theorem cU.fresh(x:cU P w H h)(e:h.objs.size<=a):H a=none:=by
 cases q:H a with
 | none=>rfl
 | some u=>exact absurd (Nat.lt_of_lt_of_le (x.lt q) e) (Nat.lt_irrefl _)
theorem cU.kept(x:cU P w H h)(k:∀b u,h.get? b=some u->h'.get? b=some u):cU P w H h':=λa o e =>
 (x a o e).kh (λb u _ q=>k b u q) (λ_ q=>q) λ_ _ q=>q
theorem cU.laid(x:cU P w H h)(k:∀b u,h.get? b=some u->h'.get? b=some u)(hp:h.objs.size<=a)(new:dB P w (upd H a o) h' a o):cU P w (upd H a o) h':=λb u e=>by
 have hn:=x.fresh hp;by_cases hb:b=a
 ·subst hb;rw[aD] at e;cases e;exact new
 ·rw[aI hb] at e;exact(x b u e).kh (λc v _ q=>k c v q) (λc q=>by rw[aI (bO q hn)];exact q) λc xs q=>by rw[aI (bO q hn)];exact q
end
noncomputable def Rd(H:Hp)(a:Addr)(u:HO):Prop:=H a=some u\/∃o,H a=some (.gP o u)
theorem Rd.ok{P:Program}{w:World}{H:Hp}{h:Heap}{a:Addr}{u:HO}(r:Rd H a u)(x:cU P w H h):dB P w H h a u:=by
 rcases r with r | ⟨o,r⟩
 ·exact x a u r
 ·obtain⟨_,q⟩:=x a _ r;exact q
noncomputable def uF:Option HO->Prop
 | some (.lst _)=>True
 | some (.dK _)=>True
 | some (.dT _)=>True
 | some (.set _ _)=>True
 | some (.ins _ _ _)=>True
 | some (.ext _)=>True
 | _=>False
section
variable{P:Program}{w:World}{H:Hp}{h h':Heap}{x e:Addr}{o':HO}
theorem cU.write(ok:cU P w H h)(mu:uF (H x))(he:e=x\/H e=some (.own x))(k:∀b u,b≠e->h.get? b=some u->h'.get? b=some u)(rC:∃u,h'.get? e=some u)
  (new:dB P w (upd H x o') h' x o'):cU P w (upd H x o') h':=λb u q=>by
 have Ow:∀c y,H c=some (.own y)->c≠x:=λc y r z=>by subst z;rw[r] at mu;exact mu
 have ZM:∀c xs,H c=some (.tup xs)->c≠x:=λc xs r z=>by subst z;rw[r] at mu;exact mu
 by_cases hb:b=x
 ·subst hb;rw[aD] at q;cases q;exact new
 ·rw[aI hb] at q;by_cases pX:b=e
  ·have q':H b=some (.own x):=by
    rcases he with z | z
    ·exact absurd (pX.trans z) hb
    ·rw[pX];exact z
   rw[q] at q';cases q';obtain⟨v,hv⟩:=rC;exact⟨v,by rw[pX];exact hv⟩
  ·refine(ok b u q).kh (λc v hc r=>k c v ?_ r) (λc r=>by rw[aI (Ow c b r)];exact r) λc xs r=>by rw[aI (ZM c xs r)];exact r
   rcases hc with rfl | hc
   ·exact pX
   ·rintro rfl;rcases he with z | z
    ·exact Ow c b hc z
    ·rw[hc] at z;cases z;exact hb rfl
end
structure Un(fs ex:List Addr)(H H':Hp)(h h':Heap):Prop where
 keep:∀b o,h.get? b=some o->H b=none->b∉fs->b∉ex->h'.get? b=some o
 slot:∀b o,h.get? b=some o->H b=none->b∈fs->b∉ex->∃sl,h'.get? b=some { o with slots:=sl }
 free:∀b o,h.get? b=some o->H b=none->b∉ex->H' b=none
 there:∀b o,h.get? b=some o->b∉ex->∃o',h'.get? b=some o'
 n_:∀b xs,H b=some (.tup xs)->H' b=some (.tup xs)
 lI:∀b o u,H b=some (.gP o u)->H' b=some (.gP o u)
 mK:∀b ps,H b=some (.eO ps)->∃more,H' b=some (.eO (ps++more))
section
variable{fs Ox ex ex':List Addr}{H H1 H2:Hp}{h h1 h2 h':Heap}{a x e:Addr}{o:HO}
theorem Un.any(u:Un fs ex H H1 h h1){b:Addr}{ob:Obj}(q:h.get? b=some ob)(n:H b=none)(hx:b∉ex):∃sl,h1.get? b=some { ob with slots:=sl }:=by
 by_cases hb:b∈fs
 ·exact u.slot b ob q n hb hx
 ·exact⟨ob.slots,u.keep b ob q n hb hx⟩
theorem Un.kept(k:∀b u,h.get? b=some u->h'.get? b=some u):Un fs ex H H h h' :=
 ⟨λb ob q _ _ _=>k b ob q,λb ob q _ _ _=>⟨ob.slots,k b ob q⟩,λ_ _ _ n _=>n,λb ob q _=>⟨ob,k b ob q⟩,λ_ _ q=>q,λ_ _ _ q=>q,λ_ ps q=>⟨#[],by rw[q];simp⟩⟩
theorem Un.refl:Un fs ex H H h h:=Un.kept λ_ _ q=>q
theorem Un.laid(k:∀b u,h.get? b=some u->h'.get? b=some u)(hp:h.objs.size<=a)(hn:H a=none):Un fs ex H (upd H a o) h h' where
 keep:=λb u q _ _ _=>k b u q
 slot:=λb u q _ _ _=>⟨u.slots,k b u q⟩
 free:=λb u q n _=>by rw[aI (Nat.ne_of_lt (Nat.lt_of_lt_of_le (Heap.lt_size q) hp))];exact n
 there:=λb u q _=>⟨u,k b u q⟩
 n_:=λb xs q=>by rw[aI (bO q hn)];exact q
 lI:=λb u xs q=>by rw[aI (bO q hn)];exact q
 mK:=λb ps q=>⟨#[],by rw[aI (bO q hn),q];simp⟩
theorem Un.write(mu:uF (H x))(he:e=x\/H e=some (.own x))(k:∀b u,b≠e->h.get? b=some u->h'.get? b=some u)(rC:∃u,h'.get? e=some u):Un fs ex H (upd H x o) h h':=by
 have hx:∀b,H b=none->b≠x:=λb n z=>by subst z;rw[n] at mu;exact mu
 have hb:∀b,H b=none->b≠e:=λb n z=>by
  subst z;rcases he with r | r
  ·exact hx b n r
  ·rw[n] at r;cases r
 have hm:∀b u,H b=some u->¬ uF (some u)->b≠x:=λb u q nm z=>by subst z;rw[q] at mu;exact nm mu
 refine⟨λb u q n _ _=>k b u (hb b n) q,λb u q n _ _=>⟨u.slots,k b u (hb b n) q⟩,λb u q n _=>by rw[aI (hx b n)];exact n,λb u q _=>?_,
  λb xs q=>by rw[aI (hm b _ q λz=>z)];exact q,λb u xs q=>by rw[aI (hm b _ q λz=>z)];exact q,λb ps q=>⟨#[],by rw[aI (hm b _ q λz=>z),q];simp⟩⟩
 by_cases pX:b=e
 ·subst pX;exact rC
 ·exact⟨u,k b u pX q⟩
end
noncomputable def yY(h:Heap)(H:Hp):List Addr:=(List.range h.objs.size).filter λa=>(H a).isSome
noncomputable def ig(h:Heap)(H:Hp):Heap:=PySem.W.hideAll h (yY h H)
theorem Oz(h:Heap)(H:Hp):(ig h H).objs.size=h.objs.size:=PySem.W.hideAll_size _ _
theorem OA{h:Heap}{H:Hp}{b:Addr}{o:Obj}(e:h.get? b=some o)(n:H b=none):(ig h H).get? b=some o :=
 PySem.W.hideAll_get _ e λhm=>by
  have q:(H b).isSome=true:=(List.mem_filter.mp hm).2;rw[n] at q;simp at q
theorem OB{h:Heap}{H:Hp}{b:Addr}{o:Obj}(e:(ig h H).get? b=some o):h.get? b=some o/\H b=none:=by
 have e':h.get? b=some o:=PySem.W.of_hideAll (yY h H) e;refine⟨e',?_⟩;cases q:H b with
 | none=>rfl
 | some x =>
  have hm:b∈yY h H:=List.mem_filter.mpr ⟨List.mem_range.mpr (Heap.lt_size e'),by simp[q]⟩
  have z:(ig h H).get? b=none:=PySem.W.hideAll_none (yY h H) hm;rw[z] at e;cases e
noncomputable def uG(g h:Heap)(L:Addr):List (Addr×Obj):=(List.range h.objs.size).filterMap λa=>if a=L\/(g.get? a).isSome=true then none else(h.get? a).map λo=>(a,o)
theorem Fg{g h:Heap}{L a:Addr}{o:Obj}(h1:a≠L)(h2:g.get? a=none)(h3:h.get? a=some o):(a,o)∈uG g h L :=
 List.mem_filterMap.mpr ⟨a,List.mem_range.mpr (Heap.lt_size h3),by simp[h1,h2,h3]⟩
theorem ZN{g h:Heap}{L:Addr}{p:Addr×Obj}(hp:p∈uG g h L):p.1≠L/\g.get? p.1=none/\h.get? p.1=some p.2:=by
 obtain⟨b,_,e⟩:=List.mem_filterMap.mp hp;split at e
 ·cases e
 ·rename_i hn;cases q:h.get? b with
  | none=>rw[q] at e;simp at e
  | some u =>
   rw[q] at e;simp only[Option.map_some,Option.some.injEq] at e;subst e;refine⟨λz=>hn (.inl z),?_,q⟩
   show g.get? b=none;cases r:g.get? b with
   | none=>rfl
   | some v=>exact(hn (.inr (by simp[r]))).elim
noncomputable def rest(g h:Heap)(L d:Addr):List (Addr×Obj):=(uG g h L).filter λp=>decide (p.1≠d)
theorem yZ{g h:Heap}{L d:Addr}:∀p∈rest g h L d,p.1≠d:=λp hp=>of_decide_eq_true (List.mem_filter.mp hp).2
theorem ZO{g h:Heap}{L d a:Addr}{o:Obj}(h1:a≠L)(h2:g.get? a=none)(h3:h.get? a=some o)(h4:a≠d):(a,o)∈rest g h L d :=
 List.mem_filter.mpr ⟨Fg h1 h2 h3,decide_eq_true h4⟩
theorem y9{g h:Heap}{L:Addr}:News g L h (uG g h L):=λp hp=>let ⟨a,b,c⟩:=ZN hp;⟨c,a,b⟩
theorem news_at{g h:Heap}{L d:Addr}{o:Obj}(h1:d≠L)(h2:g.get? d=none)(h3:h.get? d=some o):News g L h ((d,o)::rest g h L d):=λp hp=>by
 rcases List.mem_cons.mp hp with rfl | hp
 ·exact⟨h3,h1,h2⟩
 ·exact y9 p (List.mem_filter.mp hp).1
theorem y_{g h h':Heap}{L d:Addr}{m:Str->Option Value}(k:∀b o,g.get? b=some o->h.get? b=some o)(F:Fr g L h' m)(N:News g L h' (rest g h L d)) :
  ∀b o,b≠L->b≠d->h.get? b=some o->h'.get? b=some o:=λb o h1 h2 e=>by
 cases q:g.get? b with
 | some u =>
  have:=k b u q;rw[e] at this;cases this;exact F.keep b _ q
 | none=>exact(N (b,o) (ZO h1 q e h2)).1
structure Mod(K:PySem.W.Frag)(mg:Str->Option Value)(base:Heap):Prop where
 rD:K.In base
 glob:base.Ns mainGlobals mg
 blt:∃mb,base.Ns builtinsNs mb/\∀x:Str,x≠"__name__"->mb x=bootBuiltins x
 nolimit:base.NoLimit
structure Cx where
 prog:Program
 w:World
 K:PySem.W.Frag
 mg:Str->Option Value
 base:Heap
 A:Around
 N:List Str
 dw:Shared
 pY:Hp
 env:Env
 outer:List Env
 stack:List Env
 ex:List Addr
 fn:Str->Bool
 calm:Bool
 pn:List (Addr×Obj)
 xe:Value->Shared->Prop
noncomputable def gc(l:List Env):List Addr:=l.filterMap (·.frame)
noncomputable abbrev Cx.fs(X:Cx):List Addr:=gc X.outer
noncomputable def zb(sc:Scope)(x:Str):Prop:=sc.names.lookup x=some .local\/sc.names.lookup x=some .cell\/sc.names.lookup x=some .free
noncomputable def Loc(sc:Scope)(x:Str):Prop:=sc.names.lookup x=some .local\/sc.names.lookup x=some .cell
noncomputable def Look(env:Env)(h:Heap)(m:Str->Option Value)(x:Str)(u:Value):Prop :=
 (env.kindOf x=some .local/\m x=some u)\/((env.kindOf x=some .cell\/env.kindOf x=some .free)/\∃c,env.cells.lookup x=some c/\h.IsCell c (some u))
structure Cx.Ok(X:Cx):Prop where
 mod:Mod X.K X.mg X.base
 kind:X.env.scope.kind = .function
 glob:X.env.globals=mainGlobals
 blt:X.env.builtins=builtinsNs
 above:X.dw.heap.objs.size<=X.env.locals
 inj:∀x y c,X.env.cells.lookup x=some c->X.env.cells.lookup y=some c->x=y
 has:∀x,(X.env.kindOf x=some .cell\/X.env.kindOf x=some .free)->∃c,X.env.cells.lookup x=some c
 rE:∀x c,X.fn x=true->X.env.cells.lookup x=some c->X.dw.heap.objs.size<=c
 hd:X.calm=true->X.A.handled=none
 frames:X.A.frames=some X.stack
 uH:X.stack=X.outer\/(X.stack=X.env::X.outer/\X.env.frame=some X.env.locals)
 uI:∀b∈X.ex,b≠X.env.locals/\∀x c,X.env.cells.lookup x=some c->c≠b
 bs:∀b o,X.base.get? b=some o->X.dw.heap.get? b=some o/\X.pY b=none
 gB:X.base.objs.size<=X.dw.heap.objs.size
 rF:∀b o,X.base.get? b=some o->b∉X.ex
 rG:∀b∈X.ex,b∉X.fs
 jf:X.dw.heap.FunFrames X.base X.outer
 oh:∀b∈X.fs,X.pY b=none
structure Inv(X:Cx)(pins:List (Addr×Obj))(σ:List (Option V))(H:Hp)(s:Shared):Prop where
 ok:X.Ok
 os:s.os=X.dw.os
 bare:AllBare s.gens
 base:Un X.fs X.ex X.pY H X.dw.heap s.heap
 loc:∃m,s.heap.Ns X.env.locals m/\∀(i:Nat) (x:Str) (v:V),X.N[i]? = some x->σ[i]? = some (some v)->zb X.env.scope x->∃u,RelV v u/\Look X.env s.heap m x u
 cell:∀x c,X.env.cells.lookup x=some c->∃v,s.heap.IsCell c v
 free:H X.env.locals=none
 ki:∀x c,X.env.cells.lookup x=some c->H c=none
 pin:∀p∈X.pn++pins,s.heap.get? p.1=some p.2/\H p.1=none/\p.1≠X.env.locals/\p.1∉X.fs/\∀v,p.2.data≠.cell v
 aM:cU X.prog X.w H s.heap
 len:σ.length=X.N.length
section
variable{X:Cx}{pins:List (Addr×Obj)}{σ:List (Option V)}{H H':Hp}{s:Shared}{h':Heap}
theorem Cx.Ok.ZQ(ok:X.Ok){b:Addr}{o:Obj}(e:X.base.get? b=some o):b∉X.fs:=λhb=>by
 have:=(ok.jf.mem hb).1;rw[e] at this;cases this
theorem Inv.bs(I:Inv X pins σ H s):∀b o,X.base.get? b=some o->s.heap.get? b=some o/\H b=none:=λb o e =>
 ⟨I.base.keep b o (I.ok.bs b o e).1 (I.ok.bs b o e).2 (I.ok.ZQ e) (I.ok.rF b o e),I.base.free b o (I.ok.bs b o e).1 (I.ok.bs b o e).2 (I.ok.rF b o e)⟩
theorem Inv.bk(I:Inv X pins σ H s):∀b o,X.base.get? b=some o->s.heap.get? b=some o:=λb o e=>(I.bs b o e).1
theorem Inv.mod(I:Inv X pins σ H s):Mod X.K X.mg X.base:=I.ok.mod
theorem Inv.dJ(I:Inv X pins σ H s):X.K.In s.heap:=I.ok.mod.rD.keeps I.bk
theorem Inv.nolimit(I:Inv X pins σ H s):s.heap.NoLimit:=I.ok.mod.nolimit.keeps I.bk
theorem Inv.fr(I:Inv X pins σ H s):∃m,Fr X.base X.env.locals s.heap m :=
 let ⟨m,hn,_⟩:=I.loc
 ⟨m,hn,I.bk,Nat.le_trans I.ok.gB I.ok.above⟩
theorem Inv.lt(I:Inv X pins σ H s):X.env.locals<s.heap.objs.size:=let ⟨_,hn,_⟩:=I.loc;hn.lt
theorem Inv.sz(I:Inv X pins σ H s):X.dw.heap.objs.size<=s.heap.objs.size:=Nat.le_trans I.ok.above (Nat.le_of_lt I.lt)
theorem Inv.uJ(I:Inv X pins σ H s){a:Addr}(h:s.heap.objs.size<=a):a∉X.fs:=λhb=>by
 obtain⟨_,o,ho,_⟩:=I.ok.jf.mem hb;exact absurd (Nat.lt_of_lt_of_le (Heap.lt_size ho) (Nat.le_trans I.sz h)) (Nat.lt_irrefl _)
theorem Inv.pZ(I:Inv X pins σ H s):∀x c,X.env.cells.lookup x=some c->c≠X.env.locals:=λx c e z=>by
 obtain⟨v,o,ho,hd⟩:=I.cell x c e;obtain⟨m,⟨o',es,ep,iu,eF,_⟩,_⟩:=I.loc;rw[z,iu] at ho;cases ho;rw[eF] at hd;cases hd
theorem Inv.jf(I:Inv X pins σ H s):s.heap.FunFrames X.base X.outer:=by
 have all:∀(l:List Env),(∀b∈gc l,b∈X.fs)->X.dw.heap.FunFrames X.base l->s.heap.FunFrames X.base l:=by
  intro l
  induction l with
  | nil=>intro _ _;trivial
  | cons env r ih =>
   intro hs hl;obtain⟨hk,⟨L,o,hf,hn,ho,hd⟩,hr⟩:=hl;have hL:L∈X.fs:=hs L (by unfold gc;rw[List.filterMap_cons,hf];exact List.mem_cons_self)
   obtain⟨sl,e⟩:=I.base.slot L o ho (I.ok.oh L hL) hL λz=>I.ok.rG L z hL;exact⟨hk,⟨L,_,hf,hn,e,hd⟩,ih (λb hb=>hs b (by unfold gc;rw[List.filterMap_cons,hf];exact List.mem_cons_of_mem _ hb)) hr⟩
 exact all X.outer (λ_ hb=>hb) I.ok.jf
theorem Inv.stack(I:Inv X pins σ H s):s.heap.FunFrames X.base X.stack:=by
 rcases I.ok.uH with e | ⟨e,hf⟩
 ·rw[e];exact I.jf
 ·rw[e];obtain⟨m,hn,_⟩:=I.loc;refine .cons (by rw[I.ok.kind];decide) hf hn ?_ I.jf
  exact Heap.get?_none_of_le (Nat.le_trans I.ok.gB I.ok.above)
theorem Inv.Fi(I:Inv X pins σ H s):∀b∈gc X.stack,b∈X.env.locals::X.fs:=λb hb=>by
 rcases I.ok.uH with e | ⟨e,hf⟩
 ·rw[e] at hb;exact List.mem_cons_of_mem _ hb
 ·rw[e] at hb;unfold gc at hb;rw[List.filterMap_cons,hf] at hb;exact hb
theorem Inv.Fj(I:Inv X pins σ H s):∀b∈gc X.stack,H b=none:=λb hb=>by
 rcases List.mem_cons.mp (I.Fi b hb) with e | hb
 ·rw[e];exact I.free
 ·obtain⟨_,o,ho,_⟩:=I.ok.jf.mem hb;exact I.base.free b o ho (I.ok.oh b hb) λz=>I.ok.rG b z hb
theorem Inv.step{g':Array GenState}{t':Nat}{d':Drawn}{ch:List Addr}(I:Inv X pins σ H s)
  (kj:∀b∈ch,(b∈X.ex\/X.dw.heap.objs.size<=b)/\b≠X.env.locals/\(∀x c,X.env.cells.lookup x=some c->c≠b)/\∀p∈X.pn++pins,p.1≠b)
  (keep:∀b o,b≠X.env.locals->b∉X.fs->b∉ch->s.heap.get? b=some o->H b=none->h'.get? b=some o)
  (slot:∀b o,b≠X.env.locals->b∈X.fs->b∉ch->s.heap.get? b=some o->H b=none->∃sl,h'.get? b=some { o with slots:=sl }) (free:∀b o,b∉ch->s.heap.get? b=some o->H b=none->H' b=none)
  (there:∀b o,b∉ch->s.heap.get? b=some o->∃o',h'.get? b=some o')
  (n_:∀b xs,H b=some (.tup xs)->H' b=some (.tup xs)) (lI:∀b o u,H b=some (.gP o u)->H' b=some (.gP o u)) (mK:∀b ps,H b=some (.eO ps)->∃more,H' b=some (.eO (ps++more)))
  (ns:∀m,s.heap.Ns X.env.locals m->h'.Ns X.env.locals m) (aM:cU X.prog X.w H' h') (hg:AllBare g') :
  Inv X pins σ H' { s with heap:=h',gens:=g',drawn:=d',toks:=t' }:=by
 have OC:∀b o,X.dw.heap.get? b=some o->b≠X.env.locals:=λb o e=>Nat.ne_of_lt (Nat.lt_of_lt_of_le (Heap.lt_size e) I.ok.above);have zd:∀b o,X.dw.heap.get? b=some o->b∉X.ex->b∉ch:=λb o e hx hb=>by
  rcases(kj b hb).1 with z | z
  ·exact hx z
  ·exact absurd (Nat.lt_of_lt_of_le (Heap.lt_size e) z) (Nat.lt_irrefl _)
 have cellK:∀x c,X.env.cells.lookup x=some c->∀v,s.heap.IsCell c v->h'.IsCell c v:=λx c e v ⟨o,ho,hd⟩=>by
  have uK:c∉ch:=λz=>(kj c z).2.2.1 x c e rfl;by_cases hc:c∈X.fs
  ·obtain⟨sl,q⟩:=slot c o (I.pZ x c e) hc uK ho (I.ki x c e);exact⟨_,q,hd⟩
  ·exact⟨o,keep c o (I.pZ x c e) hc uK ho (I.ki x c e),hd⟩
 refine⟨I.ok,I.os,hg,⟨λb o e n hb hx=>?_,λb o e n hb hx=>?_,λb o e n hx=>?_,λb o e hx=>?_,λb xs e=>n_ b xs (I.base.n_ b xs e),λb o xs e=>lI b o xs (I.base.lI b o xs e),λb ps e=>?_⟩,?_,λx c e=>?_,?_,λx c e=>?_,λp hp=>?_,aM,I.len⟩
 ·exact keep b o (OC b o e) hb (zd b o e hx) (I.base.keep b o e n hb hx) (I.base.free b o e n hx)
 ·obtain⟨sl,e1⟩:=I.base.slot b o e n hb hx;obtain⟨ZR,e2⟩:=slot b _ (OC b o e) hb (zd b o e hx) e1 (I.base.free b o e n hx);exact⟨ZR,e2⟩
 ·obtain⟨o',e1⟩:=I.base.there b o e hx;exact free b o' (zd b o e hx) e1 (I.base.free b o e n hx)
 ·obtain⟨o',e1⟩:=I.base.there b o e hx;exact there b o' (zd b o e hx) e1
 ·obtain⟨m1,e1⟩:=I.base.mK b ps e;obtain⟨m2,e2⟩:=mK b _ e1;exact⟨m1++m2,by rw[e2,Array.append_assoc]⟩
 ·obtain⟨m,hn,hl⟩:=I.loc;refine⟨m,ns m hn,λi x v e1 e2 e3=>?_⟩;obtain⟨u,r,l⟩:=hl i x v e1 e2 e3;refine⟨u,r,?_⟩;rcases l with l | ⟨k,c,e,z⟩
  ·exact .inl l
  ·exact .inr ⟨k,c,e,cellK x c e _ z⟩
 ·obtain⟨v,z⟩:=I.cell x c e;exact⟨v,cellK x c e v z⟩
 ·obtain⟨m,⟨o,_,_,ho,_⟩,_⟩:=I.loc;exact free _ o (λz=>(kj _ z).2.1 rfl) ho I.free
 ·obtain⟨v,o,ho,hd⟩:=I.cell x c e;exact free c o (λz=>(kj c z).2.2.1 x c e rfl) ho (I.ki x c e)
 ·obtain⟨e,n,ne,nf,d⟩:=I.pin p hp;have uK:p.1∉ch:=λz=>(kj p.1 z).2.2.2 p hp rfl;exact⟨keep p.1 p.2 ne nf uK e n,free p.1 p.2 uK e n,ne,nf,d⟩
theorem Inv.un{t':Nat}(I:Inv X pins σ H s)(u:Un X.fs [] H H' s.heap h')(aM:cU X.prog X.w H' h'):Inv X pins σ H' { s with heap:=h',toks:=t' }:=by
 obtain⟨m,⟨o,es,ep,ho,r⟩,_⟩:=id I.loc;obtain⟨sl,hL⟩:=u.any ho I.free (by simp)
 exact I.step (g':=s.gens) (d':=s.drawn) (ch:=[]) (λ_ z=>nomatch z) (λb o _ hb _ e n=>u.keep b o e n hb (by simp)) (λb o _ hb _ e n=>u.slot b o e n hb (by simp)) (λb o _ e n=>u.free b o e n (by simp)) (λb o _ e=>u.there b o e (by simp)) u.n_ u.lI u.mK (λm' hm=>by
  obtain⟨o',kq,mL,iu,r'⟩:=hm;rw[ho] at iu;cases iu;exact⟨_,kq,mL,hL,r'⟩) aM I.bare
theorem Inv.call{g':Array GenState}{t':Nat}{d':Drawn}{ch:List Addr}(I:Inv X pins σ H s)(u:Un (gc X.stack) ch H H' s.heap h')(aM:cU X.prog X.w H' h')(hg:AllBare g')
  (kj:∀b∈ch,(b∈X.ex\/X.dw.heap.objs.size<=b)/\b≠X.env.locals/\(∀x c,X.env.cells.lookup x=some c->c≠b)/\∀p∈X.pn++pins,p.1≠b) :
  Inv X pins σ H' { s with heap:=h',gens:=g',drawn:=d',toks:=t' }:=by
 obtain⟨m,⟨o,es,ep,ho,r⟩,_⟩:=id I.loc;obtain⟨sl,hL⟩:=u.any ho I.free λz=>(kj _ z).2.1 rfl;exact I.step (ch:=ch) kj (λb o hL hb hc e n=>u.keep b o e n (λz=>(List.mem_cons.mp (I.Fi b z)).elim hL hb) hc) (λb o _ _ hc e n=>u.any e n hc) (λb o hc e n=>u.free b o e n hc) (λb o hc e=>u.there b o e hc) u.n_ u.lI u.mK (λm' hm=>by
  obtain⟨o',kq,mL,iu,r'⟩:=hm;rw[ho] at iu;cases iu;exact⟨_,kq,mL,hL,r'⟩) aM hg
theorem Inv.turned{t':Nat}{it:Addr}(I:Inv X pins σ H s)(k:∀b o,b≠it->s.heap.get? b=some o->h'.get? b=some o)(hn:H it=none)(hL:it≠X.env.locals)
  (h1:it∈X.ex\/X.dw.heap.objs.size<=it) (h2:∀x c,X.env.cells.lookup x=some c->c≠it) (h3:∀p∈X.pn++pins,p.1≠it):Inv X pins σ H { s with heap:=h',toks:=t' }:=by
 have uL:∀b u,H b=some u->b≠it:=λb u e z=>by rw[z,hn] at e;cases e
 refine I.step (g':=s.gens) (d':=s.drawn) (ch:=[it]) (λb hb=>?_) (λb o _ _ hc e _=>k b o (λz=>hc (by simp[z])) e) (λb o _ _ hc e _=>⟨o.slots,k b o (λz=>hc (by simp[z])) e⟩) (λ_ _ _ _ n=>n)
  (λb o hc e=>⟨o,k b o (λz=>hc (by simp[z])) e⟩) (λ_ _ e=>e) (λ_ _ _ e=>e) (λb ps e=>⟨#[],by rw[e];simp⟩) (λm hm=>?_) (λb u e=>?_) I.bare
 ·have e:b=it:=by simpa using hb
  subst e;exact⟨h1,hL,h2,h3⟩
 ·obtain⟨o,es,ep,ho,r⟩:=hm;exact⟨o,es,ep,k _ o (Ne.symm hL) ho,r⟩
 ·refine(I.aM b u e).kh (λc v hc q=>k c v ?_ q) (λ_ q=>q) λ_ _ q=>q;rcases hc with z | z
  ·rw[z];exact uL b u e
  ·exact uL c _ z
theorem Inv.tok(I:Inv X pins σ H s)(t:Nat):Inv X pins σ H { s with toks:=t }:=I.un (h':=s.heap) (t':=t) Un.refl I.aM
theorem Inv.kept{t':Nat}(I:Inv X pins σ H s)(k:∀b u,s.heap.get? b=some u->h'.get? b=some u):Inv X pins σ H { s with heap:=h',toks:=t' }:=I.un (Un.kept k) (I.aM.kept k)
theorem Inv.laid{a:Addr}{o:HO}{t':Nat}(I:Inv X pins σ H s)(k:∀b u,s.heap.get? b=some u->h'.get? b=some u)(hp:s.heap.objs.size<=a)(new:dB X.prog X.w (upd H a o) h' a o) :
  Inv X pins σ (upd H a o) { s with heap:=h',toks:=t' }:=I.un (Un.laid k hp (I.aM.fresh hp)) (I.aM.laid k hp new)
theorem Inv.write{x e:Addr}{o:HO}{t':Nat}(I:Inv X pins σ H s)(mu:uF (H x))(he:e=x\/H e=some (.own x))(k:∀b u,b≠e->s.heap.get? b=some u->h'.get? b=some u)(rC:∃u,h'.get? e=some u)
  (new:dB X.prog X.w (upd H x o) h' x o):Inv X pins σ (upd H x o) { s with heap:=h',toks:=t' }:=I.un (Un.write mu he k rC) (I.aM.write mu he k rC new)
theorem Inv.lJ{Fl:List (Addr×Obj)}(I:Inv X pins σ H s)(h:∀p∈Fl,s.heap.get? p.1=some p.2/\H p.1=none/\p.1≠X.env.locals/\p.1∉X.fs/\∀v,p.2.data≠.cell v):Inv X Fl σ H s :=
 ⟨I.ok,I.os,I.bare,I.base,I.loc,I.cell,I.free,I.ki,λp hp=>(List.mem_append.mp hp).elim (λz=>I.pin p (List.mem_append_left _ z)) (h p),I.aM,I.len⟩
theorem OD{N:List Str}(hN:N.Nodup){i j:Nat}{x:Str}(a:N[i]? = some x)(b:N[j]? = some x):i=j:=by
 obtain⟨h1,e1⟩:=List.getElem?_eq_some_iff.mp a;obtain⟨h2,e2⟩:=List.getElem?_eq_some_iff.mp b;exact(List.getElem_inj hN).mp (e1.trans e2.symm)
theorem OE{M:Model}{A:Around}{E:Value->Shared->Prop}{i:Nat}{x:Str}{v:V}{u:Value}{Q:Unit->Shared->Prop}(I:Inv X pins σ H s)(hN:X.N.Nodup)(hi:X.N[i]? = some x)(hx:Loc X.env.scope x)(r:RelV v u)
  (h:∀s',Inv X pins (σ.set i (some v)) H s'->(∃a,Heap.SameBut a s.heap s'.heap/\(a=X.env.locals\/X.env.cells.lookup x=some a))->Q () s') (hf:X.fn x=true\/X.env.scope.names.lookup x=some .local:=by first | exact .inl rfl | exact .inr rfl | assumption):wpAny M A (storeName X.env x u) Q E s:=by
 obtain⟨m,hn,hl⟩:=id I.loc;have ZS:(X.env.scope.kind == .class || (X.env.scope.kind == .module && X.env.locals != X.env.globals))=false:=by rw[I.ok.kind];rfl
 have OF:i<σ.length:=by rw[I.len];exact(List.getElem?_eq_some_iff.mp hi).1
 have pZ:=I.pZ;have tracked:∀ {a:Addr} {h':Heap},(∃o,s.heap.get? a=some o/\H a=none)->Heap.SameBut a s.heap h'->cU X.prog X.w H h':=λ{a h'} ha hs b ob e=>by
  obtain⟨_,_,OG⟩:=ha;refine(I.aM b ob e).kh (λc w' hc q=>(hs.2 c ?_).trans q) (λ_ q=>q) λ_ _ q=>q;rintro rfl;rcases hc with rfl | hc
  ·rw[OG] at e;cases e
  ·rw[OG] at hc;cases hc
 rcases hx with hk | hk
 ·refine wpAny_storeName_local hk hn (λh' OH hs=>?_) ZS;obtain⟨oL,_,_,ZT,_⟩:=id hn;refine h _ ⟨I.ok,I.os,I.bare,⟨λb o e n hb hx=>?_,λb o e n hb hx=>?_,I.base.free,λb o e hx=>?_,I.base.n_,I.base.lI,I.base.mK⟩,⟨_,OH,λj y v' e1 e2 e3=>?_⟩,λy c e=>?_,I.free,I.ki,λp hp=>?_,tracked ⟨oL,ZT,I.free⟩ hs,by simpa using I.len⟩ ⟨_,hs,.inl rfl⟩
  ·exact(hs.2 b (Nat.ne_of_lt (Nat.lt_of_lt_of_le (Heap.lt_size e) I.ok.above))).trans (I.base.keep b o e n hb hx)
  ·obtain⟨sl,e1⟩:=I.base.slot b o e n hb hx;exact⟨sl,(hs.2 b (Nat.ne_of_lt (Nat.lt_of_lt_of_le (Heap.lt_size e) I.ok.above))).trans e1⟩
  ·obtain⟨o',e1⟩:=I.base.there b o e hx;exact⟨o',(hs.2 b (Nat.ne_of_lt (Nat.lt_of_lt_of_le (Heap.lt_size e) I.ok.above))).trans e1⟩
  ·by_cases hj:j=i
   ·subst hj;rw[hi] at e1;cases e1;rw[List.getElem?_set_self OF] at e2;cases e2;exact⟨u,r,.inl ⟨hk,by simp⟩⟩
   ·rw[List.getElem?_set_ne (Ne.symm hj)] at e2;obtain⟨u',r',q⟩:=hl j y v' e1 e2 e3;refine⟨u',r',?_⟩;rcases q with⟨k,e⟩ | ⟨k,c,e,z⟩
    ·refine .inl ⟨k,?_⟩;have:y≠x:=λe=>hj (OD hN e1 (e▸hi));simp[this,e]
    ·exact .inr ⟨k,c,e,z.sameBut hs (pZ y c e)⟩
  ·obtain⟨w',z⟩:=I.cell y c e;exact⟨w',z.sameBut hs (pZ y c e)⟩
  ·obtain⟨e,n,ne,nf,d⟩:=I.pin p hp;exact⟨(hs.2 p.1 ne).trans e,n,ne,nf,d⟩
 ·have Fo:X.fn x=true:=by
   rcases hf with z | z
   ·exact z
   ·rw[z] at hk;cases hk
  obtain⟨c,hc⟩:=I.ok.has x (.inl hk);obtain⟨w',z⟩:=I.cell x c hc;refine wpAny_storeName_cell I.ok.kind hk hc z (λh' OI hs=>?_);obtain⟨oc,OJ,ZU⟩:=id z;refine h { s with heap:=h' } ⟨I.ok,I.os,I.bare,⟨λb o e n hb hx=>?_,λb o e n hb hx=>?_,I.base.free,λb o e hx=>?_,I.base.n_,I.base.lI,I.base.mK⟩,⟨m,hn.sameBut hs (Ne.symm (pZ x c hc)),λj y v' e1 e2 e3=>?_⟩,λy c' e=>?_,I.free,I.ki,λp hp=>?_,tracked ⟨oc,OJ,I.ki x c hc⟩ hs,by simpa using I.len⟩ ⟨c,hs,.inr hc⟩
  ·exact(hs.2 b (Nat.ne_of_lt (Nat.lt_of_lt_of_le (Heap.lt_size e) (I.ok.rE x c Fo hc)))).trans (I.base.keep b o e n hb hx)
  ·obtain⟨sl,e1⟩:=I.base.slot b o e n hb hx;exact⟨sl,(hs.2 b (Nat.ne_of_lt (Nat.lt_of_lt_of_le (Heap.lt_size e) (I.ok.rE x c Fo hc)))).trans e1⟩
  ·obtain⟨o',e1⟩:=I.base.there b o e hx;exact⟨o',(hs.2 b (Nat.ne_of_lt (Nat.lt_of_lt_of_le (Heap.lt_size e) (I.ok.rE x c Fo hc)))).trans e1⟩
  ·by_cases hj:j=i
   ·subst hj;rw[hi] at e1;cases e1;rw[List.getElem?_set_self OF] at e2;cases e2;exact⟨u,r,.inr ⟨.inl hk,c,hc,OI⟩⟩
   ·rw[List.getElem?_set_ne (Ne.symm hj)] at e2;obtain⟨u',r',q⟩:=hl j y v' e1 e2 e3;refine⟨u',r',?_⟩;rcases q with q | ⟨k,c',e,z'⟩
    ·exact .inl q
    ·refine .inr ⟨k,c',e,z'.sameBut hs ?_⟩;rintro rfl;exact hj (OD hN e1 (I.ok.inj _ _ _ e hc▸hi))
  ·by_cases ze:c' = c
   ·subst ze;exact⟨_,OI⟩
   ·obtain⟨w2,z2⟩:=I.cell y c' e;exact⟨w2,z2.sameBut hs ze⟩
  ·obtain⟨e,n,ne,nf,d⟩:=I.pin p hp;refine⟨(hs.2 p.1 ?_).trans e,n,ne,nf,d⟩;intro q;rw[q,OJ] at e;have q':oc=p.2:=Option.some.inj e;exact d w' (by rw[← q'];exact ZU)
theorem OL{M:Model}{A:Around}{E:Value->Shared->Prop}{i:Nat}{x:Str}{v:V}{u:Value}{Q:Unit->Shared->Prop}(I:Inv X pins σ H s)(hN:X.N.Nodup)(hi:X.N[i]? = some x)(hx:Loc X.env.scope x)(r:RelV v u)
  (h:∀s',Inv X pins (σ.set i (some v)) H s'->Q () s') (hf:X.fn x=true\/X.env.scope.names.lookup x=some .local:=by first | exact .inl rfl | exact .inr rfl | assumption):wpAny M A (storeName X.env x u) Q E s :=
 OE I hN hi hx r (λs' I' _=>h s' I') hf
theorem Inv.OM{s':Shared}{ch:List Addr}(I:Inv X pins σ H s)(ho:s'.os=s.os)(u:Un (gc X.stack) ch H H' s.heap s'.heap)(aM:cU X.prog X.w H' s'.heap)(hg:AllBare s'.gens)
  (kj:∀b∈ch,(b∈X.ex\/X.dw.heap.objs.size<=b)/\b≠X.env.locals/\(∀x c,X.env.cells.lookup x=some c->c≠b)/\∀p∈X.pn++pins,p.1≠b):Inv X pins σ H' s':=by
 obtain⟨h',g',d',t',o'⟩:=s';have e:o' = s.os:=ho;subst e;exact I.call (g':=g') (t':=t') (d':=d') u aM hg kj
end
noncomputable abbrev XK:=Value->Option Addr->Hp->Prop
noncomputable abbrev St:=List (Option V)
noncomputable abbrev VK:=V->Hp->Prop
noncomputable abbrev TE:=St->Hp->VK->Prop
noncomputable abbrev TT:=St->Hp->(Bool->Hp->Prop)->Prop
noncomputable abbrev TA:=St->Hp->(List V->Hp->Prop)->Prop
structure Ends where
 nx:St->Hp->Prop
 rt:VK
 bk:St->Hp->Prop:=λ_ _=>False
 ct:St->Hp->Prop:=λ_ _=>False
noncomputable abbrev TS:=Ends->St->Hp->Prop
noncomputable def EP(X:Cx)(pins:List (Addr×Obj))(σ:St)(Q:VK)(u:Value)(s':Shared):Prop:=∃v H',Inv X pins σ H' s'/\RelV v u/\Q v H'
noncomputable def TP(X:Cx)(pins:List (Addr×Obj))(σ:St)(Q:Bool->Hp->Prop)(b:Bool)(s':Shared):Prop:=∃H',Inv X pins σ H' s'/\Q b H'
noncomputable def AP(X:Cx)(pins:List (Addr×Obj))(σ:St)(Q:List V->Hp->Prop)(us:List Value)(s':Shared):Prop:=∃vs H',Inv X pins σ H' s'/\Vals vs us/\Q vs H'
noncomputable def SP(X:Cx)(pins:List (Addr×Obj))(D:Ends)(f:Flow)(s':Shared):Prop :=
 match f with
 | .next=>∃bE H',Inv X pins bE H' s'/\D.nx bE H'
 | .brk=>∃bE H',Inv X pins bE H' s'/\D.bk bE H'
 | .cont=>∃bE H',Inv X pins bE H' s'/\D.ct bE H'
 | .ret u=>∃v bE H',Inv X pins bE H' s'/\RelV v u/\D.rt v H'
noncomputable def PE(X:Cx)(e:Expr)(t:TE):Prop :=
 ∀(pins:List (Addr×Obj)) (s:Shared) (σ:St) (H:Hp) (Q:VK),Inv X pins σ H s->t σ H Q->wpAny (model X.prog X.w) X.A (eval e X.env) (EP X pins σ Q) X.xe s
noncomputable def PT(X:Cx)(e:Expr)(t:TT):Prop :=
 ∀(pins:List (Addr×Obj)) (s:Shared) (σ:St) (H:Hp) (Q:Bool->Hp->Prop),Inv X pins σ H s->t σ H Q->wpAny (model X.prog X.w) X.A (isTrue e X.env (eval e X.env)) (TP X pins σ Q) X.xe s
noncomputable def PW(X:Cx)(e:Expr)(t:TT):Prop :=
 ∀(whole:Sem Value) (pins:List (Addr×Obj)) (s:Shared) (σ:St) (H:Hp) (Q:Bool->Hp->Prop),Inv X pins σ H s->t σ H Q->wpAny (model X.prog X.w) X.A (isTrue e X.env whole) (TP X pins σ Q) X.xe s
theorem PW.pt{X:Cx}{e:Expr}{t:TT}(h:PW X e t):PT X e t:=h _
noncomputable def PA(X:Cx)(es:List Expr)(t:TA):Prop :=
 ∀(pos:Pos) (pins:List (Addr×Obj)) (s:Shared) (σ:St) (H:Hp) (Q:List V->Hp->Prop),Inv X pins σ H s->t σ H Q->wpAny (model X.prog X.w) X.A (spliced (backTo pos (starEach es X.env))) (AP X pins σ Q) X.xe s
noncomputable def PS(X:Cx)(st:Stmt)(t:TS):Prop :=
 ∀(pins:List (Addr×Obj)) (s:Shared) (σ:St) (H:Hp) (D:Ends),Inv X pins σ H s->t D σ H->wpAny (model X.prog X.w) X.A (exec st X.env) (SP X pins D) X.xe s
noncomputable def fQ(X:Cx)(st:List Stmt)(t:TS):Prop :=
 ∀(pins:List (Addr×Obj)) (s:Shared) (σ:St) (H:Hp) (D:Ends),Inv X pins σ H s->t D σ H->wpAny (model X.prog X.w) X.A (execs st X.env) (SP X pins D) X.xe s
theorem aU{α:Type}{t:Sem α}{Q Q':α->Shared->Prop}{M:Model}{A:Around}{E:Value->Shared->Prop}{s:Shared}(h:wpAny M A t Q E s)(hQ:∀a s,Q a s->Q' a s):wpAny M A t Q' E s:=wpAny_mono h hQ λ_ _ x=>x
section
variable{X:Cx}
theorem bin{a b:Expr}{ta tb:TE}(ha:PE X a ta)(hb:PE X b tb){pins:List (Addr×Obj)}{s:Shared}{σ:St}{H:Hp}{R:V->V->Hp->Prop}(I:Inv X pins σ H s)(h:ta σ H λx H1=>tb σ H1 λy H2=>R x y H2)
  {α:Type} {Q:α->Shared->Prop} {f:Value->Value->Sem α}
  (hf:∀v u s2 x y H2,Inv X pins σ H2 s2->RelV x v->RelV y u->R x y H2->wpAny (model X.prog X.w) X.A (f v u) Q X.xe s2) :
  wpAny (model X.prog X.w) X.A (eval a X.env) (λv aZ=>wpAny (model X.prog X.w) X.A (eval b X.env) (λu jg=>wpAny (model X.prog X.w) X.A (f v u) Q X.xe jg) X.xe aZ) X.xe s:=by
 refine aU (ha pins s σ H _ I h) λv s1 ⟨x,H1,I1,r1,q1⟩=>?_;refine aU (hb pins s1 σ H1 _ I1 q1) λu s2 ⟨y,H2,I2,r2,q2⟩=>?_;exact hf v u s2 x y H2 I2 r1 r2 q2
noncomputable def rH(i:Nat):TE:=λσ H Q=>∃v,σ[i]? = some (some v)/\Q v H
noncomputable def tC(v:V):TE:=λ_ H Q=>Q v H
theorem ON{i:Nat}{x:Str}{pos:Pos}(hN:X.N[i]? = some x)(hv:zb X.env.scope x)(hd:(x == ("__debug__" : Str))=false:=by decide)(eS:(x == ("__classdict__" : Str))=false:=by decide):PE X (.Name x pos) (rH i):=by
 intro pins s σ H Q I h;obtain⟨v,e,h⟩:=h;obtain⟨m,hn,hl⟩:=I.loc;obtain⟨u,r,l⟩:=hl i x v hN e hv;have fin:EP X pins σ Q u s:=⟨v,H,I,r,h⟩;rcases l with⟨hk,hm⟩ | ⟨hk,c,hc,OO⟩
 ·exact wpAny_Name (wpAny_loadName_local I.ok.kind hk hn hm fin) hd
 ·rcases hk with hk | hk
  ·exact wpAny_Name (wpAny_loadName_cell I.ok.kind hk hc OO fin) hd
  ·exact wpAny_Name (wpAny_loadName_free I.ok.kind hk hc OO fin eS) hd
theorem ak{i j pos}:PE X (.Constant (.int i) j pos) (tC (.int i)):=λ_ _ _ H _ I h=>wpAny_Constant_int ⟨.int i,H,I.tok _,⟨_,rfl⟩,h⟩
theorem iL{b j pos}:PE X (.Constant (.bool b) j pos) (tC (.bl b)):=λ_ _ _ H _ I h=>Constant_bool ⟨.bl b,H,I,rfl,h⟩
theorem oq{j pos}:PE X (.Constant .none j pos) (tC .aP):=λ_ _ _ H _ I h=>Constant_none ⟨.aP,H,I,rfl,h⟩
theorem kr{x j pos}:PE X (.Constant (.str x) j pos) (tC (.str x)):=λ_ _ _ H _ I h=>Calls.Constant_str ⟨.str x,H,I.tok _,⟨_,rfl⟩,h⟩
noncomputable def Gl(X:Cx)(x:Str):Prop:=X.env.kindOf x=some .globalImplicit
theorem zf{E:Value->Shared->Prop}{pins:List (Addr×Obj)}{s:Shared}{σ:St}{H:Hp}{x:Str}{u:Value}{pos:Pos}{Q:Value->Shared->Prop}(I:Inv X pins σ H s)(hg:Gl X x)(hm:X.mg x=some u)(h:Q u s)
  (hd:(x == ("__debug__" : Str))=false:=by decide):wpAny (model X.prog X.w) X.A (eval (.Name x pos) X.env) Q E s :=
 Calls.Name_function_global I.ok.kind hg (Calls.loadGlobal_global (by rw[I.ok.glob];exact I.mod.glob.keeps I.bk) hm h) hd
theorem ou{E:Value->Shared->Prop}{pins:List (Addr×Obj)}{s:Shared}{σ:St}{H:Hp}{x:Str}{u:Value}{pos:Pos}{Q:Value->Shared->Prop}(I:Inv X pins σ H s)(hg:Gl X x)(hm:X.mg x=none)(hv:bootBuiltins x=some u)(h:Q u s)
  (hn:x≠"__name__" := by decide) (hd:(x == ("__debug__" : Str))=false:=by decide):wpAny (model X.prog X.w) X.A (eval (.Name x pos) X.env) Q E s:=by
 obtain⟨mb,h1,h2⟩:=I.mod.blt;exact Calls.Name_function_global I.ok.kind hg (Calls.loadGlobal_builtin (by rw[I.ok.glob];exact I.mod.glob.keeps I.bk) hm (by rw[I.ok.blt];exact h1.keeps I.bk) ((h2 x hn).trans hv) h) hd
theorem iw{x:Str}{v:V}{u:Value}{pos:Pos}(hg:Gl X x)(hm:X.mg x=some u)(r:RelV v u)(hd:(x == ("__debug__" : Str))=false:=by decide):PE X (.Name x pos) (tC v) :=
 λ_ _ _ H _ I h=>zf I hg hm ⟨v,H,I,r,h⟩ hd
theorem zg{x:Str}{v:V}{u:Value}{pos:Pos}(hg:Gl X x)(hm:X.mg x=none)(hv:bootBuiltins x=some u)(r:RelV v u)(hn:x≠"__name__" := by decide)(hd:(x == ("__debug__" : Str))=false:=by decide):PE X (.Name x pos) (tC v) :=
 λ_ _ _ H _ I h=>ou I hg hm hv ⟨v,H,I,r,h⟩ hn hd
variable{a b:Expr}{ta tb:TE}{pos:Pos}
noncomputable def PC(X:Cx)(op:CmpOp)(a b:Expr)(t:TE):Prop :=
 ∀(pins:List (Addr×Obj)) (s:Shared) (σ:St) (H:Hp) (Q:VK),Inv X pins σ H s->t σ H Q->
  wpAny (model X.prog X.w) X.A (eval a X.env) (λv aZ=>wpAny (model X.prog X.w) X.A (eval b X.env) (λu jg=>wpAny (model X.prog X.w) X.A (compareOp op v u) (EP X pins σ Q) X.xe jg) X.xe aZ) X.xe s
theorem ZV(b:Expr){op:CmpOp}(h:op≠.In)(h2:op≠.NotIn):behindInMarks op b=false:=by
 have e1:(op == CmpOp.In)=false:=by cases op <;> first | rfl | exact absurd rfl h
 have e2:(op == CmpOp.NotIn)=false:=by cases op <;> first | rfl | exact absurd rfl h2
 cases b <;> simp[behindInMarks,e1,e2]
noncomputable def tB(t:TE):TT:=λσ H Q=>t σ H λx H1=>∃c,x = .bl c/\Q c H1
theorem Fp{op:CmpOp}{t:TE}(h:PC X op a b t)(h1:behindInMarks op b=false:=by first | exact ZV _ (by decide) (by decide) | rfl):PT X (.Compare a [op] [b] pos) (tB t):=by
 intro pins s σ H Q I hw;refine wpAny_isTrue_Compare1 (aU (h pins s σ H _ I hw) λv s1 h1=>aU h1 λu s2 h2=>aU h2 λc s3 ⟨x,H1,I1,r1,q1⟩=>?_) h1;obtain⟨d,rfl,q⟩:=q1;cases r1;exact wpAny_truthy_bool ⟨H1,I1,q⟩
theorem jh{e:Expr}{t:TE}(h:PE X e t)(he:∀whole,isTrue e X.env whole=(do let v ← whole;standAt e.pos;holding [v] (truthy v)):=by intro _;rfl):PT X e (tB t):=by
 intro pins s σ H Q I hw;refine isTrue_plain (aU (h pins s σ H _ I hw) λv s1 ⟨x,H1,I1,r1,q1⟩=>?_) (he _);obtain⟨d,rfl,q⟩:=q1;cases r1;exact wpAny_truthy_bool ⟨H1,I1,q⟩
variable{tA zh:TT}{rest:List Expr}
noncomputable def uM(t u:TT):TT:=λσ H Q=>t σ H λc H1=>if c=true then u σ H1 Q else Q false H1
noncomputable def ow(t u:TT):TT:=λσ H Q=>t σ H λc H1=>if c=true then Q true H1 else u σ H1 Q
noncomputable def uN(t:TT):TT:=λσ H Q=>t σ H λc H1=>Q (!c) H1
theorem rJ(ha:PT X a tA):PW X (.BoolOp .And [a] pos) tA:=by
 intro wh pins s σ H Q I h;refine isTrue_and (aU (ha pins s σ H Q I h) λc s1 e=>?_);cases c with
 | true=>exact isTrue_and_nil e
 | false=>exact e
theorem iM(ha:PT X a tA):PW X (.BoolOp .Or [a] pos) tA:=by
 intro wh pins s σ H Q I h;refine isTrue_or (aU (ha pins s σ H Q I h) λc s1 e=>?_);cases c with
 | false=>exact isTrue_or_nil e
 | true=>exact e
theorem rK(ha:PT X a tA)(hb:PW X (.BoolOp .And (b::rest) pos) zh):PW X (.BoolOp .And (a::b::rest) pos) (uM tA zh):=by
 intro wh pins s σ H Q I h;refine isTrue_and (aU (ha pins s σ H _ I h) λc s1 ⟨H1,I1,q1⟩=>?_);cases c with
 | true=>exact hb wh pins s1 σ H1 Q I1 q1
 | false=>exact⟨H1,I1,q1⟩
theorem iN(ha:PT X a tA)(hb:PW X (.BoolOp .Or (b::rest) pos) zh):PW X (.BoolOp .Or (a::b::rest) pos) (ow tA zh):=by
 intro wh pins s σ H Q I h;refine isTrue_or (aU (ha pins s σ H _ I h) λc s1 ⟨H1,I1,q1⟩=>?_);cases c with
 | true=>exact⟨H1,I1,q1⟩
 | false=>exact hb wh pins s1 σ H1 Q I1 q1
theorem mO(ha:PT X a tA):PT X (.UnaryOp .Not a pos) (uN tA):=by
 intro pins s σ H Q I h;exact isTrue_not (ha pins s σ H (λc H1=>Q (!c) H1) I h)
noncomputable def uO(ta tb:TE):TE:=λσ H Q=>ta σ H λx H1=>∃c,x = .bl c/\if c=true then tb σ H1 Q else Q (.bl false) H1
noncomputable def uP(ta tb:TE):TE:=λσ H Q=>ta σ H λx H1=>∃c,x = .bl c/\if c=true then Q (.bl true) H1 else tb σ H1 Q
noncomputable def uQ(ta:TE):TE:=λσ H Q=>ta σ H λx H1=>∃c,x = .bl c/\Q (.bl (!c)) H1
theorem lK{op}{t:TE}(h:PE X a t):PE X (.BoolOp op [a] pos) t:=λpins s σ H Q I hw=>BoolOp_one (h pins s σ H Q I hw)
theorem oz(ha:PE X a ta)(hb:PE X (.BoolOp .And (b::rest) pos) tb):PE X (.BoolOp .And (a::b::rest) pos) (uO ta tb):=by
 intro pins s σ H Q I h;refine BoolOp_and (aU (ha pins s σ H _ I h) λv s1 ⟨x,H1,I1,r1,q1⟩=>?_);obtain⟨c,rfl,q1⟩:=q1;cases r1;refine wpAny_truthy_bool ?_;cases c with
 | true=>exact hb pins s1 σ H1 Q I1 q1
 | false=>exact⟨.bl false,H1,I1,rfl,q1⟩
theorem Fq(ha:PE X a ta)(hb:PE X (.BoolOp .Or (b::rest) pos) tb):PE X (.BoolOp .Or (a::b::rest) pos) (uP ta tb):=by
 intro pins s σ H Q I h;refine BoolOp_or (aU (ha pins s σ H _ I h) λv s1 ⟨x,H1,I1,r1,q1⟩=>?_);obtain⟨c,rfl,q1⟩:=q1;cases r1;refine wpAny_truthy_bool ?_;cases c with
 | false=>exact hb pins s1 σ H1 Q I1 q1
 | true=>exact⟨.bl true,H1,I1,rfl,q1⟩
theorem ZW(ha:PE X a ta):PE X (.UnaryOp .Not a pos) (uQ ta):=by
 intro pins s σ H Q I h;refine UnaryOp_ (aU (ha pins s σ H _ I h) λv s1 ⟨x,H1,I1,r1,q1⟩=>?_);obtain⟨c,rfl,q1⟩:=q1;cases r1;exact not_of (wpAny_truthy_bool ⟨.bl (!c),H1,I1,rfl,q1⟩)
noncomputable def uR(t:TT)(ta tb:TE):TE:=λσ H Q=>t σ H λc H1=>if c=true then ta σ H1 Q else tb σ H1 Q
theorem ZX{c:Expr}(hc:PT X c tA)(ha:PE X a ta)(hb:PE X b tb):PE X (.IfExp c a b pos) (uR tA ta tb):=by
 intro pins s σ H Q I h;refine wpAny_IfExp (aU (hc pins s σ H _ I h) λd s1 ⟨H1,I1,q1⟩=>?_);cases d with
 | true=>exact ha pins s1 σ H1 Q I1 q1
 | false=>exact hb pins s1 σ H1 Q I1 q1
end
noncomputable def aA(K:PySem.W.Frag)(H:Hp)(a:Addr)(xs:List V):Prop :=
 Rd H a (.lst xs)\/
  ∃(o:Obj) (aC:Array Value) (n:Nat),K.lookup a=some o/\o.cls = .type "list"/\o.dict=none/\o.data = .seq aC n/\aC.size<=sizeLine/\Vals xs aC.toList
noncomputable def aL(K:PySem.W.Frag)(H:Hp)(a:Addr)(xs:List V):Prop :=
 Rd H a (.tup xs)\/
  ∃(o:Obj) (aC:Array Value) (n:Nat),K.lookup a=some o/\o.cls = .type "tuple"/\o.data = .seq aC n/\aC.size<=sizeLine/\Vals xs aC.toList
noncomputable def ZY:Value->Option V
 | .none=>some .aP
 | .bool b=>some (.bl b)
 | .int i _=>some (.int i)
 | .str x _=>some (.str x)
 | .bytes b _=>some (.gA b)
 | .float b _=>some (.lH b)
 | .ref a=>some (.ref a)
 | .type n=>some (.ty n)
 | _=>none
theorem RelV.abs{x:V}{u:Value}(r:RelV x u):ZY u=some x:=by
 cases x with
 | aP=>cases r;rfl
 | bl _=>cases r;rfl
 | int _=>obtain⟨t,rfl⟩:=r;rfl
 | str _=>obtain⟨t,rfl⟩:=r;rfl
 | gA _=>obtain⟨t,rfl⟩:=r;rfl
 | lH _=>obtain⟨t,rfl⟩:=r;rfl
 | ref _=>cases r;rfl
 | ty _=>cases r;rfl
theorem RelV.inj{x y:V}{u:Value}(r:RelV x u)(q:RelV y u):x=y:=Option.some.inj (r.abs.symm.trans q.abs)
theorem Vals.inj{xs ys:List V}{us:List Value}(h:Vals xs us):Vals ys us->xs=ys:=by
 induction h generalizing ys with
 | nil=>intro g;cases g;rfl
 | cons r t ih=>intro g;cases g with
  | cons r' t'=>rw[r.inj r',ih t']
section
variable{X:Cx}{pins:List (Addr×Obj)}{σ:St}{H:Hp}{s:Shared}{a:Addr}{xs ys:List V}
theorem aA.of{K:PySem.W.Frag}(h:H a=some (.lst xs)):aA K H a xs:=.inl (.inl h)
theorem aL.of{K:PySem.W.Frag}(h:H a=some (.tup xs)):aL K H a xs:=.inl (.inl h)
theorem Inv.list(I:Inv X pins σ H s)(h:aA X.K H a xs):∃aC:List Value,Vals xs aC/\PlainL s.heap a aC.toArray/\xs.length<=sizeLine:=by
 rcases h with h | ⟨o,aC,n,hk,hc,hd,hs,hz,r⟩
 ·obtain⟨z,aC,n,r,e⟩:=h.ok I.aM;exact⟨aC,r,⟨_,n,e,rfl,rfl,rfl⟩,z⟩
 ·refine⟨aC.toList,r,⟨o,n,I.dJ a o hk,hc,hd,by simpa using hs⟩,?_⟩
  have e:=r.length;simp only[Array.length_toList] at e;lia
theorem Inv.tuple(I:Inv X pins σ H s)(h:aL X.K H a xs):∃aC:List Value,Vals xs aC/\IsTup s.heap a aC.toArray/\xs.length<=sizeLine:=by
 rcases h with h | ⟨o,aC,n,hk,hc,hs,hz,r⟩
 ·obtain⟨z,aC,r,p⟩:=h.ok I.aM;exact⟨aC,r,p,z⟩
 ·refine⟨aC.toList,r,⟨o,I.dJ a o hk,hc,n,by simpa using hs⟩,?_⟩
  have e:=r.length;simp only[Array.length_toList] at e;lia
theorem Inv.OP(I:Inv X pins σ H s)(h:aA X.K H a xs)(h':aA X.K H a ys):xs=ys:=by
 obtain⟨aC,r,⟨o,n,e,_,_,d⟩,_⟩:=I.list h;obtain⟨its',r',⟨o',n',e',_,_,d'⟩,_⟩:=I.list h';rw[e] at e';cases e';rw[d] at d';injection d' with d1 _;have:aC=its':=by simpa using congrArg Array.toList d1
 subst this;exact r.inj r'
theorem Inv.ZZ(I:Inv X pins σ H s)(h:aL X.K H a xs)(h':aL X.K H a ys):xs=ys:=by
 obtain⟨aC,r,⟨o,e,_,n,d⟩,_⟩:=I.tuple h;obtain⟨its',r',⟨o',e',_,n',d'⟩,_⟩:=I.tuple h';rw[e] at e';cases e';rw[d] at d';injection d' with d1 _;have:aC=its':=by simpa using congrArg Array.toList d1
 subst this;exact r.inj r'
end
noncomputable abbrev Cx.kB(X:Cx)(E:Value->Shared->Prop):Cx:={ X with xe:=E }
noncomputable abbrev Cx.oA(X:Cx):Cx:=X.kB λ_ _=>False
theorem Cx.Ok.kB{X:Cx}(ok:X.Ok)(E:Value->Shared->Prop):(X.kB E).Ok :=
 ⟨ok.mod,ok.kind,ok.glob,ok.blt,ok.above,ok.inj,ok.has,ok.rE,ok.hd,ok.frames,ok.uH,ok.uI,ok.bs,ok.gB,ok.rF,ok.rG,ok.jf,ok.oh⟩
theorem Cx.Ok.oB{X:Cx}{E:Value->Shared->Prop}(ok:(X.kB E).Ok):X.Ok :=
 ⟨ok.mod,ok.kind,ok.glob,ok.blt,ok.above,ok.inj,ok.has,ok.rE,ok.hd,ok.frames,ok.uH,ok.uI,ok.bs,ok.gB,ok.rF,ok.rG,ok.jf,ok.oh⟩
section
variable{X:Cx}{pins:List (Addr×Obj)}{σ:St}{H:Hp}{s:Shared}{E:Value->Shared->Prop}
theorem Inv.kB(I:Inv X pins σ H s)(E:Value->Shared->Prop):Inv (X.kB E) pins σ H s:=⟨I.ok.kB E,I.os,I.bare,I.base,I.loc,I.cell,I.free,I.ki,I.pin,I.aM,I.len⟩
theorem Inv.oB(I:Inv (X.kB E) pins σ H s):Inv X pins σ H s:=⟨I.ok.oB,I.os,I.bare,I.base,I.loc,I.cell,I.free,I.ki,I.pin,I.aM,I.len⟩
theorem SP.oB{D:Ends}{f:Flow}{s':Shared}(h:SP (X.kB E) pins D f s'):SP X pins D f s':=by
 cases f with
 | next=>obtain⟨bE,H',I,q⟩:=h;exact⟨bE,H',I.oB,q⟩
 | brk=>obtain⟨bE,H',I,q⟩:=h;exact⟨bE,H',I.oB,q⟩
 | cont=>obtain⟨bE,H',I,q⟩:=h;exact⟨bE,H',I.oB,q⟩
 | ret u=>obtain⟨v,bE,H',I,r,q⟩:=h;exact⟨v,bE,H',I.oB,r,q⟩
theorem fQ.oA{st:List Stmt}{t:TS}(h:fQ X.oA st t):fQ X st t:=λpins s σ H D I hw =>
 wpAny_mono (h pins s σ H D (I.kB _) hw) (λ_ _ q=>q.oB) λ_ _ z=>False.elim z
end
section
variable{X:Cx}{st:Stmt}{rest:List Stmt}{t u:TS}{e:Expr}{te:TE}{pos:Pos}
noncomputable def uS:TS:=λD σ H=>D.nx σ H
noncomputable def uT(t u:TS):TS:=λD σ H=>t { D with nx:=u D } σ H
theorem bT:fQ X [] uS:=λ_ _ σ H _ I h=>wpAny_execs_nil ⟨σ,H,I,h⟩
theorem aF(h1:PS X st t)(h2:fQ X rest u):fQ X (st::rest) (uT t u):=by
 intro pins s σ H D I h;refine wpAny_execs_cons (aU (h1 pins s σ H { D with nx:=u D } I h) λf s1 q=>?_);cases f with
 | next =>
  obtain⟨bE,H',I',q⟩:=q;exact h2 pins s1 bE H' D I' q
 | ret v=>exact q
 | brk=>exact q
 | cont=>exact q
theorem aK(h1:PS X st t):fQ X [st] t:=by
 intro pins s σ H D I h;refine wpAny_execs_cons (aU (h1 pins s σ H D I h) λf s1 q=>?_);cases f with
 | next=>exact wpAny_execs_nil q
 | ret v=>exact q
 | brk=>exact q
 | cont=>exact q
theorem Inv.quiet{pins:List (Addr×Obj)}{σ:St}{H:Hp}{s:Shared}(I:Inv X pins σ H s):interactive X.env=false:=by simp[interactive,I.ok.kind]
noncomputable def uU(te:TE):TS:=λD σ H=>te σ H λ_ H1=>D.nx σ H1
theorem c8(he:PE X e te)(hs:swapsWith e none pos.line X.env=pure false:=by rfl):PS X (.Expr e pos) (uU te):=by
 intro pins s σ H D I h;exact wpAny_Expr_any (aU (he pins s σ H _ I h) λv s1 ⟨x,H1,I1,r1,q1⟩=>⟨σ,H1,I1,q1⟩) I.quiet hs
noncomputable def uW(te:TE):TS:=λD σ H=>te σ H D.rt
theorem bF(he:PE X e te):PS X (.Return (some e) pos) (uW te):=by
 intro pins s σ H D I h;exact wpAny_Return_some (aU (he pins s σ H _ I h) λv s1 ⟨x,H1,I1,r1,q1⟩=>⟨x,σ,H1,I1,r1,q1⟩)
noncomputable def zj:TS:=λD _ H=>D.rt .aP H
noncomputable def uX(c:TT)(t u:TS):TS:=λD σ H=>c σ H λb H1=>if b=true then t D σ H1 else u D σ H1
theorem c9{c:Expr}{a b:List Stmt}{tc:TT}(hc:PT X c tc)(ha:fQ X a t)(hb:fQ X b u):PS X (.If c a b pos) (uX tc t u):=by
 intro pins s σ H D I h;refine wpAny_If (aU (hc pins s σ H _ I h) λd s1 ⟨H1,I1,q1⟩=>?_);cases d with
 | true=>exact ha pins s1 σ H1 D I1 q1
 | false=>exact hb pins s1 σ H1 D I1 q1
noncomputable def uY:TS:=λ_ _ _=>False
theorem fR{Z0:List Stmt}:fQ X Z0 uY:=λ_ _ _ _ _ _ h=>h.elim
end
noncomputable abbrev TG:=V->St->Hp->(St->Hp->Prop)->Prop
noncomputable abbrev lM:=List V->St->Hp->(St->Hp->Prop)->Prop
noncomputable def PG(X:Cx)(target:Expr)(t:TG):Prop :=
 ∀(pins:List (Addr×Obj)) (s:Shared) (σ:St) (H:Hp) (v:V) (u:Value) (Q:St->Hp->Prop),Inv X pins σ H s->RelV v u->t v σ H Q->
  wpAny (model X.prog X.w) X.A (assign target X.env u) (λ_ s'=>∃bE H',Inv X pins bE H' s'/\Q bE H') X.xe s
noncomputable def rL(X:Cx)(ts:List Expr)(t:lM):Prop :=
 ∀(pins:List (Addr×Obj)) (s:Shared) (σ:St) (H:Hp) (vs:List V) (us:List Value) (Q:St->Hp->Prop),Inv X pins σ H s->Vals vs us->t vs σ H Q->
  wpAny (model X.prog X.w) X.A (assignInOrder ((assignEach ts X.env).map (·.2)) us) (λ_ s'=>∃bE H',Inv X pins bE H' s'/\Q bE H') X.xe s
noncomputable abbrev zm:=V->V->V->Hp->(Hp->Prop)->Prop
noncomputable def OQ(X:Cx)(t:zm):Prop :=
 ∀(pins:List (Addr×Obj)) (s:Shared) (σ:St) (H:Hp) (o i v:V) (ov iv u:Value) (Q:Hp->Prop),Inv X pins σ H s->RelV o ov->RelV i iv->RelV v u->t o i v H Q->
  wpAny (model X.prog X.w) X.A (setItem ov iv u) (λ_ s'=>∃H',Inv X pins σ H' s'/\Q H') X.xe s
section
variable{X:Cx}{pos:Pos}
noncomputable def lN(i:Nat):TG:=λv σ H Q=>Q (σ.set i (some v)) H
theorem bB{i:Nat}{x:Str}(hN:X.N.Nodup)(hi:X.N[i]? = some x)(hx:Loc X.env.scope x)(hf:X.fn x=true\/X.env.scope.names.lookup x=some .local:=by first | exact .inl rfl | exact .inr rfl | assumption):PG X (.Name x pos) (lN i):=by
 intro pins s σ H v u Q I r h;exact wpAny_assign_Name (OL I hN hi hx r (λs' I'=>⟨_,H,I',h⟩) hf)
noncomputable def rM:lM:=λvs σ H Q=>vs = []/\Q σ H
noncomputable def p8(t:TG)(u:lM):lM:=λvs σ H Q=>∃v r,vs=v::r/\t v σ H λbE H'=>u r bE H' Q
theorem iO:rL X [] rM:=by
 intro pins s σ H vs us Q I r h;obtain⟨e,h⟩:=h;subst e;cases r;exact assignInOrder_nil ⟨σ,H,I,h⟩
theorem cV{e:Expr}{es:List Expr}{t:TG}{u:lM}(h1:PG X e t)(h2:rL X es u)
  (hs:(assignEach (e::es) X.env).map (·.2)=assign e X.env::(assignEach es X.env).map (·.2):=by rfl):rL X (e::es) (p8 t u):=by
 intro pins s σ H vs us Q I r h;obtain⟨v,vr,e1,h⟩:=h;subst e1;cases r with
 | cons r rr =>
  rw[hs];refine assignInOrder_cons (aU (h1 pins s σ H _ _ _ I r h) λ_ s1 ⟨gC,H1,I1,q1⟩=>?_);exact h2 pins s1 gC H1 _ _ Q I1 rr q1
noncomputable def p9(K:PySem.W.Frag)(n:Nat)(t:lM):TG:=λv σ H Q=>∃a xs,v = .ref a/\aL K H a xs/\xs.length=n/\t xs σ H Q
theorem ji{es:List Expr}{k:Nat}{t:lM}{n:Nat}(hc:X.calm=true)(h:rL X es t)
  (hn:(assignEach es X.env).length=n:=by rfl) (fu:(assignEach es X.env).findIdx? (·.1)=none:=by rfl):PG X (.Tuple es k pos) (p9 X.K n t):=by
 intro pins s σ H v u Q I r hw;obtain⟨a,xs,e1,hq,hl,hw⟩:=hw;subst e1;cases r;obtain⟨aC,rv,ht,hz⟩:=I.tuple hq;refine assign_Tuple_tuple (I.ok.hd hc) ht (by simp[hn,← hl,rv.length]) fu λh' hx=>?_
 have I1:Inv X pins σ H { s with heap:=h' }:=I.kept (t':=s.toks) λb o e=>hx b o (Nat.ne_of_lt (Heap.lt_size e)) e;exact h pins _ σ H xs _ Q I1 (by simpa using rv) hw
noncomputable def uZ(to ti:TE)(t:zm):TG:=λv σ H Q=>to σ H λo H1=>ti σ H1 λi H2=>t o i v H2 λH3=>Q σ H3
theorem u5{o i:Expr}{to ti:TE}{t:zm}(ho:PE X o to)(hi:PE X i ti)(hs:OQ X t)
  (ha:∀v,assign (.Subscript o i pos) X.env v=(do
   let ov ← holding [v] (eval o X.env)
   let iv ← holding [v,ov] (eval i X.env)
   standAt pos
   holding [v,ov,iv] (setItem ov iv v)
   release [v,ov,iv] []):=by intro _;rfl):PG X (.Subscript o i pos) (uZ to ti t):=by
 intro pins s σ H v u Q I r h;rw[ha];refine wpAny_bind (wpAny_holding (aU (ho pins s σ H _ I h) λov s1 ⟨x,H1,I1,r1,q1⟩=>?_));refine wpAny_bind (wpAny_holding (aU (hi pins s1 σ H1 _ I1 q1) λiv s2 ⟨y,H2,I2,r2,q2⟩=>?_));refine wpAny_bind (wpAny_standAt (wpAny_bind (wpAny_holding (aU (hs pins s2 σ H2 x y v ov iv u _ I2 r1 r2 r q2) λ_ s3 ⟨H3,I3,q3⟩=>?_))));exact wpAny_release ⟨σ,H3,I3,q3⟩
noncomputable def p_(te:TE)(g:TG):TS:=λD σ H=>te σ H λx H1=>g x σ H1 D.nx
theorem qa{tg e:Expr}{te:TE}{g:TG}(he:PE X e te)(hg:PG X tg g)(hs:swapsWithSole [tg] e pos.line X.env=pure false:=by rfl)(hw:swappedStores [tg] e X.env=pure none:=by rfl)
  (h1:(assignEach [tg] X.env).map (·.2) = [assign tg X.env]:=by rfl):PS X (.Assign [tg] e pos) (p_ te g):=by
 intro pins s σ H D I h;refine wpAny_Assign_stores (aU (he pins s σ H _ I h) λv s1 ⟨x,H1,I1,r1,q1⟩=>?_) hs hw;rw[h1];exact aU (hg pins s1 σ H1 x v _ I1 r1 q1) λ_ s2 q=>q
theorem aQ{i:Nat}{x:Str}{e:Expr}{te:TE}{pos':Pos}(hN:X.N.Nodup)(hi:X.N[i]? = some x)(hx:Loc X.env.scope x)(he:PE X e te)(hs:swapsWith e (some (.Name x pos')) pos.line X.env=pure false:=by rfl)(hf:X.fn x=true\/X.env.scope.names.lookup x=some .local:=by first | exact .inl rfl | exact .inr rfl | assumption) :
  PS X (.Assign [.Name x pos'] e pos) (p_ te (lN i)):=by
 intro pins s σ H D I h;refine wpAny_Assign_Name (aU (he pins s σ H _ I h) λv s1 ⟨y,H1,I1,r1,q1⟩=>?_) hs;exact OL I1 hN hi hx r1 (λs2 I2=>⟨_,H1,I2,q1⟩) hf
end
section
variable{X:Cx}{pos:Pos}
noncomputable def Z1(c:TT)(tb:TS):TS:=λD σ H=>∃W:Nat->St->Hp->Prop,(∃m,W m σ H)/\∀m σ H,W m σ H->
 c σ H λb H1=>if b=true then ∃N:St->Hp->Prop,(∀bE H',N bE H'->∃m',m' < m/\W m' bE H')/\tb { D with nx:=N,ct:=N,bk:=D.nx } σ H1 else D.nx σ H1
theorem Ft{c:Expr}{body:List Stmt}{tc:TT}{tb:TS}(hp:PassesOwn (model X.prog X.w) X.A X.env X.xe)(hc:PT X c tc)(hb:fQ X body tb):PS X (.While c body [] pos) (Z1 tc tb):=by
 intro pins s σ H D I h;obtain⟨W,⟨m0,w0⟩,turn⟩:=h;refine wpAny_While (codeAny_whileLoop (λn s'=>∃bE H',Inv X pins bE H' s'/\W n bE H') ?_ m0 ⟨σ,H,I,w0⟩);rintro n s1 ⟨gC,H1,I1,w1⟩;refine wpAny_passesOwn hp (aU (hc pins s1 gC H1 _ I1 (turn n gC H1 w1)) λb s2 ⟨H2,I2,q2⟩=>?_);cases b with
 | true =>
  obtain⟨N,hN,q2⟩:=q2;rw[if_pos rfl];refine wpAny_passesOwn hp (aU (hb pins s2 gC H2 _ I2 q2) λf s3 q3=>?_);cases f with
  | next =>
   obtain⟨dX,H3,I3,n3⟩:=q3;obtain⟨m',hm,w3⟩:=hN dX H3 n3;exact⟨m',hm,dX,H3,I3,w3⟩
  | cont =>
   obtain⟨dX,H3,I3,n3⟩:=q3;obtain⟨m',hm,w3⟩:=hN dX H3 n3;exact⟨m',hm,dX,H3,I3,w3⟩
  | brk=>exact q3
  | ret v=>exact q3
 | false =>
  rw[if_neg Bool.false_ne_true];exact wpAny_execs_nil ⟨gC,H2,I2,q2⟩
end
structure It where
 go:Nat->Hp->Prop
 mQ:Nat->Hp->V->Hp->Prop
 stop:Nat->Hp->Prop
noncomputable def lO(X:Cx)(pins:List (Addr×Obj))(H:Hp)(b:Addr):Prop :=
 H b=none/\b≠X.env.locals/\b∉X.fs/\(b∈X.ex\/X.dw.heap.objs.size<=b)/\(∀x c,X.env.cells.lookup x=some c->c≠b)/\∀p∈X.pn++pins,p.1≠b
theorem Inv.qb{X:Cx}{pins:List (Addr×Obj)}{σ:St}{H H':Hp}{s:Shared}{b:Addr}(I:Inv X pins σ H s)(hb:s.heap.objs.size<=b)(hn:H' b=none):lO X pins H' b:=by
 refine⟨hn,Nat.ne_of_gt (Nat.lt_of_lt_of_le I.lt hb),I.uJ hb,.inr (Nat.le_trans I.sz hb),λx c e z=>?_,λp hp z=>?_⟩
 ·obtain⟨v,q⟩:=I.cell x c e;exact absurd (Nat.lt_of_lt_of_le q.lt (by rw[z];exact hb)) (Nat.lt_irrefl _)
 ·exact absurd (Nat.lt_of_lt_of_le (Heap.lt_size (I.pin p hp).1) (by rw[z];exact hb)) (Nat.lt_irrefl _)
structure Turn(P:Program)(w:World)(K:PySem.W.Frag)(tg:Expr)(J:It)(fp:List Addr)(it:Addr)(tn:Nat->Heap->Prop):Prop where
 mem:it∈fp
 obj:∀i h,tn i h->∀b∈fp,∃o,h.get? b=some o/\∀v,o.data≠.cell v
 keep:∀i h h',tn i h->(∀b∈fp,∀o,h.get? b=some o->h'.get? b=some o)->tn i h'
 item:∀(X:Cx),X.prog=P->X.w=w->X.K=K->X.calm=true->∀(i:Nat) (pins:List (Addr×Obj)) (s:Shared) (σ:St) (H:Hp) (E:Value->Shared->Prop),Inv X pins σ H s->(∀b∈fp,lO X pins H b)->tn i s.heap->J.go i H->
  wpAny (model P w) X.A (pyNext (.ref it)) (λr s1=>∃u,r=some u/\
   wpAny (model P w) X.A (letOwnedTupleGo tg (.ref it) u) (λ_ s2=>∃x H',Inv X pins σ H' s2/\RelV x u/\J.mQ i H x H'/\tn (i+1) s2.heap/\∀b∈fp,H' b=none) E s1) E s
 done:∀(X:Cx),X.prog=P->X.w=w->X.K=K->X.calm=true->∀(i:Nat) (pins:List (Addr×Obj)) (s:Shared) (σ:St) (H:Hp) (E:Value->Shared->Prop),Inv X pins σ H s->(∀b∈fp,lO X pins H b)->tn i s.heap->J.stop i H->
  wpAny (model P w) X.A (pyNext (.ref it)) (λr s1=>r=none/\Inv X pins σ H s1) E s
 self:∀(A:Around) (i:Nat) (s:Shared) (Q:Value->Shared->Prop) (E:Value->Shared->Prop),tn i s.heap->Q (.ref it) s->wpAny (model P w) A (pyIter (.ref it)) Q E s
noncomputable abbrev TI:=St->Hp->(It->Hp->Prop)->Prop
noncomputable def OR(X:Cx)(pins:List (Addr×Obj))(σ:St)(tg:Expr)(R:It->Hp->Prop)(zo:Value)(s2:Shared):Prop :=
 ∃(it:Addr) (fp:List Addr) (tn:Nat->Heap->Prop) (J:It) (H':Hp),zo = .ref it/\Inv X pins σ H' s2/\Turn X.prog X.w X.K tg J fp it tn/\tn 0 s2.heap/\(∀b∈fp,lO X pins H' b)/\R J H'
noncomputable def PI(X:Cx)(tg iter:Expr)(wi:TI):Prop :=
 ∀(pins:List (Addr×Obj)) (s:Shared) (σ:St) (H:Hp) (R:It->Hp->Prop),Inv X pins σ H s->wi σ H R->
  wpAny (model X.prog X.w) X.A (eval iter X.env) (λv s1=>wpAny (model X.prog X.w) X.A (pyIter v) (OR X pins σ tg R) X.xe s1) X.xe s
theorem Fv{M:Model}{A:Around}{E:Value->Shared->Prop}{s:Shared}{tg:Expr}{it:Addr}{u:Value}{o:Obj}{n:String}{vs:Array Value}{Q:Unit->Shared->Prop}(ho:s.heap.get? it=some o)(hc:o.cls = .type n)(hd:o.data = .fields vs)
  (hn:["enumerate", "zip", "dict_itemiterator", "dict_reverseitemiterator", "odict_iterator", "itertools.zip_longest", "itertools.pairwise"].contains n=false) (hQ:Q () s):wpAny M A (letOwnedTupleGo tg (.ref it) u) Q E s:=by
 unfold letOwnedTupleGo;cases tg <;> first
  | exact wpAny_pure hQ
  | (cases u <;> first
    | exact wpAny_pure hQ
    | (refine wpAny_bind (wpAny_load ho ?_)
       rw[hc,hd]
       show wpAny M A (if (["enumerate", "zip", "dict_itemiterator", "dict_reverseitemiterator", "odict_iterator", "itertools.zip_longest", "itertools.pairwise"].contains n && vs[0]? == some (rawInt _))=true then _ else _) Q E s
       rw[if_neg (by intro h;rw[hn,Bool.false_and] at h;cases h)]
       exact wpAny_pure hQ))
noncomputable def oE(K:PySem.W.Frag)(a:Addr):It :=
 ⟨λi H=>∃xs x,aA K H a xs/\xs[i]? = some x,λi H x H'=>H' = H/\∀xs,aA K H a xs->xs[i]? = some x,λi H=>∃xs,aA K H a xs/\xs.length<=i⟩
noncomputable def u6(K:PySem.W.Frag)(a:Addr):It :=
 ⟨λi H=>∃xs x,aL K H a xs/\xs[i]? = some x,λi H x H'=>H' = H/\∀xs,aL K H a xs->xs[i]? = some x,λi H=>∃xs,aL K H a xs/\xs.length<=i⟩
noncomputable def qc(lo:Int)(n:Nat):It:=⟨λi _=>i<n,λi H x H'=>H' = H/\x = .int (lo+i),λi _=>n<=i⟩
theorem Z3{P:Program}{w:World}{K:PySem.W.Frag}{tg:Expr}(a it:Addr):Turn P w K tg (oE K a) [it] it (λi h=>h.IsListIter it a i) where
 mem:=by simp
 obj:=λi h st b hb=>by
  have e:b=it:=by simpa using hb
  subst e;obtain⟨o,e,c,d⟩:=st;exact⟨o,e,λv z=>by rw[d] at z;cases z⟩
 keep:=λi h h' st k=>st.at λo e=>k it (by simp) o e
 item:=by
  intro X hP hw hK hc i pins s σ H E I hf st hg;subst hP hw hK;obtain⟨xs,x,hq,hx⟩:=hg;obtain⟨aC,rv,p,hz⟩:=I.list hq;obtain⟨u,hu,ru⟩:=rv.get hx;obtain⟨f0,f1,f2,f3,f4,f5⟩:=hf it (by simp)
  refine wpAny_pyNext_list_item st p.isList (x:=u) (by simpa using hu) λh' bZ sb=>?_
  have I1:Inv X pins σ H { s with heap:=h' }:=I.turned (t':=s.toks) (λb o hb e=>(sb.2 b hb).trans e) f0 f1 f3 f4 f5;obtain⟨o,e,c,d⟩:=id bZ;exact⟨u,rfl,Fv (s:={ s with heap:=h' }) e c d (by decide) ⟨x,H,I1,ru,⟨rfl,λys hy=>by rw[I.OP hy hq];exact hx⟩,bZ,λb hb=>(hf b hb).1⟩⟩
 done:=by
  intro X hP hw hK hc i pins s σ H E I hf st hg;subst hP hw hK;obtain⟨xs,hq,hx⟩:=hg;obtain⟨aC,rv,p,hz⟩:=I.list hq;obtain⟨f0,f1,f2,f3,f4,f5⟩:=hf it (by simp)
  have hl:=rv.length;exact wpAny_pyNext_list_end (I.ok.hd hc) st p.isList (by simp;lia) λh' eb=>⟨rfl,I.turned (t':=s.toks) (λb o hb e=>eb b o hb e) f0 f1 f3 f4 f5⟩
 self:=λ_ _ _ _ _ st h=>wpAny_pyIter_listiter st h
theorem Z4{P:Program}{w:World}{K:PySem.W.Frag}{tg:Expr}(a it:Addr):Turn P w K tg (u6 K a) [it] it (λi h=>h.IsTupleIter it a i) where
 mem:=by simp
 obj:=λi h st b hb=>by
  have e:b=it:=by simpa using hb
  subst e;obtain⟨o,e,c,d⟩:=st;exact⟨o,e,λv z=>by rw[d] at z;cases z⟩
 keep:=λi h h' st k=>st.at λo e=>k it (by simp) o e
 item:=by
  intro X hP hw hK hc i pins s σ H E I hf st hg;subst hP hw hK;obtain⟨xs,x,hq,hx⟩:=hg;obtain⟨aC,rv,p,hz⟩:=I.tuple hq;obtain⟨u,hu,ru⟩:=rv.get hx;obtain⟨f0,f1,f2,f3,f4,f5⟩:=hf it (by simp)
  refine wpAny_pyNext_tuple_item st (show s.heap.IsTuple a aC.toArray from p) (x:=u) (by simpa using hu) λh' bZ sb=>?_
  have I1:Inv X pins σ H { s with heap:=h' }:=I.turned (t':=s.toks) (λb o hb e=>(sb.2 b hb).trans e) f0 f1 f3 f4 f5;obtain⟨o,e,c,d⟩:=id bZ;exact⟨u,rfl,Fv (s:={ s with heap:=h' }) e c d (by decide) ⟨x,H,I1,ru,⟨rfl,λys hy=>by rw[I.ZZ hy hq];exact hx⟩,bZ,λb hb=>(hf b hb).1⟩⟩
 done:=by
  intro X hP hw hK hc i pins s σ H E I hf st hg;subst hP hw hK;obtain⟨xs,hq,hx⟩:=hg;obtain⟨aC,rv,p,hz⟩:=I.tuple hq;obtain⟨f0,f1,f2,f3,f4,f5⟩:=hf it (by simp)
  have hl:=rv.length;exact wpAny_pyNext_tuple_end (I.ok.hd hc) st (show s.heap.IsTuple a aC.toArray from p) (by simp;lia) λh' eb=>⟨rfl,I.turned (t':=s.toks) (λb o hb e=>eb b o hb e) f0 f1 f3 f4 f5⟩
 self:=λ_ _ _ _ _ st h=>wpAny_pyIter_tupleiter st h
theorem Z5{P:Program}{w:World}{K:PySem.W.Frag}{tg:Expr}(it:Addr)(lo:Int)(n:Nat):Turn P w K tg (qc lo n) [it] it (λi h=>IsRangeIter h it (lo+(i:Nat)*1) ((n:Int) - (i:Nat)) 1) where
 mem:=by simp
 obj:=λi h st b hb=>by
  have e:b=it:=by simpa using hb
  subst e;exact⟨_,st,λv z=>by
   have z':Data.fields _=Data.cell v:=z;cases z'⟩
 keep:=λi h h' st k=>k it (by simp) _ st
 item:=by
  intro X hP hw hK hc i pins s σ H E I hf st hg;subst hP hw hK;obtain⟨f0,f1,f2,f3,f4,f5⟩:=hf it (by simp)
  have W:=Walks.range (prog:=X.prog) (w:=X.w) (I.ok.hd hc) it lo 1 n;refine W.item i s _ _ hg st λv h' tk hv bZ kk=>?_;obtain⟨t,rfl⟩:=hv;have I1:Inv X pins σ H { s with heap:=h',toks:=tk }:=I.turned (λb o hb e=>kk b o (by simpa using hb) e) f0 f1 f3 f4 f5
  refine⟨_,rfl,Fv (s:={ s with heap:=h',toks:=tk }) (n := "range_iterator") bZ rfl rfl (by decide) ⟨.int (lo+i),H,I1,⟨t,?_⟩,⟨rfl,rfl⟩,bZ,λb hb=>(hf b hb).1⟩⟩
  rw[Int.mul_one]
 done:=by
  intro X hP hw hK hc i pins s σ H E I hf st hg;subst hP hw hK;obtain⟨f0,f1,f2,f3,f4,f5⟩:=hf it (by simp)
  exact wpAny_pyNext_range_end (I.ok.hd hc) st (by have:n<=i:=hg;lia) λh' eb=>⟨rfl,I.turned (t':=s.toks) (λb o hb e=>eb b o hb e) f0 f1 f3 f4 f5⟩
 self:=λ_ _ _ _ _ st h=>wpAny_pyIter_rangeiter st h
section
variable{X:Cx}{tg:Expr}
noncomputable def mR(K:PySem.W.Frag)(tl:TE):TI:=λσ H R=>tl σ H λx H1=>∃a,x = .ref a/\(∃xs,aA K H1 a xs)/\R (oE K a) H1
noncomputable def Fw(K:PySem.W.Frag)(tl:TE):TI:=λσ H R=>tl σ H λx H1=>∃a,x = .ref a/\(∃xs,aL K H1 a xs)/\R (u6 K a) H1
theorem c_{l:Expr}{tl:TE}(hl:PE X l tl):PI X tg l (mR X.K tl):=by
 intro pins s σ H R I h;refine aU (hl pins s σ H _ I h) λv s1 ⟨x,H1,I1,r1,q1⟩=>?_;obtain⟨a,e,⟨xs,hq⟩,q⟩:=q1;subst e;cases r1;obtain⟨aC,rv,p,hz⟩:=I1.list hq;refine wpAny_pyIter_list p.isList ?_;refine⟨s1.heap.objs.size,[s1.heap.objs.size],_,_,H1,rfl,I1.kept (t':=s1.toks) λb o e=>Heap.get?_push_of_some _ e,Z3 a _,⟨_,Heap.get?_push_size _ rfl,rfl,rfl⟩,λb hb=>?_,q⟩;have e:b=s1.heap.objs.size:=by simpa using hb
 subst e;exact I1.qb (Nat.le_refl _) (I1.aM.fresh (Nat.le_refl _))
theorem Fx{l:Expr}{tl:TE}(hl:PE X l tl):PI X tg l (Fw X.K tl):=by
 intro pins s σ H R I h;refine aU (hl pins s σ H _ I h) λv s1 ⟨x,H1,I1,r1,q1⟩=>?_;obtain⟨a,e,⟨xs,hq⟩,q⟩:=q1;subst e;cases r1;obtain⟨aC,rv,p,hz⟩:=I1.tuple hq;refine wpAny_pyIter_tuple (show s1.heap.IsTuple a aC.toArray from p) ?_;refine⟨s1.heap.objs.size,[s1.heap.objs.size],_,_,H1,rfl,I1.kept (t':=s1.toks) λb o e=>Heap.get?_push_of_some _ e,Z4 a _,⟨_,Heap.get?_push_size _ rfl,rfl,rfl⟩,λb hb=>?_,q⟩;have e:b=s1.heap.objs.size:=by simpa using hb
 subst e;exact I1.qb (Nat.le_refl _) (I1.aM.fresh (Nat.le_refl _))
theorem OS{pins:List (Addr×Obj)}{σ:St}{H:Hp}{s:Shared}{R:It->Hp->Prop}{E:Value->Shared->Prop}{lo hi:Int}{t u v:Tok}{tk:Nat}(I:Inv X pins σ H s)(h1 : -(2 ^ 62)<=lo)(h2:lo<2 ^ 62)(h3 : -(2 ^ 62)<=hi)(h4:hi<2 ^ 62)
  (q:R (qc lo (hi - lo).toNat) H):wpAny (model X.prog X.w) X.A (pyIter (.ref s.heap.objs.size)) (OR X pins σ tg R) E { s with heap:=s.heap.push { cls:=.type "range",data:=.fields #[.int lo t,.int hi u,.int 1 v] },toks:=tk }:=by
 refine wpAny_pyIter_range (IsRange.new ..) (small_one h1 h2 h3 h4) ?_;have I1:Inv X pins σ H { s with heap:=s.heap.push { cls:=.type "range",data:=.fields #[.int lo t,.int hi u,.int 1 v] },toks:=tk }:=I.kept λb o e=>Heap.get?_push_of_some _ e;refine⟨(s.heap.push { cls:=.type "range",data:=.fields #[.int lo t,.int hi u,.int 1 v] }).objs.size,[(s.heap.push { cls:=.type "range",data:=.fields #[.int lo t,.int hi u,.int 1 v] }).objs.size],_,_,H,rfl,
  I1.kept (t':=tk) λb o e=>Heap.get?_push_of_some _ e,Z5 _ lo (hi - lo).toNat,?_,λb hb=>?_,q⟩
 ·have e1:lo+((0:Nat):Int)*1=lo:=by simp
  have e2:(((hi - lo).toNat:Nat):Int) - ((0:Nat):Int)=Builtin.Range.rangeSize lo hi 1:=by rw[rangeSize_one];split <;> lia
  show IsRangeIter _ _ (lo+((0:Nat):Int)*1) ((((hi - lo).toNat:Nat):Int) - ((0:Nat):Int)) 1;rw[e1,e2];exact Heap.get?_push_size _ rfl
 ·have e:b=(s.heap.push { cls:=.type "range",data:=.fields #[.int lo t,.int hi u,.int 1 v] }).objs.size:=by simpa using hb
  subst e;exact I1.qb (Nat.le_refl _) (I1.aM.fresh (Nat.le_refl _))
noncomputable def u7(ta:TA):TI:=λσ H R=>ta σ H λvs H1=>∃j:Int,vs = [.int j]/\-(2 ^ 62)<=j/\j<2 ^ 62/\R (qc 0 j.toNat) H1
noncomputable def u9(ta:TA):TI:=λσ H R=>ta σ H λvs H1=>∃i j:Int,vs = [.int i,.int j]/\(-(2 ^ 62)<=i/\i<2 ^ 62/\-(2 ^ 62)<=j/\j<2 ^ 62)/\R (qc i (j - i).toNat) H1
theorem jB{a:Expr}{ta:TA}{p pos:Pos}(hg:Gl X "range")(hm:X.mg "range" = none)(ha:PA X [a] ta)(hs:starEach [a] X.env = [(false,eval a X.env)]:=by rfl):PI X tg (.Call (.Name "range" p) [a] [] pos) (u7 ta):=by
 intro pins s σ H R I h;refine Call_ (ou I hg hm boot_range (PyProof.Rows.callWith_type1 (aU (ha pos pins s σ H _ I h) λus s1 ⟨vs,H1,I1,r1,q1⟩=>?_) hs rfl));obtain⟨j,e,q1,q2,q⟩:=q1;subst e;cases r1 with
 | cons r rr =>
  cases rr;obtain⟨t,rfl⟩:=r;exact call_range_1 (OS I1 (by lia) (by lia) q1 q2 (by simpa using q))
theorem qd{a b:Expr}{ta:TA}{p pos:Pos}(hg:Gl X "range")(hm:X.mg "range" = none)(ha:PA X [a,b] ta)(hs:starEach [a,b] X.env = [(false,eval a X.env),(false,eval b X.env)]:=by rfl)(lP:starEach [b] X.env = [(false,eval b X.env)]:=by rfl) :
  PI X tg (.Call (.Name "range" p) [a,b] [] pos) (u9 ta):=by
 intro pins s σ H R I h;refine Call_ (ou I hg hm boot_range (PyProof.Rows.callWith_type1 (aU (ha pos pins s σ H _ I h) λus s1 ⟨vs,H1,I1,r1,q1⟩=>?_) (by rw[hs,lP]) (by rw[lP];rfl)))
 obtain⟨i,j,e,⟨q1,q2,q3,q4⟩,q⟩:=q1;subst e;cases r1 with
 | cons r rr =>
  cases rr with
  | cons r' rr =>
   cases rr;obtain⟨t,rfl⟩:=r;obtain⟨t',rfl⟩:=r';exact call_range_2 (OS I1 q1 q2 q3 q4 q)
noncomputable def jC(wi:TI)(g:TG)(tb:TS):TS:=λD σ H=>wi σ H λJ H1=>∃W:Nat->Nat->St->Hp->Prop,(∃m,W 0 m σ H1)/\∀i m σ H,W i m σ H->
 (J.stop i H/\D.nx σ H)\/(J.go i H/\∃N:St->Hp->Prop,(∀bE H',N bE H'->∃m',m' < m/\W (i+1) m' bE H')/\∀x H',J.mQ i H x H'->g x σ H' λaB H2=>tb { D with nx:=N,ct:=N,bk:=D.nx } aB H2)
noncomputable def u_(fp:List Addr)(h:Heap):List (Addr×Obj):=fp.filterMap λb=>(h.get? b).map λo=>(b,o)
theorem zq{fp:List Addr}{h:Heap}{b:Addr}{o:Obj}(hb:b∈fp)(e:h.get? b=some o):(b,o)∈u_ fp h:=List.mem_filterMap.mpr ⟨b,hb,by rw[e];rfl⟩
theorem Z6{fp:List Addr}{h:Heap}{p:Addr×Obj}(hp:p∈u_ fp h):p.1∈fp/\h.get? p.1=some p.2:=by
 obtain⟨b,hb,e⟩:=List.mem_filterMap.mp hp;cases q:h.get? b with
 | none=>rw[q] at e;cases e
 | some o =>
  rw[q] at e;have e':(b,o)=p:=Option.some.inj e;subst e';exact⟨hb,q⟩
theorem Inv.pinned{pins:List (Addr×Obj)}{σ:St}{H:Hp}{s:Shared}{fp:List Addr}(I:Inv X pins σ H s)(hf:∀b∈fp,lO X pins H b)(ho:∀b∈fp,∃o,s.heap.get? b=some o/\∀v,o.data≠.cell v):Inv X (pins++u_ fp s.heap) σ H s :=
 I.lJ λp hp=>(List.mem_append.mp hp).elim (λz=>I.pin p (List.mem_append_right _ z)) λz=>by
  obtain⟨hb,e⟩:=Z6 z;obtain⟨f0,f1,f2,_⟩:=hf p.1 hb;obtain⟨o,e',d⟩:=ho p.1 hb;rw[e] at e';cases e';exact⟨e,f0,f1,f2,d⟩
theorem Inv.vc{pins pl:List (Addr×Obj)}{σ:St}{H:Hp}{s:Shared}(I:Inv X (pins++pl) σ H s):Inv X pins σ H s:=I.lJ λp hp=>I.pin p (List.mem_append_right _ (List.mem_append_left _ hp))
theorem cQ{iter:Expr}{body:List Stmt}{wi:TI}{g:TG}{tb:TS}{pos:Pos}(hp:PassesOwn (model X.prog X.w) X.A X.env X.xe)(hc:X.calm=true)(hi:PI X tg iter wi)(hg:PG X tg g)(hb:fQ X body tb)
  (hs:∀x,foldedSetIterable iter X.env x=pure x:=by intro _;rfl):PS X (.For tg iter body [] pos) (jC wi g tb):=by
 intro pins s σ H D I h;refine wpAny_For (aU (hi pins s σ H _ I h) λv s1 h1=>aU h1 λzo s2 h2=>?_) hs;obtain⟨it,fp,tn,J,H2,e,I2,T,bV,f2,W,⟨m0,w0⟩,turn⟩:=h2;subst e
 -- what stays true of the iterator's objects through the loop
 have qe:∀ {H':Hp},(∀b∈fp,H' b=none)->∀b∈fp,lO X pins H' b:=λhn b hb=>⟨hn b hb,(f2 b hb).2⟩;refine codeAny_forLoop_any (λn s'=>∃i bE H',Inv X pins bE H' s'/\tn i s'.heap/\(∀b∈fp,H' b=none)/\W i n bE H') ?_ m0 ⟨0,σ,H2,I2,bV,λb hb=>(f2 b hb).1,w0⟩;rintro n s3 ⟨i,dX,H3,I3,vd,qg,w3⟩;rcases turn i n dX H3 w3 with⟨stop,qn⟩ | ⟨go,N,hN,step⟩
 ·refine wpAny_passesOwn hp (aU (T.done X rfl rfl rfl hc i pins s3 dX H3 X.xe I3 (qe qg) vd stop) λr s4 ⟨hr,I4⟩=>?_);subst hr;exact wpAny_execs_nil ⟨dX,H3,I4,qn⟩
 ·refine wpAny_passesOwn hp (aU (T.item X rfl rfl rfl hc i pins s3 dX H3 X.xe I3 (qe qg) vd go) λr s4 ⟨u,hr,h4⟩=>?_);subst hr;refine wpAny_passesOwn hp (aU h4 λ_ s5 ⟨x,H5,I5,r5,zz⟩=>?_);obtain⟨y5,qh,Fy⟩:=zz;have Fz:=I5.pinned (qe Fy) (T.obj _ _ qh);refine wpAny_passesOwn hp (aU (hg _ s5 dX H5 x u _ Fz r5 (step x H5 y5)) λ_ s6 ⟨oF,H6,I6,q6⟩=>?_);refine wpAny_passesOwn hp (aU (hb _ s6 oF H6 _ I6 q6) λf s7 q7=>?_);have again:∀ {iP:St} {H7:Hp},Inv X (pins++u_ fp s5.heap) iP H7 s7->N iP H7->∃m,m<n/\∃i bE H',Inv X pins bE H' s7/\tn i s7.heap/\(∀b∈fp,H' b=none)/\W i m bE H':=λ{iP H7} I7 n7=>by
   obtain⟨m',hm,w7⟩:=hN iP H7 n7;refine⟨m',hm,i+1,iP,H7,I7.vc,T.keep _ _ _ qh λb hb o e=>(I7.pin (b,o) (List.mem_append_right _ (List.mem_append_right _ (zq hb e)))).1,λb hb=>?_,w7⟩;obtain⟨o,e,d⟩:=T.obj _ _ qh b hb;exact(I7.pin (b,o) (List.mem_append_right _ (List.mem_append_right _ (zq hb e)))).2.1
  cases f with
  | next=>obtain⟨iP,H7,I7,n7⟩:=q7;exact again I7 n7
  | cont=>obtain⟨iP,H7,I7,n7⟩:=q7;exact again I7 n7
  | brk=>obtain⟨iP,H7,I7,q7⟩:=q7;exact⟨iP,H7,I7.vc,q7⟩
  | ret v=>obtain⟨x7,iP,H7,I7,r7,q7⟩:=q7;exact⟨x7,iP,H7,I7.vc,r7,q7⟩
end
theorem OT{K:PySem.W.Frag}{a:Addr}{xs:List V}{g:TG}{tb:TS}{D:Ends}{σ:St}{H:Hp}(Pv:Nat->St->Hp->Prop)(h0:Pv 0 σ H)(hl:∀i σ H,i<=xs.length->Pv i σ H->aA K H a xs)
  (hs:∀i x σ H,xs[i]? = some x->Pv i σ H->g x σ H λaB H2=>tb { D with nx:=Pv (i+1),ct:=Pv (i+1),bk:=D.nx } aB H2) (hd:∀σ H,Pv xs.length σ H->D.nx σ H) :
  ∃W:Nat->Nat->St->Hp->Prop,(∃m,W 0 m σ H)/\∀i m σ H,W i m σ H->
   ((oE K a).stop i H/\D.nx σ H)\/((oE K a).go i H/\∃N:St->Hp->Prop,(∀bE H',N bE H'->∃m',m' < m/\W (i+1) m' bE H')/\∀x H',(oE K a).mQ i H x H'->g x σ H' λaB H2=>tb { D with nx:=N,ct:=N,bk:=D.nx } aB H2):=by
 refine⟨λi m σ H=>m=xs.length - i/\i<=xs.length/\Pv i σ H,⟨xs.length,by simp,Nat.zero_le _,h0⟩,?_⟩
 rintro i m σ H ⟨rfl,hi,p⟩;have q:=hl i σ H hi p;by_cases cj:i<xs.length
 ·refine .inr ⟨⟨xs,xs[i],q,by simp[cj]⟩,Pv (i+1),λbE H' p'=>⟨xs.length - (i+1),by lia,rfl,cj,p'⟩,λx H' y=>?_⟩
  obtain⟨e,y⟩:=y;subst e;exact hs i x σ _ (y xs q) p
 ·have e:i=xs.length:=by lia
  subst e;exact .inl ⟨⟨xs,q,Nat.le_refl _⟩,hd σ H p⟩
theorem Z7{K:PySem.W.Frag}{a:Addr}{xs:List V}{g:TG}{tb:TS}{D:Ends}{σ:St}{H:Hp}(Pv:Nat->St->Hp->Prop)(h0:Pv 0 σ H)(hl:∀i σ H,i<=xs.length->Pv i σ H->aL K H a xs)
  (hs:∀i x σ H,xs[i]? = some x->Pv i σ H->g x σ H λaB H2=>tb { D with nx:=Pv (i+1),ct:=Pv (i+1),bk:=D.nx } aB H2) (hd:∀σ H,Pv xs.length σ H->D.nx σ H) :
  ∃W:Nat->Nat->St->Hp->Prop,(∃m,W 0 m σ H)/\∀i m σ H,W i m σ H->
   ((u6 K a).stop i H/\D.nx σ H)\/((u6 K a).go i H/\∃N:St->Hp->Prop,(∀bE H',N bE H'->∃m',m' < m/\W (i+1) m' bE H')/\∀x H',(u6 K a).mQ i H x H'->g x σ H' λaB H2=>tb { D with nx:=N,ct:=N,bk:=D.nx } aB H2):=by
 refine⟨λi m σ H=>m=xs.length - i/\i<=xs.length/\Pv i σ H,⟨xs.length,by simp,Nat.zero_le _,h0⟩,?_⟩
 rintro i m σ H ⟨rfl,hi,p⟩;have q:=hl i σ H hi p;by_cases cj:i<xs.length
 ·refine .inr ⟨⟨xs,xs[i],q,by simp[cj]⟩,Pv (i+1),λbE H' p'=>⟨xs.length - (i+1),by lia,rfl,cj,p'⟩,λx H' y=>?_⟩
  obtain⟨e,y⟩:=y;subst e;exact hs i x σ _ (y xs q) p
 ·have e:i=xs.length:=by lia
  subst e;exact .inl ⟨⟨xs,q,Nat.le_refl _⟩,hd σ H p⟩
theorem FA{lo:Int}{n:Nat}{g:TG}{tb:TS}{D:Ends}{σ:St}{H:Hp}(Pv:Nat->St->Hp->Prop)(h0:Pv 0 σ H)
  (hs:∀i σ H,i<n->Pv i σ H->g (.int (lo+i)) σ H λaB H2=>tb { D with nx:=Pv (i+1),ct:=Pv (i+1),bk:=D.nx } aB H2) (hd:∀σ H,Pv n σ H->D.nx σ H) :
  ∃W:Nat->Nat->St->Hp->Prop,(∃m,W 0 m σ H)/\∀i m σ H,W i m σ H->
   ((qc lo n).stop i H/\D.nx σ H)\/((qc lo n).go i H/\∃N:St->Hp->Prop,(∀bE H',N bE H'->∃m',m' < m/\W (i+1) m' bE H')/\∀x H',(qc lo n).mQ i H x H'->g x σ H' λaB H2=>tb { D with nx:=N,ct:=N,bk:=D.nx } aB H2):=by
 refine⟨λi m σ H=>m=n - i/\i<=n/\Pv i σ H,⟨n,by simp,Nat.zero_le _,h0⟩,?_⟩
 rintro i m σ H ⟨rfl,hi,p⟩;by_cases cj:i<n
 ·refine .inr ⟨cj,Pv (i+1),λbE H' p'=>⟨n - (i+1),by lia,rfl,cj,p'⟩,λx H' y=>?_⟩
  obtain⟨e,y⟩:=y;subst e y;exact hs i σ _ cj p
 ·have e:i=n:=by lia
  subst e;exact .inl ⟨Nat.le_refl _,hd σ H p⟩
noncomputable abbrev R2:=V->V->Hp->VK->Prop
noncomputable def cu(X:Cx)(f:Value->Value->Sem Value)(r:R2):Prop :=
 ∀(pins:List (Addr×Obj)) (s:Shared) (σ:St) (H:Hp) (x y:V) (v u:Value) (Q:VK),Inv X pins σ H s->RelV x v->RelV y u->r x y H Q->
  wpAny (model X.prog X.w) X.A (f v u) (EP X pins σ Q) X.xe s
noncomputable def FD(X:Cx)(f:Value->Sem Value)(r:V->Hp->VK->Prop):Prop :=
 ∀(pins:List (Addr×Obj)) (s:Shared) (σ:St) (H:Hp) (x:V) (v:Value) (Q:VK),Inv X pins σ H s->RelV x v->r x H Q->
  wpAny (model X.prog X.w) X.A (f v) (EP X pins σ Q) X.xe s
noncomputable def fS(X:Cx)(f:Value)(r:List V->Hp->VK->Prop):Prop :=
 ∀(pins:List (Addr×Obj)) (s:Shared) (σ:St) (H:Hp) (xs:List V) (us:List Value) (Q:VK),Inv X pins σ H s->Vals xs us->r xs H Q->
  wpAny (model X.prog X.w) X.A (call f us) (EP X pins σ Q) X.xe s
noncomputable def Z8(X:Cx)(r:V->Hp->(Bool->Hp->Prop)->Prop):Prop :=
 ∀(pins:List (Addr×Obj)) (s:Shared) (σ:St) (H:Hp) (x:V) (v:Value) (Q:Bool->Hp->Prop),Inv X pins σ H s->RelV x v->r x H Q->
  wpAny (model X.prog X.w) X.A (truthy v) (TP X pins σ Q) X.xe s
noncomputable def oG(r:R2)(ta tb:TE):TE:=λσ H Q=>ta σ H λx H1=>tb σ H1 λy H2=>r x y H2 Q
noncomputable def ve(r:V->Hp->VK->Prop)(ta:TE):TE:=λσ H Q=>ta σ H λx H1=>r x H1 Q
noncomputable def rI(C:Int->Int->Prop)(g:Int->Int->V):R2:=λx y H Q=>∃i j,x = .int i/\y = .int j/\C i j/\Q (g i j) H
noncomputable def gF(g:Int->Int->V):R2:=λx y H Q=>∃i j,x = .int i/\y = .int j/\Q (g i j) H
noncomputable def rU(g:Int->V):V->Hp->VK->Prop:=λx H Q=>∃i,x = .int i/\Q (g i) H
section
variable{X:Cx}{a b c:Expr}{ta tb tc:TE}{pos:Pos}
theorem FE(ha:PE X a ta)(hb:PE X b tb){pins:List (Addr×Obj)}{s:Shared}{σ:St}{H:Hp}{R:V->V->Hp->Prop}(I:Inv X pins σ H s)
  (h:ta σ H λx H1=>tb σ H1 λy H2=>R x y H2) {Q:Value->Shared->Prop} {f:Value->Value->Sem Value}
  (hf:∀v u s2 x y H2,Inv X pins σ H2 s2->RelV x v->RelV y u->R x y H2->wpAny (model X.prog X.w) X.A (f v u) Q X.xe s2) :
  wpAny (model X.prog X.w) X.A (eval a X.env) (λv aZ=>wpAny (model X.prog X.w) X.A (eval b X.env) (λu jg=>wpAny (model X.prog X.w) X.A (f v u) Q X.xe jg) X.xe aZ) X.xe s:=by
 refine aU (ha pins s σ H _ I h) λv s1 ⟨x,H1,I1,r1,q1⟩=>?_;refine aU (hb pins s1 σ H1 _ I1 q1) λu s2 ⟨y,H2,I2,r2,q2⟩=>?_;exact hf v u s2 x y H2 I2 r1 r2 q2
theorem aE{op:Operator}{r:R2}(ho:cu X (binaryOp op) r)(ha:PE X a ta)(hb:PE X b tb):PE X (.BinOp a op b pos) (oG r ta tb):=by
 intro pins s σ H Q I h;exact wpAny_BinOp (FE ha hb I h λv u s2 x y H2 I2 rx ry q=>ho pins s2 σ H2 x y v u Q I2 rx ry q)
theorem qi{op:UnaryOp}{r:V->Hp->VK->Prop}(ho:FD X (unaryOp op) r)(ha:PE X a ta):PE X (.UnaryOp op a pos) (ve r ta):=by
 intro pins s σ H Q I h;exact UnaryOp_ (aU (ha pins s σ H _ I h) λv s1 ⟨x,H1,I1,r1,q1⟩=>ho pins s1 σ H1 x v Q I1 r1 q1)
theorem zu{f:Value->Value->Sem Value}{C:Int->Int->Prop}{g:Int->Int->Int}
  (rule:∀(i j:Int) (t u:Tok) (s:Shared) (Q:Value->Shared->Prop) (E:Value->Shared->Prop),C i j->Q (.int (g i j) s.toks) { s with toks:=s.toks+1 }->wpAny (model X.prog X.w) X.A (f (.int i t) (.int j u)) Q E s) :
  cu X f (rI C λi j=>.int (g i j)):=by
 intro pins s σ H x y v u Q I rx ry h;obtain⟨i,j,rfl,rfl,hc,q⟩:=h;obtain⟨t,rfl⟩:=rx;obtain⟨t',rfl⟩:=ry;exact rule i j t t' s _ _ hc ⟨.int (g i j),H,I.tok _,⟨_,rfl⟩,q⟩
theorem OU{f:Value->Value->Sem Value}{g:Int->Int->Int}
  (rule:∀(i j:Int) (t u:Tok) (s:Shared) (Q:Value->Shared->Prop) (E:Value->Shared->Prop),Q (.int (g i j) s.toks) { s with toks:=s.toks+1 }->wpAny (model X.prog X.w) X.A (f (.int i t) (.int j u)) Q E s) :
  cu X f (gF λi j=>.int (g i j)):=by
 intro pins s σ H x y v u Q I rx ry h;obtain⟨i,j,rfl,rfl,q⟩:=h;obtain⟨t,rfl⟩:=rx;obtain⟨t',rfl⟩:=ry;exact rule i j t t' s _ _ ⟨.int (g i j),H,I.tok _,⟨_,rfl⟩,q⟩
theorem zw{f:Value->Value->Sem Value}{g:Int->Int->Bool}
  (rule:∀(i j:Int) (t u:Tok) (s:Shared) (Q:Value->Shared->Prop) (E:Value->Shared->Prop),Q (.bool (g i j)) s->wpAny (model X.prog X.w) X.A (f (.int i t) (.int j u)) Q E s) :
  cu X f (gF λi j=>.bl (g i j)):=by
 intro pins s σ H x y v u Q I rx ry h;obtain⟨i,j,rfl,rfl,q⟩:=h;obtain⟨t,rfl⟩:=rx;obtain⟨t',rfl⟩:=ry;exact rule i j t t' s _ _ ⟨.bl (g i j),H,I,rfl,q⟩
noncomputable def vf(i j:Int):Prop:=0<j/\j<1073741824
noncomputable def zx(i j:Int):Prop:=0<=j/\j<=1000000/\i.natAbs<2 ^ 64
noncomputable def qj(i j:Int):Prop:=(-(2 ^ 64)<i/\i<2 ^ 64)\/(-(2 ^ 64)<j/\j<2 ^ 64)
theorem qj.ok{i j:Int}(h:qj i j):IntMulOk i j:=by
 rcases h with⟨h1,h2⟩ | ⟨h1,h2⟩
 ·exact .of_left (intBits_le_64 h1 h2)
 ·exact .of_right (intBits_le_64 h1 h2)
theorem dz:cu X (binaryOp .Add) (gF λi j=>.int (i+j)):=OU λ_ _ _ _ _ _ _ q=>add_int q
theorem lQ:cu X (binaryOp .Sub) (gF λi j=>.int (i - j)):=OU λ_ _ _ _ _ _ _ q=>sub_int q
theorem rN:cu X (binaryOp .Mult) (rI qj λi j=>.int (i*j)):=zu λ_ _ _ _ _ _ _ hc q=>mul_int q hc.ok
theorem rO:cu X (binaryOp .FloorDiv) (rI vf λi j=>.int (i / j)):=zu λi j _ _ _ _ _ hc q=>by
 have h1:(0:Int)<j:=hc.1;have h2:j<1073741824:=hc.2;exact floordiv_int (by lia) (by rw[Int.fdiv_eq_ediv_of_nonneg i (by lia)];exact q) (.inl (PyProof.noPylong_small (by lia)))
theorem cB:cu X (binaryOp .Mod) (rI (λ_ j=>0<j) λi j=>.int (i % j)):=zu λi j _ _ _ _ _ hc q=>by
 have h1:(0:Int)<j:=hc;exact mod_int' (by lia) (by rw[Int.fmod_eq_emod_of_nonneg i (by lia)];exact q)
theorem oH:cu X (binaryOp .Pow) (rI zx λi j=>.int (i ^ j.toNat)):=zu λ_ _ _ _ _ _ _ hc q=>pow_int_small hc.1 hc.2.1 hc.2.2 q
theorem Z9{f:Value->Sem Value}{g:Int->Int}
  (rule:∀(i:Int) (t:Tok) (s:Shared) (Q:Value->Shared->Prop) (E:Value->Shared->Prop),Q (.int (g i) s.toks) { s with toks:=s.toks+1 }->wpAny (model X.prog X.w) X.A (f (.int i t)) Q E s) :
  FD X f (rU λi=>.int (g i)):=by
 intro pins s σ H x v Q I rx h;obtain⟨i,rfl,q⟩:=h;obtain⟨t,rfl⟩:=rx;exact rule i t s _ _ ⟨.int (g i),H,I.tok _,⟨_,rfl⟩,q⟩
theorem qk:FD X (unaryOp .USub) (rU λi=>.int (-i)):=Z9 λ_ _ _ _ _ q=>neg_int q
end
noncomputable def jD:V->V->Bool
 | .aP,.aP=>true | .aP,.int _=>true | .int _,.aP=>true | .aP,.bl _=>true | .bl _,.aP=>true | .aP,.str _=>true | .str _,.aP=>true
 | .int _,.int _=>true | .bl _,.bl _=>true | .str _,.str _=>true | .gA _,.gA _=>true
 | .int _,.str _=>true | .str _,.int _=>true | .bl _,.str _=>true | .str _,.bl _=>true
 | _,_=>false
noncomputable def vg:R2:=λx y H Q=>jD x y=true/\Q (.bl (decide (x=y))) H
noncomputable def vh:R2:=λx y H Q=>jD x y=true/\Q (.bl (!decide (x=y))) H
theorem OV{i j:Int}:decide (V.int i=V.int j)=(i == j):=by
 rw[Bool.eq_iff_iff];simp
theorem OW{i j:Bool}:decide (V.bl i=V.bl j)=(i == j):=by
 rw[Bool.eq_iff_iff];simp
theorem OX{i j:Str}:decide (V.str i=V.str j)=(i == j):=by
 rw[Bool.eq_iff_iff];simp
theorem OY{i j:Array UInt8}:decide (V.gA i=V.gA j)=(i.toList == j.toList):=by
 rw[Bool.eq_iff_iff];cases i;cases j;simp
section
variable{X:Cx}{a b c:Expr}{ta tb tc:TE}{pos:Pos}
theorem dg{pins:List (Addr×Obj)}{σ:St}{H:Hp}{s:Shared}{Q:VK}{k k':Bool}(I:Inv X pins σ H s)(q:Q (.bl k) H)(e:k=k'):EP X pins σ Q (.bool k') s:=by
 subst e;exact⟨.bl k,H,I,rfl,q⟩
theorem jj:cu X (compareOp .Eq) vg:=by
 intro pins s σ H x y v u Q I rx ry h;obtain⟨hs,q⟩:=h;cases x with
 | aP =>
  cases rx;cases y with
  | aP=>cases ry;exact PySem.EqNone.eq_none_none (dg I q (by simp))
  | bl j=>cases ry;exact PySem.EqNone.eq_none_bool (dg I q (by simp))
  | int j=>obtain⟨t',rfl⟩:=ry;exact PySem.EqNone.eq_none_int (dg I q (by simp))
  | str j=>obtain⟨t',rfl⟩:=ry;exact PySem.EqNone.eq_none_str (dg I q (by simp))
  | _=>exact absurd (show false=true from hs) Bool.false_ne_true
 | bl i =>
  cases rx;cases y with
  | aP=>cases ry;exact PySem.EqNone.eq_bool_none (dg I q (by simp))
  | bl j=>cases ry;exact eq_bool (dg I q OW)
  | str j=>obtain⟨t',rfl⟩:=ry;exact PySem.EqMixed.eq_bool_str (dg I q (by simp))
  | _=>exact absurd (show false=true from hs) Bool.false_ne_true
 | int i =>
  obtain⟨t,rfl⟩:=rx;cases y with
  | aP=>cases ry;exact PySem.EqNone.eq_int_none (dg I q (by simp))
  | int j=>obtain⟨t',rfl⟩:=ry;exact eq_int (dg I q OV)
  | str j=>obtain⟨t',rfl⟩:=ry;exact PySem.EqMixed.eq_int_str (dg I q (by simp))
  | _=>exact absurd (show false=true from hs) Bool.false_ne_true
 | str i =>
  obtain⟨t,rfl⟩:=rx;cases y with
  | aP=>cases ry;exact PySem.EqNone.eq_str_none (dg I q (by simp))
  | bl j=>cases ry;exact PySem.EqMixed.eq_str_bool (dg I q (by simp))
  | int j=>obtain⟨t',rfl⟩:=ry;exact PySem.EqMixed.eq_str_int (dg I q (by simp))
  | str j=>obtain⟨t',rfl⟩:=ry;exact eq_str (dg I q OX)
  | _=>exact absurd (show false=true from hs) Bool.false_ne_true
 | gA i =>
  obtain⟨t,rfl⟩:=rx;cases y with
  | gA j=>obtain⟨t',rfl⟩:=ry;exact PySem.W.eq_bytes (dg I q OY)
  | _=>exact absurd (show false=true from hs) Bool.false_ne_true
 | _=>cases y <;> exact absurd (show false=true from hs) Bool.false_ne_true
theorem zy:cu X (compareOp .NotEq) vh:=by
 intro pins s σ H x y v u Q I rx ry h;obtain⟨hs,q⟩:=h;cases x with
 | aP =>
  cases rx;cases y with
  | aP=>cases ry;exact PySem.EqNone.ne_none_none (dg I q (by simp))
  | bl j=>cases ry;exact PySem.EqNone.ne_none_bool (dg I q (by simp))
  | int j=>obtain⟨t',rfl⟩:=ry;exact PySem.EqNone.ne_none_int (dg I q (by simp))
  | str j=>obtain⟨t',rfl⟩:=ry;exact PySem.EqNone.ne_none_str (dg I q (by simp))
  | _=>exact absurd (show false=true from hs) Bool.false_ne_true
 | bl i =>
  cases rx;cases y with
  | aP=>cases ry;exact PySem.EqNone.ne_bool_none (dg I q (by simp))
  | bl j=>cases ry;exact ne_bool (dg I q (congrArg not OW))
  | str j=>obtain⟨t',rfl⟩:=ry;exact PySem.EqMixed.ne_bool_str (dg I q (by simp))
  | _=>exact absurd (show false=true from hs) Bool.false_ne_true
 | int i =>
  obtain⟨t,rfl⟩:=rx;cases y with
  | aP=>cases ry;exact PySem.EqNone.ne_int_none (dg I q (by simp))
  | int j=>obtain⟨t',rfl⟩:=ry;exact ne_int (dg I q (congrArg not OV))
  | str j=>obtain⟨t',rfl⟩:=ry;exact PySem.EqMixed.ne_int_str (dg I q (by simp))
  | _=>exact absurd (show false=true from hs) Bool.false_ne_true
 | str i =>
  obtain⟨t,rfl⟩:=rx;cases y with
  | aP=>cases ry;exact PySem.EqNone.ne_str_none (dg I q (by simp))
  | bl j=>cases ry;exact PySem.EqMixed.ne_str_bool (dg I q (by simp))
  | int j=>obtain⟨t',rfl⟩:=ry;exact PySem.EqMixed.ne_str_int (dg I q (by simp))
  | str j=>obtain⟨t',rfl⟩:=ry;exact ne_str (dg I q (congrArg not OX))
  | _=>exact absurd (show false=true from hs) Bool.false_ne_true
 | gA i =>
  obtain⟨t,rfl⟩:=rx;cases y with
  | gA j=>obtain⟨t',rfl⟩:=ry;exact PySem.W.ne_bytes (dg I q (congrArg not OY))
  | _=>exact absurd (show false=true from hs) Bool.false_ne_true
 | _=>cases y <;> exact absurd (show false=true from hs) Bool.false_ne_true
theorem fz:cu X (compareOp .Lt) (gF λi j=>.bl (decide (i<j))):=zw λ_ _ _ _ _ _ _ q=>lt_int q
theorem Z_:cu X (compareOp .LtE) (gF λi j=>.bl (decide (i<=j))):=zw λ_ _ _ _ _ _ _ q=>le_int q
theorem iQ:cu X (compareOp .Gt) (gF λi j=>.bl (decide (j<i))):=zw λ_ _ _ _ _ _ _ q=>gt_int q
theorem rP:cu X (compareOp .GtE) (gF λi j=>.bl (decide (j<=i))):=zw λ_ _ _ _ _ _ _ q=>ge_int q
theorem OZ:cu X (compareOp .Is) (λx y H Q=>y = .aP/\Q (.bl (decide (x = .aP))) H):=by
 intro pins s σ H x y v u Q I rx ry h;obtain⟨rfl,q⟩:=h;cases ry;refine is_none_gen (dg I q ?_);cases x <;> first
  | (cases rx;rfl)
  | (obtain⟨t,rfl⟩:=rx;rfl)
theorem O0:cu X (compareOp .IsNot) (λx y H Q=>y = .aP/\Q (.bl (!decide (x = .aP))) H):=by
 intro pins s σ H x y v u Q I rx ry h;obtain⟨rfl,q⟩:=h;cases ry;refine isnot_none_gen (dg I q ?_);cases x <;> first
  | (cases rx;rfl)
  | (obtain⟨t,rfl⟩:=rx;rfl)
theorem bI(b:Expr){op:CmpOp}(h:op≠.In:=by decide)(h2:op≠.NotIn:=by decide):behindInMarks op b=false:=by
 have e1:(op == CmpOp.In)=false:=by cases op <;> first | rfl | exact absurd rfl h
 have e2:(op == CmpOp.NotIn)=false:=by cases op <;> first | rfl | exact absurd rfl h2
 cases b <;> simp[behindInMarks,e1,e2]
theorem gR{op:CmpOp}{r:R2}(ho:cu X (compareOp op) r)(ha:PE X a ta)(hb:PE X b tb)(hm:behindInMarks op b=false):PE X (.Compare a [op] [b] pos) (oG r ta tb):=by
 intro pins s σ H Q I h;exact wpAny_Compare1 (FE ha hb I h λv u s2 x y H2 I2 rx ry q=>ho pins s2 σ H2 x y v u Q I2 rx ry q) hm
noncomputable def vj(t:TE):TT:=λσ H Q=>t σ H λx H'=>∃k,x = .bl k/\Q k H'
theorem cW{op:CmpOp}{r:R2}(ho:cu X (compareOp op) r)(ha:PE X a ta)(hb:PE X b tb)(hm:behindInMarks op b=false):PT X (.Compare a [op] [b] pos) (vj (oG r ta tb)):=by
 intro pins s σ H Q I h;refine wpAny_isTrue_Compare1 (aU (ha pins s σ H _ I h) λv s1 ⟨x,H1,I1,r1,q1⟩=>aU (hb pins s1 σ H1 _ I1 q1) λu s2 ⟨y,H2,I2,r2,q2⟩ =>
  aU (ho pins s2 σ H2 x y v u _ I2 r1 r2 q2) λc s3 ⟨z,H3,I3,r3,zz⟩=>?_) hm
 obtain⟨k,e,q3⟩:=zz;subst e;cases r3;exact wpAny_truthy_bool ⟨H3,I3,q3⟩
noncomputable def zA(r r':R2)(ta tb tc:TE):TE:=λσ H Q=>ta σ H λx H1=>tb σ H1 λy H2=>r x y H2 λz H3=>∃k,z = .bl k/\
 (if k=true then tc σ H3 λw' H4=>r' y w' H4 Q else Q (.bl false) H3)
noncomputable def FF(K:PySem.W.Frag)(x:V)(H:Hp)(k:Bool):Prop :=
 match x with
 | .aP=>k=false
 | .bl b=>k=b
 | .int i=>k=(i != 0)
 | .str y=>y.length<=sizeLine/\k=((y.length:Int) != 0)
 | .gA y=>y.size<=sizeLine/\k=((y.size:Int) != 0)
 | .ref p=>(∃xs,aA K H p xs/\k = !xs.isEmpty)\/(∃xs,aL K H p xs/\k = !xs.isEmpty)\/∃az,H p=some (.dK az)/\k = !az.isEmpty
 | _=>False
theorem aaa{κ:Type}{az:List (κ×V)}{vs:List (κ×Value)}(r:KV az vs):(!vs.isEmpty) = !az.isEmpty:=by
 cases r <;> rfl
theorem O1{xs:List V}{aC:List Value}(r:Vals xs aC):(!aC.toArray.isEmpty) = !xs.isEmpty:=by
 cases r <;> simp
theorem vm:(sizeLine:Nat)<2 ^ 63:=by rw[sizeLine_eq];decide
theorem aab:Z8 X (λx H Q=>∃k,FF X.K x H k/\Q k H):=by
 intro pins s σ H x v Q I rx h;obtain⟨k,e,q⟩:=h;have hl:=vm;have hs:sizeLine=16777216:=sizeLine_eq;cases x with
 | aP =>
  cases rx;have e':k=false:=e;subst e';exact truthy_none ⟨H,I,q⟩
 | bl b =>
  cases rx;have e':k=b:=e;subst e';exact wpAny_truthy_bool ⟨H,I,q⟩
 | int i =>
  obtain⟨t,rfl⟩:=rx;have e':k=(i != 0):=e;subst e';exact PySem.P.truthy_int ⟨H,I,q⟩
 | str y =>
  obtain⟨t,rfl⟩:=rx;obtain⟨hy,e'⟩:y.length<=sizeLine/\k=((y.length:Int) != 0):=e;subst e';exact PySem.P.truthy_str (by lia) ⟨H,I.tok _,q⟩
 | gA y =>
  obtain⟨t,rfl⟩:=rx;obtain⟨hy,e'⟩:y.size<=sizeLine/\k=((y.size:Int) != 0):=e;subst e';exact PySem.W.truthy_bytes (by lia) ⟨H,I.tok _,q⟩
 | ref p =>
  cases rx;have e':(∃xs,aA X.K H p xs/\k = !xs.isEmpty)\/(∃xs,aL X.K H p xs/\k = !xs.isEmpty)\/∃az,H p=some (.dK az)/\k = !az.isEmpty:=e;rcases e' with⟨xs,hx,e'⟩ | ⟨xs,hx,e'⟩ | ⟨az,hx,e'⟩
  ·subst e';obtain⟨aC,r,pl,hz⟩:=I.list hx;have hlen:=r.length;exact wpAny_truthy_list pl.isList (by simp only[List.size_toArray];lia) ⟨H,I.tok _,by rw[O1 r];exact q⟩
  ·subst e';obtain⟨aC,r,pl,hz⟩:=I.tuple hx;have hlen:=r.length;exact truthy_tuple pl (by simp only[List.size_toArray];lia) ⟨H,I.tok _,by rw[O1 r];exact q⟩
  ·subst e';obtain⟨hz,hS,vs,r,m⟩:az.length<=sizeLine/\(p == sysModules)=false/\∃vs,KV az vs/\s.heap.DictOf (dI X.prog X.w) p vs:=I.aM p _ hx;have hlen:az.length=vs.length:=Paired.length r;exact wpAny_truthy_dict hS m (by lia) ⟨H,I.tok _,by rw[aaa r];exact q⟩
 | _=>exact(show False from e).elim
theorem FG(ha:PE X a ta)(he:∀whole,isTrue a X.env whole=(do let v ← whole;standAt a.pos;holding [v] (truthy v))) :
  PT X a (λσ H Q=>ta σ H λx H'=>∃k,FF X.K x H' k/\Q k H'):=by
 intro pins s σ H Q I h;exact isTrue_plain (aU (ha pins s σ H _ I h) λv s1 ⟨x,H1,I1,r1,q1⟩=>aab pins s1 σ H1 x v Q I1 r1 q1) (he _)
theorem vals1{x:V}{us:List Value}(r:Vals [x] us):∃u,us = [u]/\RelV x u:=by
 cases r with
 | cons r1 r2=>cases r2;exact⟨_,rfl,r1⟩
theorem vals2{x y:V}{us:List Value}(r:Vals [x,y] us):∃u w',us = [u,w']/\RelV x u/\RelV y w':=by
 cases r with
 | cons r1 r2 =>
  cases r2 with
  | cons r3 r4=>cases r4;exact⟨_,_,rfl,r1,r3⟩
theorem FH:fS X (.builtin "abs") (λxs H Q=>∃i,xs = [.int i]/\Q (.int (if i<0 then -i else i)) H):=by
 intro pins s σ H xs us Q I r h;obtain⟨i,rfl,q⟩:=h;obtain⟨u,rfl,t,rfl⟩:=vals1 r;exact call_abs_int λu tk=>⟨.int (if i<0 then -i else i),H,I.tok _,⟨_,rfl⟩,q⟩
theorem FI(hc:X.calm=true):fS X (.builtin "min") (λxs H Q=>∃i j,xs = [.int i,.int j]/\Q (.int (if j<i then j else i)) H):=by
 intro pins s σ H xs us Q I r h;obtain⟨i,j,rfl,q⟩:=h;obtain⟨u,w',rfl,⟨t,rfl⟩,⟨t',rfl⟩⟩:=vals2 r;refine min_two_ints (I.ok.hd hc) λh' tk k=>⟨_,H,I.kept k,?_,q⟩;by_cases hj:j<i
 ·rw[if_pos hj,if_pos hj];exact⟨_,rfl⟩
 ·rw[if_neg hj,if_neg hj];exact⟨_,rfl⟩
end
structure ql(h:Heap)(x dx C:Addr)(mA:Str->Option Value):Prop where
 obj:h.get? x=some (PySem.W.instObj C dx)
 ns:h.Ns1 dx mA
 ne:dx≠x
theorem aac{h:Heap}{dx:Addr}{mA:Str->Option Value}(n:h.Ns1 dx mA):∃od,h.get? dx=some od/\∀name,PySem.W.lookIn name od=some (mA name):=by
 obtain⟨o,es,ep,ho,hd,hk,_,hm⟩:=n;refine⟨o,ho,λname=>?_⟩
 have e:=hm name;unfold nsFind findBy at e;rw[← Array.find?_toList] at e;unfold PySem.W.lookIn;rw[hd];dsimp only;split
 ·rename_i y q;rw[q] at e;exact congrArg some e
 ·rename_i q;rw[q] at e;have a:es.toList.any (·.refKey)=false:=by
   rw[List.any_eq_false];intro y hy;obtain⟨z,t,oJ⟩:=hk y (Array.mem_toList_iff.mp hy);simp[DictEntry.refKey,oJ]
  have a':¬ es.toList.any (·.refKey)=true:=by rw[a];exact Bool.false_ne_true
  rw[if_neg a'];exact congrArg some e
theorem ql.look{h:Heap}{x dx C:Addr}{mA:Str->Option Value}(I:ql h x dx C mA):∃od,PySem.W.InstAt h x (PySem.W.instObj C dx) C (some od)/\∀name,PySem.W.lookIn name od=some (mA name) :=
 let ⟨od,ho,hl⟩:=aac I.ns
 ⟨od,⟨I.obj,rfl,rfl,ho⟩,hl⟩
section
variable{prog:Program}{w:World}{A:Around}{E:Value->Shared->Prop}{s:Shared}{K:PySem.W.Frag}{x dx C f:Addr}{mA:Str->Option Value}{name:Str}{v:Value}
theorem get_map{expr:Bool}{Q:Value->Shared->Prop}(X:K.In s.heap)(I:ql s.heap x dx C mA)(hg:PySem.W.plainGet K C name=true)(hh:PySem.W.hasDictIn K C=true)
  (ha:PySem.W.findIn K (.ref C) name=some none) (hv:mA name=some v) (hv':PySem.W.handedIn v=true) (h:Q v { s with toks:=s.toks+1 }) :
  wpAny (model prog w) A (getAttr (.ref x) name expr) Q E s:=by
 obtain⟨od,J,hl⟩:=I.look;exact PySem.W.get_value X J (PySem.W.plainGet_of hg).1 (PySem.W.findObj_own hh ha rfl (by rw[hl,hv])) hv' h
theorem aad{pl:Sem Bool}{Q:Value×List Value->Shared->Prop}(X:K.In s.heap)(I:ql s.heap x dx C mA)(hg:PySem.W.plainGet K C name=true)
  (hf:PySem.W.findIn K (.ref C) name=some (some (.ref f))) (ht:PySem.W.isFn K (.ref f)=true) (hv:mA name=none) (h:Q (.ref f,[.ref x]) s) :
  wpAny (model prog w) A (getMethod (.ref x) name pl) Q E s:=by
 obtain⟨od,J,hl⟩:=I.look;exact PySem.W.method_fn X J (PySem.W.plainGet_of hg).1 (PySem.W.plainGet_of hg).2 hf (beq_iff_eq.mp ht) (by show (PySem.W.lookIn name od).map (·.isSome)=some false;rw[hl,hv];rfl) h
theorem aae{ns:List Str}{Q:Unit->Shared->Prop}(X:K.In s.heap)(I:ql s.heap x dx C mA)
  (hs:PySem.W.findIn K (.ref C) "__setattr__" = some (some (.builtin "object.__setattr__"))) (hp:PySem.W.plainOver K C=true) (ht:PySem.W.takerIn K C name=some none) (hh:PySem.W.hasDictIn K C=true)
  (hw:PySem.Within mA ns) (hsz:ns.length<=sizeLine)
  (h:∀h',ql h' x dx C (λy=>if y=name then some v else mA y)->Heap.SameBut dx s.heap h'->Q () { s with heap:=h',toks:=s.toks+2 }) :
  wpAny (model prog w) A (setAttr (.ref x) name v) Q E s:=by
 obtain⟨od,J,hl⟩:=I.look;refine PySem.W.set_plain X J hs (PySem.W.osa_open (s:={ s with toks:=s.toks+1 }) (r:=none) X J hp ht λb=>?_)
 obtain⟨cd,hc,eF⟩:=PySem.W.any_some hh;have hx:s.heap.get? x=some ⟨.ref C,some dx,.plain,#[]⟩:=I.obj;refine wpAny_bind (wpAny_pure (wpAny_bind (wpAny_bind (wpAny_loadPart hx (wpAny_bind (PySem.W.Looks.here (s:={ s with toks:=s.toks+1 }) (PySem.W.looks_clsIn X hc) ?_))))));rw[eF];refine wpAny_pure (a:=some dx) (wpAny_bind (wpAny_pure (wpAny_bind ?_)));refine wpAny_nsSet1 (s:={ s with toks:=s.toks+1 }) I.ns λh' rQ lP=>?_;obtain⟨oD,esD,epD,hoD,hdD,hcD⟩:=rQ.count (PySem.Within.cons name v hw);refine wpAny_bind (wpAny_lookBehind hoD (by rw[hdD];exact pastItsLine_dict (Nat.le_trans hcD (by rw[List.length_cons];lia))) ?_)
 exact wpAny_pure (h _ ⟨(lP.2 _ (Ne.symm I.ne)).trans I.obj,rQ,I.ne⟩ lP)
theorem aaf{R:Result->Shared->Prop}{vs:List Value}{kw:List (Str×Value)}(X:K.In s.heap)(hm:PySem.W.makesIn K C=true)
  (hi:PySem.W.findIn K (.ref C) "__init__" = some (some (.ref f))) (hf:PySem.W.typeIn K (.ref f)=some (.type "function"))
  (h:codeAny (model prog w) (A.under (.builtin "type.__call__" ⟨.ref C::vs,kw⟩)) (.call (.ref f) ⟨.ref (s.heap.objs.size+1)::vs,kw⟩) (PySem.W.InitBack (s.heap.objs.size+1) R)
   { s with heap:=(s.heap.push PySem.W.emptyDict).push (PySem.W.instObj C s.heap.objs.size)}) :
  codeAny (model prog w) A (.call (.ref C) ⟨vs,kw⟩) R s:=by
 obtain⟨hh,g,d,t,os⟩:=s;exact PySem.W.make_core (PySem.W.makes_of X hm) (PySem.W.looks_findIn X hi) (λself=>PySem.W.bind_fn X self hf) (.inl rfl) h
end
noncomputable def eT(f:Str)(v:V):List (Str×V)->List (Str×V)
 | []=>[(f,v)]
 | (g,x)::r=>if g=f then(g,v)::r else(g,x)::eT f v r
theorem O2(f g:Str)(v:V):∀fs:List (Str×V),(eT f v fs).lookup g=if g=f then some v else fs.lookup g
 | []=>by
  show List.lookup g [(f,v)] = _;by_cases h:g=f
  ·have hb:(g == f)=true:=beq_iff_eq.mpr h;simp only[List.lookup,hb,if_pos h]
  ·have hb:(g == f)=false:=beq_eq_false_iff_ne.mpr h;simp only[List.lookup,hb,if_neg h]
 | (k,x)::r=>by
  have ih:=O2 f g v r;rw[show eT f v ((k,x)::r)=(if k=f then(k,v)::r else(k,x)::eT f v r) from rfl]
  by_cases hk:k=f
  ·rw[if_pos hk];by_cases h:g=k
   ·have hb:(g == k)=true:=beq_iff_eq.mpr h;simp only[List.lookup,hb,if_pos (h.trans hk)]
   ·have hb:(g == k)=false:=beq_eq_false_iff_ne.mpr h;simp only[List.lookup,hb,if_neg (λe:g=f=>h (e.trans hk.symm))]
  ·rw[if_neg hk];by_cases h:g=k
   ·have hb:(g == k)=true:=beq_iff_eq.mpr h;simp only[List.lookup,hb,if_neg (λe:g=f=>hk (h.symm.trans e))]
   ·have hb:(g == k)=false:=beq_eq_false_iff_ne.mpr h;simp only[List.lookup,hb];exact ih
theorem FJ(f:Str)(v:V):∀fs:List (Str×V),f∈(eT f v fs).map (·.1)/\∀g,g∈fs.map (·.1)->g∈(eT f v fs).map (·.1)
 | []=>⟨by simp[eT],λg h=>by simp at h⟩
 | (k,x)::r=>by
  obtain⟨i1,i2⟩:=FJ f v r;rw[show eT f v ((k,x)::r)=(if k=f then(k,v)::r else(k,x)::eT f v r) from rfl]
  by_cases hk:k=f
  ·rw[if_pos hk];subst hk;exact⟨by simp,λg h=>by simpa using h⟩
  ·rw[if_neg hk];refine⟨?_,λg h=>?_⟩
   ·rw[List.map_cons];exact List.mem_cons_of_mem _ i1
   ·rw[List.map_cons] at h ⊢;rcases List.mem_cons.mp h with e | e
    ·exact List.mem_cons.mpr (.inl e)
    ·exact List.mem_cons_of_mem _ (i2 g e)
theorem O3(f:Str)(v:V):∀fs:List (Str×V),(eT f v fs).length<=fs.length+1
 | []=>by simp[eT]
 | (k,x)::r=>by
  have ih:=O3 f v r;rw[show eT f v ((k,x)::r)=(if k=f then(k,v)::r else(k,x)::eT f v r) from rfl]
  by_cases hk:k=f
  ·rw[if_pos hk,List.length_cons,List.length_cons];lia
  ·rw[if_neg hk,List.length_cons,List.length_cons];lia
theorem gb.some_of{v:V}{o:Option Value}(r:gb (some v) o):∃u,o=some u/\RelV v u:=by
 cases o with
 | none=>exact(show False from r).elim
 | some u=>exact⟨u,rfl,r⟩
theorem gb.none_of{o:Option Value}(r:gb none o):o=none:=by
 cases o with
 | none=>rfl
 | some u=>exact(show False from r).elim
theorem aag{v:V}{u:Value}(r:RelV v u):PySem.W.handedIn u=true:=by
 cases v with
 | aP=>cases (show u=Value.none from r);rfl
 | bl b=>cases (show u=Value.bool b from r);rfl
 | int i=>obtain⟨t,e⟩:=(show ∃t,u=Value.int i t from r);cases e;rfl
 | str x=>obtain⟨t,e⟩:=(show ∃t,u=Value.str x t from r);cases e;rfl
 | gA b=>obtain⟨t,e⟩:=(show ∃t,u=Value.bytes b t from r);cases e;rfl
 | lH b=>obtain⟨t,e⟩:=(show ∃t,u=Value.float b t from r);cases e;rfl
 | ref a=>cases (show u=Value.ref a from r);rfl
 | ty n=>cases (show u=Value.type n from r);rfl
section
variable{P:Program}{w:World}{H H':Hp}{h h':Heap}{a C dx:Addr}{fs Ox:List (Str×V)}
theorem zB(aM:cU P w H h)(e:H a=some (.ins C dx fs)):∃mA,ql h a dx C mA/\(∀f,gb (fs.lookup f) (mA f))/\PySem.Within mA (fs.map (·.1))/\fs.length<=1000/\H dx=some (.own a):=by
 obtain⟨d,z,ne,ob,mA,n,r,q⟩:=(show dB P w H h a (.ins C dx fs) from aM a _ e);exact⟨mA,⟨ob,n,ne⟩,r,q,z,d⟩
end
structure cR(K:PySem.W.Frag)(C:Addr):Prop where
 pg:PySem.W.plainGet K C Str.empty=true
 hd:PySem.W.hasDictIn K C=true
 po:PySem.W.plainOver K C=true
 sa:PySem.W.findIn K (.ref C) "__setattr__" = some (some (.builtin "object.__setattr__"))
theorem cR.get{K:PySem.W.Frag}{C:Addr}(c:cR K C)(f:Str):PySem.W.plainGet K C f=true:=c.pg
noncomputable def bQ(K:PySem.W.Frag)(C:Addr)(f:Str):Prop:=PySem.W.findIn K (.ref C) f=some none
theorem bQ.aah{K:PySem.W.Frag}{C:Addr}{f:Str}(n:bQ K C f):PySem.W.takerIn K C f=some none:=by
 unfold PySem.W.takerIn;rw[show PySem.W.findIn K (.ref C) f=some none from n]
 rfl
structure Meth(K:PySem.W.Frag)(C:Addr)(m:Str)(f:Addr):Prop where
 at_:PySem.W.findIn K (.ref C) m=some (some (.ref f))
 fn:PySem.W.isFn K (.ref f)=true
 kp:PySem.W.keepIn K (.ref f)=true
section
variable{X:Cx}{pins:List (Addr×Obj)}{σ:St}{H:Hp}{s:Shared}{a C dx:Addr}{fs:List (Str×V)}{f:Str}{v:V}{A:Around}{E:Value->Shared->Prop}
theorem O4{b:Bool}{Q:Value->Shared->Prop}(I:Inv X pins σ H s)(e:H a=some (.ins C dx fs))(c:cR X.K C)(n:bQ X.K C f)(l:fs.lookup f=some v)
  (h:∀u s',Inv X pins σ H s'->RelV v u->Q u s'):wpAny (model X.prog X.w) A (getAttr (.ref a) f b) Q E s:=by
 obtain⟨mA,O,r,_,_,_⟩:=zB I.aM e;obtain⟨u,hu,ru⟩:=gb.some_of (v:=v) (o:=mA f) (by rw[← l];exact r f)
 exact get_map I.dJ O (c.get f) c.hd n hu (aag ru) (h u _ (I.tok _) ru)
theorem O5{m:Str}{g:Addr}{pl:Sem Bool}{Q:Value×List Value->Shared->Prop}(I:Inv X pins σ H s)(e:H a=some (.ins C dx fs))(c:cR X.K C)(k:Meth X.K C m g)(l:fs.lookup m=none)
  (h:Q (.ref g,[.ref a]) s):wpAny (model X.prog X.w) A (getMethod (.ref a) m pl) Q E s:=by
 obtain⟨mA,O,r,_,_,_⟩:=zB I.aM e;have hn:mA m=none:=gb.none_of (by rw[← l];exact r m)
 exact aad I.dJ O (c.get m) k.at_ k.fn hn h
theorem O6{y:V}{u:Value}{Q:Unit->Shared->Prop}(I:Inv X pins σ H s)(e:H a=some (.ins C dx fs))(c:cR X.K C)(n:bQ X.K C f)(hl:fs.length<1000)(ry:RelV y u)
  (h:∀s',Inv X pins σ (upd H a (.ins C dx (eT f y fs))) s'->Q () s'):wpAny (model X.prog X.w) A (setAttr (.ref a) f u) Q E s:=by
 obtain⟨mA,O,r,wi,_,ho⟩:=zB I.aM e;have hz:(fs.map (·.1)).length<=sizeLine:=by rw[List.length_map,sizeLine_eq];lia
 refine aae I.dJ O c.sa c.po n.aah c.hd wi hz λh' O' sb=>h _ ?_;have hd:∃o,h'.get? dx=some o:=let ⟨o,_,_,e',_⟩:=O'.ns;⟨o,e'⟩
 refine I.write (x:=a) (e:=dx) (by rw[e];exact True.intro) (.inr ho) (λb q hb z=>(sb.2 b hb).trans z) hd ?_
 refine⟨by rw[aI O.ne];exact ho,?_,O.ne,O'.obj,_,O'.ns,λg=>?_,λg hg=>?_⟩
 ·have:=O3 f y fs;lia
 ·show gb ((eT f y fs).lookup g) (if g=f then some u else mA g)
  rw[O2];by_cases q:g=f
  ·rw[if_pos q,if_pos q];exact ry
  ·rw[if_neg q,if_neg q];exact r g
 ·by_cases q:g=f
  ·rw[q];exact(FJ f y fs).1
  ·refine(FJ f y fs).2 g (wi g λz=>hg ?_)
   show (if g=f then some u else mA g)=none
   rw[if_neg q];exact z
theorem Inv.made(I:Inv X pins σ H s):Inv X pins σ (upd (upd H s.heap.objs.size (.own (s.heap.objs.size+1))) (s.heap.objs.size+1) (.ins C s.heap.objs.size []))
  { s with heap:=(s.heap.push PySem.W.emptyDict).push (PySem.W.instObj C s.heap.objs.size)}:=by
 have e1:(s.heap.push PySem.W.emptyDict).get? s.heap.objs.size=some PySem.W.emptyDict:=Heap.get?_push_size s.heap rfl;have e2:((s.heap.push PySem.W.emptyDict).push (PySem.W.instObj C s.heap.objs.size)).get? (s.heap.objs.size+1)=some (PySem.W.instObj C s.heap.objs.size):=by
  have:=Heap.get?_push_size (s.heap.push PySem.W.emptyDict) (o:=PySem.W.instObj C s.heap.objs.size) rfl;rwa [Heap.size_push] at this
 have e3:(s.heap.push PySem.W.emptyDict).Ns s.heap.objs.size (λ_=>none):=⟨PySem.W.emptyDict,#[],_,e1,rfl,(λe he=>absurd he (by simp)),λ_=>rfl⟩
 have I1:=I.laid (a:=s.heap.objs.size) (o:=.own (s.heap.objs.size+1)) (h':=s.heap.push PySem.W.emptyDict) (t':=s.toks) (λb u q=>Heap.get?_push_of_some _ q) (Nat.le_refl _) ⟨_,e1⟩;refine I1.laid (a:=s.heap.objs.size+1) (o:=.ins C s.heap.objs.size []) (t':=s.toks) (λb u q=>Heap.get?_push_of_some _ q) (Nat.le_of_eq (Heap.size_push _ _)) ?_;have ne:s.heap.objs.size≠s.heap.objs.size+1:=Nat.ne_of_lt (Nat.lt_succ_self _);refine⟨by rw[aI ne,aD],Nat.zero_le _,ne,e2,λ_=>none,(Heap.Ns1.of_empty e3).at λo q=>Heap.get?_push_of_some _ q,λ_=>True.intro,λy hy=>absurd rfl hy⟩
theorem O7{prog:Program}{w:World}{env:Env}{e:Expr}{f:Str}{pos:Pos}{s:Shared}{Q:Value->Shared->Prop}(hb:attributeBase e f env (eval e env)=eval e env)
  (h:wpAny (model prog w) A (eval e env) (λo aZ=>wpAny (model prog w) A (getAttr o f true) Q E aZ) E s):wpAny (model prog w) A (eval (.Attribute e f pos) env) Q E s :=
 Attribute_any_ h (by rw[arm_eval_Attribute,hb])
end
noncomputable def rR(K:PySem.W.Frag)(ta:TE)(f:Str):TE:=λσ H Q=>ta σ H λx H1=>∃a C dx fs v,x = .ref a/\H1 a=some (.ins C dx fs)/\cR K C/\bQ K C f/\fs.lookup f=some v/\Q v H1
noncomputable def vn(K:PySem.W.Frag)(ta tv:TE)(f:Str):TS:=λD σ H=>tv σ H λy H1=>ta σ H1 λx H2=>∃a C dx fs,x = .ref a/\H2 a=some (.ins C dx fs)/\cR K C/\bQ K C f/\fs.length<1000/\
 D.nx σ (upd H2 a (.ins C dx (eT f y fs)))
section
variable{X:Cx}{o e value:Expr}{f:Str}{pos pos' aai:Pos}{ta tv:TE}
theorem O8(he:PE X e ta)(hb:attributeBase e f X.env (eval e X.env)=eval e X.env):PE X (.Attribute e f pos) (rR X.K ta f):=by
 intro pins s σ H Q I h;refine O7 hb (aU (he pins s σ H _ I h) λu s1 ⟨x,H1,I1,rx,zz⟩=>?_);obtain⟨a,C,dx,fs,v,ex,ea,c,n,l,q⟩:=zz;subst ex;obtain rfl:u=Value.ref a:=rx;exact O4 I1 ea c n l λu' s2 I2 ru=>⟨v,H1,I2,ru,q⟩
theorem FL(ha:PE X o ta)(hv:PE X value tv)(hs:swapsWith value (some (.Attribute o f pos')) pos.line X.env=pure false):PS X (.Assign [.Attribute o f pos'] value pos) (vn X.K ta tv f):=by
 intro pins s σ H D I h;refine plainObj_wpAny_Assign_Attribute (aU (hv pins s σ H _ I h) λu s1 ⟨y,H1,I1,ry,q⟩=>aU (ha pins s1 σ H1 _ I1 q) λov s2 ⟨x,H2,I2,rx,zz⟩=>?_) hs;obtain⟨a,C,dx,fs,ex,ea,c,n,l,q2⟩:=zz;subst ex;obtain rfl:ov=Value.ref a:=rx;exact O6 I2 ea c n l ry λs3 I3=>⟨σ,_,I3,q2⟩
end
section
variable{X:Cx}{pins:List (Addr×Obj)}{σ:St}{H:Hp}{s:Shared}{A:Around}{E:Value->Shared->Prop}{Q:Value->Shared->Prop}{c:Value}{b:Bool}
inductive jk (K:PySem.W.Frag) (H:Hp):V->Value->Prop where
 | aP:jk K H .aP (.type "NoneType")
 | bl (x:Bool):jk K H (.bl x) (.type "bool")
 | int (i:Int):jk K H (.int i) (.type "int")
 | str (x:Str):jk K H (.str x) (.type "str")
 | lH (x:UInt64):jk K H (.lH x) (.type "float")
 | lst {a:Addr} {xs:List V} (e:H a=some (.lst xs)):jk K H (.ref a) (.type "list")
 | gP {a:Addr} {o:Obj} {xs:List V} (e:H a=some (.gP o (.lst xs))):jk K H (.ref a) (.type "list")
 | tup {a:Addr} {xs:List V} (e:H a=some (.tup xs)):jk K H (.ref a) (.type "tuple")
 | dK {a:Addr} {az:List (Key×V)} (e:H a=some (.dK az)):jk K H (.ref a) (.type "dict")
 | dT {a:Addr} {az:List (List Key×V)} (e:H a=some (.dT az)):jk K H (.ref a) (.type "dict")
 | ins {a C dx:Addr} {fs:List (Str×V)} (e:H a=some (.ins C dx fs)) (cl:cR K C) (ha:PySem.W.findIn K (.ref C) "__class__" = some (some (.builtin "object.__class__")))
   (hn:PySem.W.specialIn K (.builtin "object.__class__") "__get__" = some (some (.builtin "getset_descriptor.__get__"))) (O9:PySem.W.takesIn K (.builtin "object.__class__")=some true)
   (hm:PySem.W.mroIn K C (.type "object")=some true):jk K H (.ref a) (.ref C)
theorem aaj{x:V}{u t:Value}(I:Inv X pins σ H s)(rx:RelV x u)(ty:jk X.K H x t)(e:PySem.W.kitOne X.K t c=some b)(h:∀tk,Q (.bool b) { s with toks:=tk }) :
  wpAny (model X.prog X.w) A (call (.builtin "isinstance") [u,c]) Q E s:=by
 cases ty with
 | aP=>cases (show u=Value.none from rx);exact PySem.W.kia_one PySem.W.kitx_none I.dJ True.intro e (λz=>nomatch z) h
 | bl y=>cases (show u=Value.bool y from rx);exact PySem.W.kia_one PySem.W.kitx_bool I.dJ True.intro e (λz=>nomatch z) h
 | int i=>obtain⟨t,q⟩:=(show ∃t,u=Value.int i t from rx);cases q;exact PySem.W.kia_one PySem.W.kitx_int I.dJ True.intro e (λz=>nomatch z) h
 | str y=>obtain⟨t,q⟩:=(show ∃t,u=Value.str y t from rx);cases q;exact PySem.W.kia_one PySem.W.kitx_str I.dJ True.intro e (λz=>nomatch z) h
 | lH y=>obtain⟨t,q⟩:=(show ∃t,u=Value.float y t from rx);cases q;exact PySem.W.kia_one PySem.W.kitx_float I.dJ True.intro e (λz=>nomatch z) h
 | @lst a xs ea =>
  cases (show u=Value.ref a from rx);obtain⟨_,_,n,_,h1⟩:=(show dB X.prog X.w H s.heap a (.lst xs) from I.aM a _ ea);exact PySem.W.kia_one PySem.W.kitx_list I.dJ ⟨_,h1,rfl⟩ e (λz=>nomatch z) h
 | @gP a ob xs ea =>
  cases (show u=Value.ref a from rx);obtain⟨_,_,_,n,_,h1⟩:=(show dB X.prog X.w H s.heap a (.gP ob (.lst xs)) from I.aM a _ ea);exact PySem.W.kia_one PySem.W.kitx_list I.dJ ⟨_,h1,rfl⟩ e (λz=>nomatch z) h
 | @tup a xs ea =>
  cases (show u=Value.ref a from rx);obtain⟨_,_,_,p⟩:=(show dB X.prog X.w H s.heap a (.tup xs) from I.aM a _ ea);obtain⟨o,h1,h2,_⟩:=p;exact PySem.W.kia_one PySem.W.kitx_tuple I.dJ ⟨o,h1,h2⟩ e (λz=>nomatch z) h
 | @dK a az ea =>
  cases (show u=Value.ref a from rx);obtain⟨_,_,vs,_,p⟩:=(show dB X.prog X.w H s.heap a (.dK az) from I.aM a _ ea);obtain⟨o,es,ep,h1,h2,_⟩:=p;exact PySem.W.kia_one PySem.W.kitx_dict I.dJ ⟨o,h1,h2.1⟩ e (λz=>nomatch z) h
 | @dT a az ea =>
  cases (show u=Value.ref a from rx);obtain⟨_,_,xs,_,o,es,ep,h1,h2,_⟩:=(show dB X.prog X.w H s.heap a (.dT az) from I.aM a _ ea);exact PySem.W.kia_one PySem.W.kitx_dict I.dJ ⟨o,h1,h2.1⟩ e (λz=>nomatch z) h
 | @ins a C dx fs ea cl ha hn O9 hm =>
  cases (show u=Value.ref a from rx);obtain⟨mA,O,_⟩:=zB I.aM ea;obtain⟨od,J,_⟩:=O.look;exact PySem.W.kia_one (PySem.W.kitx_own (cl.get _) cl.hd ha hn O9 hm) I.dJ J e (λz=>nomatch z) h
end
structure cX(k:Nat)(A:Around):Prop where
 hd:A.handled=none
 dp:A.depth+3*k+5<recursionLimit
 un:A.units+16*k+200<cLine
theorem cX.mono{j k:Nat}{A:Around}(r:cX k A)(h:j<=k):cX j A:=⟨r.hd,by have:=r.dp;lia,by have:=r.un;lia⟩
theorem cX.deeper{k:Nat}{A:Around}(r:cX (k+1) A)(env:Env):cX k (A.deeper env) :=
 ⟨r.hd,by have:=r.dp;show A.depth+1+3*k+5<_;lia,by have:=r.un;show A.units+3+16*k+200<_;lia⟩
theorem aak{A:Around}{C:Addr}{us:List Value}{kw:List (Str×Value)}:(A.under (.builtin "type.__call__" ⟨.ref C::us,kw⟩)).depth=A.depth+1:=by
 first | rfl | simp[Around.under,Code.weight,Code.isCreation,Code.isGuard,Code.isCaller,Code.frames,Code.isFrame,guardIds]
theorem aal{A:Around}{C:Addr}{us:List Value}{kw:List (Str×Value)}:(A.under (.builtin "type.__call__" ⟨.ref C::us,kw⟩)).units=A.units+1:=by
 first | rfl | simp[Around.under,Code.cUnits,Code.frames,Code.isFrame]
theorem cX.make{k:Nat}{A:Around}(r:cX (k+1) A)(C:Addr)(us:List Value)(kw:List (Str×Value)):cX k (A.under (.builtin "type.__call__" ⟨.ref C::us,kw⟩)) :=
 ⟨r.hd,by have:=r.dp;rw[aak];lia,by have:=r.un;rw[aal];lia⟩
theorem cX.depth{k:Nat}{A:Around}(r:cX k A):A.depth<recursionLimit:=by have:=r.dp;lia
theorem cX.units{k:Nat}{A:Around}(r:cX k A):A.units+64<cLine:=by have:=r.un;lia
theorem cX.O_{k:Nat}{A:Around}(r:cX k A):A.units<cLine:=by have:=r.un;lia
noncomputable def rS:TA:=λ_ H Q=>Q [] H
noncomputable def vo(ta:TE)(tr:TA):TA:=λσ H Q=>ta σ H λx H1=>tr σ H1 λxs H2=>Q (x::xs) H2
section
variable{X:Cx}{e:Expr}{es:List Expr}{te:TE}{t:TA}{pos:Pos}
theorem au:PA X [] rS:=λ_ _ _ _ H Q I h=>Calls.spliced_nil ⟨[],H,I,.nil,h⟩
theorem ah(ha:PE X e te)(hr:PA X es t)(hs:starEach (e::es) X.env=(false,eval e X.env)::starEach es X.env:=by rfl):PA X (e::es) (vo te t):=by
 intro pos pins s σ H Q I h;rw[hs]
 show wpAny _ _ (spliced ((false,eval e X.env)::backTo pos (starEach es X.env))) _ _ s;refine Calls.spliced_cons (aU (ha pins s σ H _ I h) λu s1 ⟨x,H1,I1,r1,q1⟩=>?_);exact aU (hr pos pins s1 σ H1 _ I1 q1) λus s2 ⟨xs,H2,I2,r2,q2⟩=>⟨x::xs,H2,I2,.cons r1 r2,q2⟩
noncomputable def vp(t:TA):TE:=λσ H Q=>t σ H λxs H1=>xs.length<=sizeLine/\∀p,H1 p=none->Q (.ref p) (upd H1 p (.tup xs))
noncomputable def vq(t:TA):TE:=λσ H Q=>t σ H λxs H1=>xs.length<=sizeLine/\∀p,H1 p=none->Q (.ref p) (upd H1 p (.lst xs))
theorem cE{x1}(h:PA X es t):PE X (.Tuple es x1 pos) (vp t):=by
 intro pins s σ H Q I hq;refine wpAny_Tuple_spliced (aU (h pos pins s σ H _ I hq) λus s1 ⟨xs,H1,I1,r,z,q⟩=>⟨by rw[← r.length];exact z,?_⟩)
 have hf:H1 s1.heap.objs.size=none:=I1.aM.fresh (Nat.le_refl _);refine⟨.ref s1.heap.objs.size,upd H1 s1.heap.objs.size (.tup xs),I1.laid (t':=s1.toks) (λb u e=>Heap.get?_push_of_some _ e) (Nat.le_refl _) ?_,rfl,q _ hf⟩;exact⟨z,us,r,⟨_,Heap.get?_push_size _ rfl,rfl,_,rfl⟩⟩
theorem dG(h:PA X es t):PE X (.List es pos) (vq t):=by
 intro pins s σ H Q I hq;refine wpAny_List_spliced (aU (h pos pins s σ H _ I hq) λus s1 ⟨xs,H1,I1,r,z,q⟩=>⟨by rw[← r.length];exact z,?_⟩)
 have hf:H1 s1.heap.objs.size=none:=I1.aM.fresh (Nat.le_refl _);refine⟨.ref s1.heap.objs.size,upd H1 s1.heap.objs.size (.lst xs),I1.laid (t':=s1.toks) (λb u e=>Heap.get?_push_of_some _ e) (Nat.le_refl _) ?_,rfl,q _ hf⟩;exact⟨z,us,0,r,Heap.get?_push_size _ rfl⟩
end
noncomputable abbrev Sp:=List V->Hp->VK->XK->Prop
noncomputable abbrev gS:=List Env->Hp->Shared->XK->Value->Shared->Prop
structure oK(P:Program)(w:World)(K:PySem.W.Frag)(mg:Str->Option Value)(base:Heap)(A:Around)(outer:List Env)(s:Shared)(H:Hp):Prop where
 frames:A.frames=some outer
 mod:Mod K mg base
 bs:∀b o,base.get? b=some o->s.heap.get? b=some o/\H b=none
 gB:base.objs.size<=s.heap.objs.size
 jf:s.heap.FunFrames base outer
 oh:∀b∈gc outer,H b=none
 aM:cU P w H s.heap
 bare:AllBare s.gens
noncomputable def CE(outer:List Env)(P:Program)(w:World)(H:Hp)(s:Shared)(Q:VK)(u:Value)(s':Shared):Prop :=
 ∃v H',s'.os=s.os/\AllBare s'.gens/\Un (gc outer) [] H H' s.heap s'.heap/\cU P w H' s'.heap/\RelV v u/\Q v H'
noncomputable def CR(CX:gS)(outer:List Env)(P:Program)(w:World)(H:Hp)(s:Shared)(Q:VK)(E:XK)(r:Result)(s':Shared):Prop :=
 match r with
 | .ok (.ret u)=>CE outer P w H s Q u s'
 | .ok _=>False
 | .error e=>CX outer H s E e s'
structure aX(P:Program)(w:World)(K:PySem.W.Frag)(mg:Str->Option Value)(base:Heap)(CX:gS)(k:Nat)(f:Addr)(fd:FuncData)(ps:List Str)(sp:Sp):Prop where
 len:∀vs H Q E,sp vs H Q E->vs.length=ps.length
 run:∀(A:Around) (outer:List Env) (s:Shared) (H:Hp) (args:Args) (us:List Value) (vs:List V) (Q:VK) (E:XK),cX k A->oK P w K mg base A outer s H->BindsTo s fd args (ps.zip us)->Vals vs us->sp vs H Q E->
  codeAny (model P w) A (.call (.ref f) args) (CR CX outer P w H s Q E) s
theorem aX.mono{P:Program}{w:World}{K:PySem.W.Frag}{mg:Str->Option Value}{base:Heap}{CX:gS}{j k:Nat}{f:Addr}{fd:FuncData}{ps:List Str}{sp:Sp}(F:aX P w K mg base CX j f fd ps sp)(h:j<=k) :
  aX P w K mg base CX k f fd ps sp:=⟨F.len,λA outer s H args us vs Q E hr=>F.run A outer s H args us vs Q E (hr.mono h)⟩
theorem oK.make{P:Program}{w:World}{K:PySem.W.Frag}{mg:Str->Option Value}{base:Heap}{A:Around}{outer:List Env}{s:Shared}{H:Hp}(e:oK P w K mg base A outer s H)(C:Addr)(us:List Value)(kw:List (Str×Value)) :
  oK P w K mg base (A.under (.builtin "type.__call__" ⟨.ref C::us,kw⟩)) outer s H:=⟨by first | exact e.frames | (simpa[Around.under,Code.envs,Code.isFrame,pushEnvs] using e.frames),e.mod,e.bs,e.gB,e.jf,e.oh,e.aM,e.bare⟩
section
variable{X:Cx}{pins:List (Addr×Obj)}{σ:St}{H:Hp}{s s':Shared}
theorem Inv.Pa(I:Inv X pins σ H s):oK X.prog X.w X.K X.mg X.base X.A X.stack s H :=
 ⟨I.ok.frames,I.ok.mod,I.bs,Nat.le_trans I.ok.gB I.sz,I.stack,I.Fj,I.aM,I.bare⟩
theorem Inv.after{Q:VK}{u:Value}(I:Inv X pins σ H s)(h:CE X.stack X.prog X.w H s Q u s'):EP X pins σ Q u s':=by
 obtain⟨v,H',os,bare,un,aM,r,q⟩:=h;obtain⟨hh,g,d,t,os'⟩:=s';obtain rfl:os' = s.os:=os;exact⟨v,H',I.call (h':=hh) (g':=g) (d':=d) (t':=t) (ch:=[]) un aM bare (λb z=>absurd z (by simp)),r,q⟩
end
noncomputable def rT(sp:Sp)(cC:List V)(E:XK)(t:TA):TE:=λσ H Q=>t σ H λvs H1=>sp (vs++cC) H1 Q E
noncomputable def zC(C:Addr)(m:Str)(sp:Sp)(cC:List V)(E:XK)(ta:TE)(t:TA):TE:=λσ H Q=>ta σ H λx H1=>∃a dx fs,x = .ref a/\H1 a=some (.ins C dx fs)/\fs.lookup m=none/\
 t σ H1 λvs H2=>sp (x::(vs++cC)) H2 Q E
noncomputable def vt(C:Addr)(sp:Sp)(cC:List V)(E:XK)(t:TA):TE:=λσ H Q=>t σ H λvs H1=>∀x dx,H1 x=none->H1 dx=none->dx≠x->
 sp (.ref x::(vs++cC)) (upd (upd H1 dx (.own x)) x (.ins C dx [])) (λv H2=>v = .aP/\Q (.ref x) H2) E
noncomputable def Binds(K:PySem.W.Frag)(fd:FuncData)(ps:List Str)(ds:List Value):Prop :=
 ∀(s:Shared) (us:List Value),K.In s.heap->(us++ds).length=ps.length->BindsTo s fd ⟨us,[]⟩ (ps.zip (us++ds))
theorem Binds.all{K:PySem.W.Frag}{fd:FuncData}{ps:List Str}(h:∀us:List Value,us.length=ps.length->bindArgs fd ⟨us,[]⟩=pure (ps.zip us)):Binds K fd ps []:=λs us _ hl=>by
 rw[List.append_nil] at hl ⊢;exact .of_eq (h us hl)
noncomputable def Passes(CX:gS)(X:Cx)(E:XK):Prop:=∀(pins:List (Addr×Obj)) (σ:St) (H:Hp) (s:Shared) (e:Value) (s':Shared),Inv X pins σ H s->CX X.stack H s E e s'->X.xe e s'
section
variable{X:Cx}{CX:gS}{k:Nat}{f C:Addr}{fd:FuncData}{ps:List Str}{sp:Sp}{cC:List V}{ds:List Value}{E:XK}{x m:Str}{p pos apos:Pos}{e o:Expr}{es:List Expr}{ta:TE}{t:TA}
theorem zD{pins:List (Addr×Obj)}{σ:St}{H:Hp}{s:Shared}{Q:VK}{us:List Value}{vs:List V}(F:aX X.prog X.w X.K X.mg X.base CX k f fd ps sp)(hr:cX k X.A)(hb:Binds X.K fd ps ds)(hd:Vals cC ds)(hx:Passes CX X E)
  (I:Inv X pins σ H s) (r:Vals vs us) (h:sp (vs++cC) H Q E):wpAny (model X.prog X.w) X.A (call (.ref f) us) (EP X pins σ Q) X.xe s:=by
 have r2:Vals (vs++cC) (us++ds):=r.append hd;have hl:(us++ds).length=ps.length:=by rw[← r2.length];exact F.len _ _ _ _ h
 refine wpAny_call (codeAny_mono (F.run X.A X.stack s H ⟨us,[]⟩ (us++ds) (vs++cC) Q E hr I.Pa (hb s us I.dJ hl) r2 h) λr s' hq=>?_);cases r with
 | error e=>exact hx pins σ H s e s' I hq
 | ok fl =>
  cases fl with
  | ret u=>exact I.after hq
  | next=>exact False.elim hq
  | brk=>exact False.elim hq
  | cont=>exact False.elim hq
theorem aY(F:aX X.prog X.w X.K X.mg X.base CX k f fd ps sp)(hr:cX k X.A)(hg:Gl X x)(hm:X.mg x=some (.ref f))(hk:PySem.W.keepIn X.K (.ref f)=true)(hb:Binds X.K fd ps ds)(hd:Vals cC ds)(hx:Passes CX X E)
  (ha:PA X (e::es) t) (mS:(x == ("__debug__" : Str))=false:=by decide) (he:starEach (e::es) X.env=(false,eval e X.env)::starEach es X.env:=by rfl) (iR:(backTo pos (starEach es X.env)).any (·.1)=false:=by rfl) :
  PE X (.Call (.Name x p) (e::es) [] pos) (rT sp cC E t):=by
 intro pins s σ H Q I h;refine wpAny_Call_Name_kw (zf I hg hm ?_ mS);refine PySem.W.callWith_K (h₀:=X.base) I.ok.mod.rD hk (aU (ha pos pins s σ H _ I h) λus s1 ⟨vs,H1,I1,r,q⟩=>⟨I1.dJ,?_⟩) he iR;exact zD F hr hb hd hx I1 r q
structure Mk(K:PySem.W.Frag)(C f:Addr):Prop where
 makes:PySem.W.makesIn K C=true
 init:PySem.W.findIn K (.ref C) "__init__" = some (some (.ref f))
 fn:PySem.W.isFn K (.ref f)=true
 kp:PySem.W.keepIn K (.ref C)=true
theorem aam{pins:List (Addr×Obj)}{σ:St}{H:Hp}{s:Shared}{Q:VK}{us:List Value}{vs:List V}(M:Mk X.K C f)(F:aX X.prog X.w X.K X.mg X.base CX k f fd ps sp)(hr:cX (k+1) X.A)(hb:Binds X.K fd ps ds)(hd:Vals cC ds)
  (hx:Passes CX X E) (I:Inv X pins σ H s) (r:Vals vs us)
  (h:∀x dx,H x=none->H dx=none->dx≠x->sp (.ref x::(vs++cC)) (upd (upd H dx (.own x)) x (.ins C dx [])) (λv H2=>v = .aP/\Q (.ref x) H2) E) :
  wpAny (model X.prog X.w) X.A (call (.ref C) us) (EP X pins σ Q) X.xe s:=by
 have hq:=h (s.heap.objs.size+1) s.heap.objs.size (I.aM.fresh (Nat.le_succ _)) (I.aM.fresh (Nat.le_refl _)) (Nat.ne_of_lt (Nat.lt_succ_self _));have I2:=Inv.made (C:=C) I;have r2:Vals (V.ref (s.heap.objs.size+1)::(vs++cC)) (Value.ref (s.heap.objs.size+1)::(us++ds)):=.cons rfl (r.append hd);have hl:(Value.ref (s.heap.objs.size+1)::us++ds).length=ps.length:=by
  have e:=r2.length;rw[F.len _ _ _ _ hq] at e;exact e.symm
 refine wpAny_call (aaf (f:=f) I.dJ M.makes M.init (beq_iff_eq.mp M.fn) (codeAny_mono (F.run _ X.stack _ _ ⟨Value.ref (s.heap.objs.size+1)::us,[]⟩ (Value.ref (s.heap.objs.size+1)::(us++ds)) _ _ E (hr.make C us [])
  (I2.Pa.make C us []) (hb _ (Value.ref (s.heap.objs.size+1)::us) I2.dJ hl) r2 hq) λr s' iS=>?_))
 cases r with
 | error e=>exact hx pins σ _ _ e s' I2 iS
 | ok fl =>
  cases fl with
  | ret u =>
   obtain⟨v,H',I3,rv,ev,q3⟩:=I2.after iS;subst ev;exact⟨rv,⟨V.ref (s.heap.objs.size+1),H',I3,rfl,q3⟩⟩
  | next=>exact False.elim iS
  | brk=>exact False.elim iS
  | cont=>exact False.elim iS
theorem rW(M:Mk X.K C f)(F:aX X.prog X.w X.K X.mg X.base CX k f fd ps sp)(hr:cX (k+1) X.A)(hg:Gl X x)(hm:X.mg x=some (.ref C))(hb:Binds X.K fd ps ds)(hd:Vals cC ds)(hx:Passes CX X E)
  (ha:PA X (e::es) t) (mS:(x == ("__debug__" : Str))=false:=by decide) (he:starEach (e::es) X.env=(false,eval e X.env)::starEach es X.env:=by rfl) (iR:(backTo pos (starEach es X.env)).any (·.1)=false:=by rfl) :
  PE X (.Call (.Name x p) (e::es) [] pos) (vt C sp cC E t):=by
 intro pins s σ H Q I h;refine wpAny_Call_Name_kw (zf I hg hm ?_ mS);refine PySem.W.callWith_K (h₀:=X.base) I.ok.mod.rD M.kp (aU (ha pos pins s σ H _ I h) λus s1 ⟨vs,H1,I1,r,q⟩=>⟨I1.dJ,?_⟩) he iR;exact aam M F hr hb hd hx I1 r q
end
noncomputable def PK(X:Cx)(Pb:List Keyword)(t:TA):Prop :=
 ∀(pos:Pos) (pins:List (Addr×Obj)) (s:Shared) (σ:St) (H:Hp) (Q:List V->Hp->Prop),Inv X pins σ H s->t σ H Q->wpAny (model X.prog X.w) X.A (evalAll ((backToKw pos (keywordEach Pb X.env)).map (·.2))) (AP X pins σ Q) X.xe s
section
variable{X:Cx}{CX:gS}{k:Nat}{f C:Addr}{fd:FuncData}{ps ks:List Str}{sp:Sp}{E:XK}{x m:Str}{p pos apos aj9:Pos}{e o:Expr}{es:List Expr}{Pb:List Keyword}{te ta:TE}{t tk:TA}{nm:Option Str}
variable{g:List Value->List Value->List Value}{gV:List V->List V->List V}
end
structure bA(N P:List Str)(sc:Scope):Prop where
 kind:sc.kind = .function
 co:sc.isCoroutine=false
 gen:sc.isGenerator=false
 nd:N.Nodup
 pre:N.take P.length=P
 par:∀x∈P,sc.names.lookup x=some .local\/sc.names.lookup x=some .cell
 aan:∀y∈sc.names,y.2≠.free
theorem Pc{kindOf:Str->Option NameKind}{x:Str}:∀ {binds:List (Str×Value)} {m:Str->Option Value},(∀v,(x,v)∉binds)->bindL kindOf binds m x=m x
 | [],_,_=>rfl
 | (n,v)::r,m,h=>by
  unfold bindL;rw[Pc λw hw=>h w (List.mem_cons_of_mem _ hw)];split
  ·have:x≠n:=by rintro rfl;exact h v List.mem_cons_self
   simp[this]
  ·rfl
theorem Pd{kindOf:Str->Option NameKind}{x:Str}:∀ {binds:List (Str×Value)} {m:Str->Option Value},(∀v,(x,v)∉binds)->bindC kindOf binds m x=m x
 | [],_,_=>rfl
 | (n,v)::r,m,h=>by
  unfold bindC;rw[Pd λw hw=>h w (List.mem_cons_of_mem _ hw)];split
  ·rfl
  ·have:x≠n:=by rintro rfl;exact h v List.mem_cons_self
   simp[this]
theorem Pe{kindOf:Str->Option NameKind}{x:Str}{v:Value}:∀ {P:List Str} {vs:List Value} {i:Nat} {m:Str->Option Value},P.Nodup->P[i]? = some x->vs[i]? = some v->kindOf x=some .local->
  bindL kindOf (P.zip vs) m x=some v
 | [],_,_,_,_,h,_,_=>by simp at h
 | _::_,[],_,_,_,_,h,_=>by simp at h
 | p::P,w::vs,0,m,nd,h1,h2,hk=>by
  simp at h1 h2;subst h1;subst h2
  show bindL kindOf ((p,w)::P.zip vs) m p=_;unfold bindL;rw[Pc λv hv=>(List.nodup_cons.mp nd).1 (List.of_mem_zip hv).1,if_pos hk];simp
 | p::P,w::vs,i+1,m,nd,h1,h2,hk=>by
  show bindL kindOf ((p,w)::P.zip vs) m x=_;unfold bindL;exact Pe (i:=i) (List.nodup_cons.mp nd).2 (by simpa using h1) (by simpa using h2) hk
theorem Pf{kindOf:Str->Option NameKind}{x:Str}{v:Value}:∀ {P:List Str} {vs:List Value} {i:Nat} {m:Str->Option Value},P.Nodup->P[i]? = some x->vs[i]? = some v->kindOf x≠some .local->
  bindC kindOf (P.zip vs) m x=some v
 | [],_,_,_,_,h,_,_=>by simp at h
 | _::_,[],_,_,_,_,h,_=>by simp at h
 | p::P,w::vs,0,m,nd,h1,h2,hk=>by
  simp at h1 h2;subst h1;subst h2
  show bindC kindOf ((p,w)::P.zip vs) m p=_;unfold bindC;rw[Pd λv hv=>(List.nodup_cons.mp nd).1 (List.of_mem_zip hv).1,if_neg hk];simp
 | p::P,w::vs,i+1,m,nd,h1,h2,hk=>by
  show bindC kindOf ((p,w)::P.zip vs) m x=_;unfold bindC;exact Pf (i:=i) (List.nodup_cons.mp nd).2 (by simpa using h1) (by simpa using h2) hk
noncomputable def start(N:List Str)(vs:List V):St:=vs.map some++List.replicate (N.length - vs.length) none
noncomputable def mT(CX:gS)(P:Program)(w:World)(K:PySem.W.Frag)(mg:Str->Option Value)(base:Heap)(N:List Str)(qual:Str)(scope:Scope)(f:Addr)(cd:Value)(A:Around)(outer:List Env)(s:Shared)(H:Hp)(E:XK):Cx where
 prog:=P
 w:=w
 K:=K
 mg:=mg
 base:=base
 A:=A.deeper (envOfC qual scope s.heap.objs.size f cd)
 N:=N
 dw:=s
 pY:=H
 env:=envOfC qual scope s.heap.objs.size f cd
 outer:=outer
 stack:=envOfC qual scope s.heap.objs.size f cd::outer
 ex:=[]
 calm:=true
 fn:=λ_=>true
 pn:=[]
 xe:=λe s'=>wpAny (model P w) (A.deeper (envOfC qual scope s.heap.objs.size f cd)) (leaving (envOfC qual scope s.heap.objs.size f cd) e) (λ_ rX=>CX outer H s E e rX) (λe' rX=>CX outer H s E e' rX) s'
theorem Pg{sc:Scope}{n:Nat}{x:Str}(h:sc.names.lookup x=some .cell):∃c,(cellsFrom n sc.names []).lookup x=some c:=by
 have q:=PySem.W.cellsFrom_some sc.names n [] (.inl h);exact Option.isSome_iff_exists.mp q
theorem aao{CX:gS}{P:Program}{w:World}{K:PySem.W.Frag}{mg:Str->Option Value}{base:Heap}{N ps:List Str}{qual:Str}{scope:Scope}{f:Addr}{cd:Value}{A:Around}{outer:List Env}{s s1:Shared}{H:Hp}{E:XK}{us:List Value}{vs:List V}
  (S:bA N ps scope) (hd:A.handled=none) (e0:oK P w K mg base A outer s H) (hl:vs.length=ps.length) (r:Vals vs us)
  (x:InCallC s s.heap.objs.size (bindL (envOfC qual scope s.heap.objs.size f cd).kindOf (ps.zip us) λ_=>none) (cellsFrom (s.heap.objs.size+1) scope.names []) (bindC (envOfC qual scope s.heap.objs.size f cd).kindOf (ps.zip us) λ_=>none) s1) :
  Inv (mT CX P w K mg base N qual scope f cd A outer s H E) [] (start N vs) H s1:=by
 have iR:ps.length<=N.length:=by have:=congrArg List.length S.pre;rw[List.length_take] at this;lia
 obtain⟨h1,tk,rfl,hk⟩:=x.done;have vv:∀b:Addr,b∉(mT CX P w K mg base N qual scope f cd A outer s H E).ex:=λb z=>absurd (show b∈([]:List Addr) from z) (by simp)
 refine⟨⟨e0.mod,S.kind,rfl,rfl,Nat.le_refl _,λy z c h1 h2=>?_,λy hy=>?_,λy c _ h=>?_,λ_=>hd,Around.frames_deeper e0.frames,.inr ⟨rfl,rfl⟩,λb z=>absurd z (vv b),e0.bs,e0.gB,λb _ _=>vv b,λb z=>absurd z (vv b),e0.jf,e0.oh⟩,
  rfl,e0.bare,Un.kept hk,⟨_,x.toInCall.ns,λi y v h1 h2 h3=>?_⟩,λy c h=>⟨_,x.cell y c h⟩,e0.aM.fresh (Nat.le_refl _),λy c h=>?_,λp hp=>absurd (show p∈([]:List (Addr×Obj)) from hp) (by simp),e0.aM.kept hk,?_⟩
 ·exact name_of_addr x.apart (PySem.mem_of_lookup h1) (PySem.mem_of_lookup h2)
 ·have hy:scope.names.lookup y=some .cell\/scope.names.lookup y=some .free:=hy;rcases hy with hy | hy
  ·exact Pg hy
  ·exact absurd rfl (S.aan _ (PySem.mem_of_lookup hy))
 ·exact Nat.le_of_lt (x.above y c (PySem.mem_of_lookup h))
 ·have hi:i<vs.length:=by
   unfold start at h2;by_cases hi:i<vs.length
   ·exact hi
   ·rw[List.getElem?_append_right (by simpa using hi)] at h2
    rw[List.getElem?_replicate] at h2;split at h2 <;> cases h2
  have ha:vs[i]? = some v:=by
   unfold start at h2;rw[List.getElem?_append_left (by simpa using hi),List.getElem?_map] at h2
   cases e:vs[i]? with
   | none=>rw[e] at h2;cases h2
   | some a=>rw[e] at h2;cases h2;rfl
  obtain⟨u,hu,rv⟩:=r.get ha;have hp:ps[i]? = some y:=by
   rw[← S.pre,List.getElem?_take_of_lt (by lia)];exact h1
  have Ph:ps.Nodup:=by rw[← S.pre];exact S.nd.sublist (List.take_sublist _ _)
  refine⟨u,rv,?_⟩;rcases S.par y (List.mem_of_getElem? hp) with k | k
  ·exact .inl ⟨k,Pe Ph hp hu k⟩
  ·obtain⟨c,e⟩:=Pg (n:=s.heap.objs.size+1) k;refine .inr ⟨.inl k,c,e,?_⟩;have q:=x.cell y c e;rw[Pf Ph hp hu (by show scope.names.lookup y≠_;rw[k];decide)] at q
   exact q
 ·exact e0.aM.fresh (Nat.le_of_lt (x.above y c (PySem.mem_of_lookup h)))
 ·unfold start
  show _=N.length;rw[List.length_append,List.length_map,List.length_replicate];lia
theorem FN{CX:gS}{P:Program}{w:World}{K:PySem.W.Frag}{mg:Str->Option Value}{base:Heap}{k:Nat}{f:Addr}{name qual:Str}{params:Arguments}{body:List Stmt}{scope:Scope}{dV kV doc pm aO ct oc:Value}{an od:Option Addr}
  {iy:Array (Option Value)} {N ps:List Str} {sp:Sp} (lk:K.lookup f=some ⟨oc,od,.func (PySem.W.fnOf name qual params body scope dV kV doc pm an aO ct),iy⟩) (eS:PySem.W.codeIn K aO qual=true) (S:bA N ps scope)
  (len:∀vs H Q E,sp vs H Q E->vs.length=ps.length)
  (qm:∀(A:Around) (outer:List Env) (s:Shared) (H:Hp) (vs:List V) (Q:VK) (E:XK),cX k (A.deeper (envOfC qual scope s.heap.objs.size f aO))->sp vs H Q E->
   ∃t,fQ (mT CX P w K mg base N qual scope f aO A outer s H E) body t/\t { nx:=λ_ H'=>Q .aP H',rt:=Q } (start N vs) H) :
  aX P w K mg base CX (k+1) f (PySem.W.fnOf name qual params body scope dV kV doc pm an aO ct) ps sp:=by
 refine⟨len,λA outer s H args us vs Q E hr e0 hb r cY=>?_⟩;have hl:=len _ _ _ _ cY;have KX:K.In s.heap:=e0.mod.rD.keeps λb o e=>(e0.bs b o e).1;have lim:s.heap.NoLimit:=e0.mod.nolimit.keeps λb o e=>(e0.bs b o e).1;have aap:∀y∈ps.zip us,scope.names.lookup y.1=some .local\/(scope.names.lookup y.1=some .cell/\((cellsFrom (s.heap.objs.size+1) scope.names []).lookup y.1).isSome=true):=λ⟨n,v⟩ hy=>by
  rcases S.par n (List.of_mem_zip hy).1 with q | q
  ·exact .inl q
  ·exact .inr ⟨q,PySem.W.cellsFrom_some _ _ _ (.inl q)⟩
 refine codeAny_call_function hr.depth (KX _ _ lk) rfl S.co S.gen rfl (PySem.W.codeRec_of KX eS) (hb _ _ _ _ ?_);refine wpAny_newFunctionEnv_cells S.kind aap λenv he s1 x=>?_;subst he;refine⟨lim.keeps x.toInCall.keep,codeAny_func ?_⟩;obtain⟨t,ht,hq⟩:=qm A outer s H vs Q E (hr.deeper _) cY;have I:Inv (mT CX P w K mg base N qual scope f aO A outer s H E) [] (start N vs) H s1:=aao S hr.hd e0 hl r x;refine wpAny_mono (ht [] s1 (start N vs) H _ I hq) (λfl s' hs=>?_) λe s' hs=>hs;have fin:∀ {bE:St} {H':Hp} {v:V} {u:Value},Inv (mT CX P w K mg base N qual scope f aO A outer s H E) [] bE H' s'->RelV v u->Q v H'->CE outer P w H s Q u s' :=
  λ{bE H' v u} J rv q=>⟨v,H',J.os,J.bare,J.base,J.aM,rv,q⟩
 cases fl with
 | ret u =>
  obtain⟨v,bE,H',J,rv,q⟩:=hs;exact fin J rv q
 | next =>
  obtain⟨bE,H',J,q⟩:=hs;exact fin (v:=V.aP) (u:=Value.none) J rfl q
 | brk =>
  obtain⟨_,_,_,q⟩:=hs;exact False.elim q
 | cont =>
  obtain⟨_,_,_,q⟩:=hs;exact False.elim q
section
variable{X:Cx}{x:Str}{p pos:Pos}{e:Expr}{es:List Expr}{t:TA}{id T:String}{r:List V->Hp->VK->Prop}
noncomputable def rY(r:List V->Hp->VK->Prop)(t:TA):TE:=λσ H Q=>t σ H λvs H1=>r vs H1 Q
theorem bR(hc:fS X (.builtin id) r)(hg:Gl X x)(hm:X.mg x=none)(hv:bootBuiltins x=some (.builtin id))(ha:PA X (e::es) t)(hn:x≠"__name__" := by decide)(mS:(x == ("__debug__" : Str))=false:=by decide)
  (he:starEach (e::es) X.env=(false,eval e X.env)::starEach es X.env:=by rfl) (iR:(backTo pos (starEach es X.env)).any (·.1)=false:=by rfl):PE X (.Call (.Name x p) (e::es) [] pos) (rY r t):=by
 intro pins s σ H Q I h;refine wpAny_Call_Name_kw (ou I hg hm hv ?_ hn mS);exact PyProof.Rows.callWith_builtin1 (aU (ha pos pins s σ H _ I h) λus s1 ⟨vs,H1,I1,r1,q1⟩=>hc pins s1 σ H1 vs us Q I1 r1 q1) he iR
theorem jm(hc:fS X (.type T) r)(hg:Gl X x)(hm:X.mg x=none)(hv:bootBuiltins x=some (.type T))(ha:PA X (e::es) t)(hn:x≠"__name__" := by decide)(mS:(x == ("__debug__" : Str))=false:=by decide)
  (he:starEach (e::es) X.env=(false,eval e X.env)::starEach es X.env:=by rfl) (iR:(backTo pos (starEach es X.env)).any (·.1)=false:=by rfl):PE X (.Call (.Name x p) (e::es) [] pos) (rY r t):=by
 intro pins s σ H Q I h;refine wpAny_Call_Name_kw (ou I hg hm hv ?_ hn mS);exact PyProof.Rows.callWith_type1 (aU (ha pos pins s σ H _ I h) λus s1 ⟨vs,H1,I1,r1,q1⟩=>hc pins s1 σ H1 vs us Q I1 r1 q1) he iR
end
end _L
namespace _H
open PySem PyProof.Rows
noncomputable def lexLt:List Int->List Int->Bool
 | [],[]=>false
 | [],_::_=>true
 | _::_,[]=>false
 | x::xs,y::ys=>if x=y then lexLt xs ys else decide (x<y)
theorem aaq(x y:Int)(xs ys:List Int):lexLt (x::xs) (y::ys)=if x=y then lexLt xs ys else decide (x<y):=rfl
theorem aar:lexLt [] [] = false:=rfl
theorem aas(y:Int)(ys:List Int):lexLt [] (y::ys)=true:=rfl
theorem aat(x:Int)(xs:List Int):lexLt (x::xs) [] = false:=rfl
theorem aau(A:Around)(s:Shared)(a:Int)(t:Tok)(c:Int)(u:Tok):∃e,SeqAt.EqAt A s (.int a t) (.int c u) e/\(e=true↔a=c) :=
 ⟨(a == c),SeqAt.EqAt.int_int a t c u,by simp⟩
theorem FO(A:Around)(s:Shared)(a:Int)(t:Tok)(c:Int)(u:Tok)(prog:Program)(w:World)(E:Value->Shared->Prop)(Q:Value->Shared->Prop)(h:Q (.bool (decide (a<c))) s) :
  wpAny (model prog w) A (richCompare .Lt (.int a t) (.int c u)) Q E s :=
 (PyProof.Rows.lt_int h:wpAny (model prog w) A (compareOp .Lt (.int a t) (.int c u)) Q E s)
section
open PySem.SeqAt
open PySem.AutoSeq1 (wpAny_loadPart')
open PySem.MeetsSeq PySem.MeetsSeq2 PySem.MeetsSeq3
theorem aav(l b:Addr)(items lR:Array Value)(n n2:Nat)(dd lT:Option Addr)(sl jE:Array (Option Value))(ns ms:List Int)(hi:IntsAre items.toList ns)(hj:IntsAre lR.toList ms) :
  Meets (Builtin.«tuple.__lt__» ⟨[.ref l,.ref b],[]⟩)
   (λ_ R s=>s.heap.get? l=some { cls:=.type "tuple",dict:=dd,data:=.seq items n,slots:=sl }/\s.heap.get? b=some { cls:=.type "tuple",dict:=lT,data:=.seq lR n2,slots:=jE }/\
    R (.ok (.ret (.bool (lexLt ns ms)))) s) :=
 .of_wp λprog w A R s h=>by
  obtain⟨hp,g,d,tk,os⟩:=s;obtain⟨hl,hb,h⟩:=h;have f2:=AutoSeq1.sub_tuple_tuple;have z1:items.size=ns.length:=by rw[← hi.length];simp
  have z2:lR.size=ms.length:=by rw[← hj.length];simp
  wp_walk using wpAny_loadPart' hl,wpAny_loadPart' hb,wpAny_forIn_list _ (λrest b s'=>b.1=none/\s' = ⟨hp,g,d,tk,os⟩/\∃(vs ws:List Value) (fT rZ:List Int),rest=vs.zip ws/\
   IntsAre vs fT/\IntsAre ws rZ/\fT.length+lR.size=rZ.length+items.size/\R (.ok (.ret (.bool (lexLt fT rZ)))) ⟨hp,g,d,tk,os⟩) _
  case turn =>
   rintro⟨y,x⟩ rest b s' ⟨iz,rfl,vs,ws,fT,rZ,hz,FP,zE,hlen,hR⟩;cases FP with
   | nil=>rw[List.zip_nil_left] at hz;cases hz
   | cons a t aaw =>
    cases zE with
    | nil=>rw[List.zip_nil_right] at hz;cases hz
    | cons c u aax =>
     rw[List.zip_cons_cons] at hz;injection hz with hyx aay;injection hyx with hy hx;subst hy hx;rw[aaq] at hR;simp only[List.length_cons] at hlen;obtain⟨e,he,Pj⟩:=aau A.in1 ⟨hp,g,d,tk,os⟩ a t c u;refine wpAny_bind (he prog w _ _ ?_);cases e with
     | true =>
      rw[if_pos (Pj.mp rfl)] at hR;wp_walk;exact⟨rfl,rfl,_,_,_,_,aay,aaw,aax,by lia,hR⟩
     | false =>
      rw[if_neg (λq=>absurd (Pj.mpr q) Bool.false_ne_true)] at hR;have FQ:=FO A.in1 ⟨hp,g,d,tk,os⟩ a t c u prog w;wp_walk using FQ;exact⟨_,rfl,by simpa using hR⟩
  case fin =>
   rintro⟨b1,b2⟩ s' ⟨iz,rfl,vs,ws,fT,rZ,hz,FP,zE,hlen,hR⟩;simp only at iz;subst iz;have hv:lexLt fT rZ=decide (items.size<lR.size):=by
    cases FP with
    | nil =>
     cases zE with
     | nil =>
      simp only[List.length_nil] at hlen;rw[aar];exact(decide_eq_false (by lia)).symm
     | cons c u hw =>
      simp only[List.length_nil,List.length_cons] at hlen;rw[aas];exact(decide_eq_true (by lia)).symm
    | cons a t hv =>
     cases zE with
     | nil =>
      simp only[List.length_nil,List.length_cons] at hlen;rw[aat];exact(decide_eq_false (by lia)).symm
     | cons c u hw =>
      rw[List.zip_cons_cons] at hz;cases hz
   rw[hv] at hR;wp_walk;exact⟨_,rfl,by simpa[Builtin.Tuple.tupleCompareSizes] using hR⟩
  case h =>
   exact⟨rfl,rfl,items.toList,lR.toList,ns,ms,rfl,hi,hj,by lia,h⟩
end
section
variable{prog:Program}{w:World}{A:Around}{E:Value->Shared->Prop}{s:Shared}
theorem aaz{l b:Addr}{items lR:Array Value}{ns ms:List Int}{Q:Value->Shared->Prop}(hl:IsTup s.heap l items)(hb:IsTup s.heap b lR)(hi:IntsAre items.toList ns)(hj:IntsAre lR.toList ms)
  (hu:A.units<cLine) (h:Q (.bool (lexLt ns ms)) s):wpAny (model prog w) A (compareOp .Lt (.ref l) (.ref b)) Q E s:=by
 obtain⟨⟨cls,dd,data,sl⟩,ho,hc,n,hd⟩:=id hl;obtain⟨⟨Pk,lT,data2,jE⟩,fM,jo,n2,hd2⟩:=id hb;simp only at hc hd jo hd2;subst hc hd jo hd2;exact richCompare_meets_room (op:=.Lt) ⟨_,ho,rfl⟩ ⟨_,fM,rfl⟩ PySem.F.slot_tuple_lt PySem.F.entry_tuple_lt (PySem.F.args_tuple_lt_2 _ _) (aav l b items lR n n2 dd lT sl jE ns ms hi hj)
  ⟨ho,fM,show Value.bool (lexLt ns ms)≠Value.notImplemented/\Q (.bool (lexLt ns ms)) s from⟨(λx=>nomatch x),h⟩⟩ hu
theorem aaA{t b:Addr}{vs ws:List Value}{Q:Value->Shared->Prop}(ht:IsTup s.heap t vs.toArray)(hb:IsTup s.heap b ws.toArray)(hv:vs≠[])
  (h1:ws = []->Q (.ref t) s) (h2:ws≠[]->Q (.ref s.heap.objs.size) { s with heap:=s.heap.push { cls:=.type "tuple",data:=.seq (vs++ws).toArray }})
  (hsz:vs.length+ws.length<=sizeLine):wpAny (model prog w) A (binaryOp .Add (.ref t) (.ref b)) Q E s:=by
 obtain⟨⟨cls,dd,data,sl⟩,ho,hc,n,hd⟩:=id ht;obtain⟨⟨Pk,lT,data2,jE⟩,fM,jo,n2,hd2⟩:=id hb;simp only at hc hd jo hd2;subst hc hd jo hd2;have e:vs.toArray++ws.toArray=(vs++ws).toArray:=by simp
 by_cases hw:ws = []
 ·exact concat_meets ⟨_,ho,rfl⟩ ⟨_,fM,rfl⟩ noFill_tuple_add seq_tuple_add PySem.F.slot_tuple_add PySem.F.entry_tuple_add (PySem.F.args_tuple_add_2 _ _)
   (tuple_addW1 t b vs.toArray ws.toArray n n2 dd lT sl jE (by simpa using hv) (by simp[hw])) ⟨ho,fM,h1 hw⟩
 ·refine concat_meets ⟨_,ho,rfl⟩ ⟨_,fM,rfl⟩ noFill_tuple_add seq_tuple_add PySem.F.slot_tuple_add PySem.F.entry_tuple_add (PySem.F.args_tuple_add_2 _ _)
   (tuple_addW2 t b vs.toArray ws.toArray n n2 dd lT sl jE (by simpa using hv) (by simpa using hw) (by rw[List.size_toArray,List.size_toArray];exact hsz)) ⟨ho,fM,?_⟩
  rw[e];exact h2 hw
noncomputable def bJ(n d:Nat):Option Int->Nat
 | none=>d
 | some v=>if v<0 then(v+(n:Int)).toNat else min v.toNat n
theorem aaB(n d k:Nat):bJ n d (some (k:Int))=min k n:=by
 show (if (k:Int)<0 then((k:Int)+(n:Int)).toNat else min (k:Int).toNat n)=min k n
 rw[if_neg (by lia),Int.toNat_natCast]
theorem aaC(n d:Nat)(hd:d<=n)(o:Option Int):bJ n d o<=n:=by
 cases o with
 | none=>exact hd
 | some v =>
  show (if v<0 then(v+(n:Int)).toNat else min v.toNat n)<=n
  by_cases hv:v<0
  ·rw[if_pos hv];lia
  ·rw[if_neg hv];exact Nat.min_le_right _ _
theorem Pn(v:Int)(n d:Nat):(if v<0 then max (v+(n:Int)) 0 else min v (n:Int))=((bJ n d (some v):Nat):Int):=by
 show (if v<0 then max (v+(n:Int)) 0 else min v (n:Int))=(((if v<0 then(v+(n:Int)).toNat else min v.toNat n):Nat):Int)
 by_cases hv:v<0
 ·simp only[if_pos hv];lia
 ·simp only[if_neg hv];lia
theorem aaD(lo hi:Option Int)(n:Nat):Builtin.Slice.sliceAdjust lo hi 1 (n:Int)=(((bJ n 0 lo:Nat):Int),((bJ n n hi:Nat):Int)):=by
 have h1:¬ ((1:Int)<0):=by lia
 unfold Builtin.Slice.sliceAdjust;simp only[h1,if_false];refine Prod.ext ?_ ?_
 ·cases lo with
  | none=>rfl
  | some v=>exact Pn v n 0
 ·cases hi with
  | none=>rfl
  | some v=>exact Pn v n n
theorem aaE(i j:Nat):Builtin.Slice.slicePlaces (i:Int) (j:Int) 1=j - i:=by
 unfold Builtin.Slice.slicePlaces;have h1:(1:Int) > 0:=by lia
 simp only[h1,if_true,Int.ediv_one];split <;> lia
theorem Po{v:Value}{o:Option Int}{Q:Option Int->Shared->Prop}(p:IsPart v o)(h:Q o s):wpAny (model prog w) A (Builtin.Slice.slicePartIndex v) Q E s:=by
 cases p with
 | none=>exact slicePart_none h
 | int i t=>exact slicePart_int h
theorem aaF{sl:Addr}{vl vu:Value}{lo hi:Option Int}{n:Nat}{Q:Int×Int×Nat->Shared->Prop}(hs:s.heap.IsSliceOf sl vl vu .none)(pl:IsPart vl lo)(pu:IsPart vu hi)
  (h:Q (((bJ n 0 lo:Nat):Int),1,bJ n n hi - bJ n 0 lo) s):wpAny (model prog w) A (Builtin.Slice.sliceApplied (.ref sl) (pure (n:Int))) Q E s:=by
 obtain⟨os,mU,Pp,zF⟩:=id hs;unfold Builtin.Slice.sliceApplied Builtin.Slice.sliceFields;refine wpAny_bind (wpAny_bind (wpAny_field mU zF (x:=vl) rfl (wpAny_bind (wpAny_field mU zF (x:=vu) rfl (wpAny_bind (wpAny_field mU zF (x:=.none) rfl (wpAny_pure ?_)))))));refine wpAny_bind (slicePart_none ?_)
 show wpAny _ _ (if ((1:Int) == 0)=true then _ else _) _ _ s
 rw[if_neg (by decide)]
 refine wpAny_bind (Po pl (wpAny_bind (Po pu (wpAny_bind (wpAny_pure ?_)))))
 show wpAny _ _ (match Builtin.Slice.sliceAdjust lo hi 1 (n:Int) with | (lo,hi)=>pure (lo,(1:Int),Builtin.Slice.slicePlaces lo hi 1)) _ _ s
 rw[aaD lo hi n]
 show wpAny _ _ (pure (((bJ n 0 lo:Nat):Int),(1:Int),Builtin.Slice.slicePlaces ((bJ n 0 lo:Nat):Int) ((bJ n n hi:Nat):Int) 1)) _ _ s;rw[aaE];exact wpAny_pure h
theorem aaG(xs:Array Value)(i k:Nat):((List.range k).filterMap λ(m:Nat)=>xs[((i:Int)+(m:Int)*1).toNat]?).toArray=((xs.toList.drop i).take k).toArray:=by
 have e:(λ(m:Nat)=>xs[((i:Int)+(m:Int)*1).toNat]?)=λm=>xs[i+m]? := by
  funext m
  have:((i:Int)+(m:Int)*1).toNat=i+m:=by lia
  rw[this]
 rw[e];have:=pick_run xs i k;rw[List.filterMap_map] at this;have e2:((λx=>xs[x]?) ∘ λx=>i+x)=λm=>xs[i+m]? := rfl;rw[e2] at this;rw[this]
theorem aaH{t sl:Addr}{items:Array Value}{vl vu:Value}{lo hi:Option Int}{Q:Value->Shared->Prop}(ht:IsTup s.heap t items)(hs:s.heap.IsSliceOf sl vl vu .none)(pl:IsPart vl lo)(pu:IsPart vu hi)
  (hw:¬ (bJ items.size 0 lo=0/\bJ items.size items.size hi=items.size))
  (h:Q (.ref s.heap.objs.size) { s with heap:=s.heap.push { cls:=.type "tuple",data:=.seq ((items.toList.drop (bJ items.size 0 lo)).take (bJ items.size items.size hi - bJ items.size 0 lo)).toArray }})
  (hsz:items.size<=sizeLine):wpAny (model prog w) A (getItem (.ref t) (.ref sl)) Q E s:=by
 have zG:sizeOk (.seq ((items.toList.drop (bJ items.size 0 lo)).take (bJ items.size items.size hi - bJ items.size 0 lo)).toArray):=by
  show ((items.toList.drop (bJ items.size 0 lo)).take (bJ items.size items.size hi - bJ items.size 0 lo)).toArray.size<=sizeLine;rw[List.size_toArray,List.length_take,List.length_drop,Array.length_toList];lia
 have hj:bJ items.size items.size hi<=items.size:=aaC _ _ (Nat.le_refl _) hi;obtain⟨os,mU,Pp,zF⟩:=id hs;have hTs:s.TypeIs (.ref sl) "slice" := ⟨os,mU,Pp⟩;unfold getItem
 try with_reducible refine wpAny_holding ?_
 first | refine wpAny_bind (wpAny_pure ?_) | skip
 refine wpAny_bind (wpAny_sequenceKey ht.typeIs (by decide) ?_)
 refine wpAny_bind (wpAny_callSpecial?_slot (name:=Str.ofString "__getitem__") ht.typeIs PyProof.Rows.slot_tuple_getitem
  (wpAny_call_entry PyProof.Rows.slot_tuple_getitem ht.typeIs entry_tuple_getitem ?_ (args_tuple_getitem _ _)))
 show wpAny _ _ (Builtin.Tuple.tupleItemsOf (.ref t) >>= _) _ _ s;refine wpAny_bind (tupleItemsOf_ ht ?_);refine wpAny_bind (wpAny_typeOf hTs ?_);rw[if_pos (by decide)]
 refine wpAny_bind (aaF hs pl pu ?_);have qo:¬ ((((bJ items.size 0 lo:Nat):Int) == 0 && (1:Int) == 1 && (bJ items.size items.size hi - bJ items.size 0 lo) == items.size)=true):=by
  intro q;rw[Bool.and_eq_true,Bool.and_eq_true] at q;have q1:((bJ items.size 0 lo:Nat):Int)=0:=eq_of_beq q.1.1;have q2:bJ items.size items.size hi - bJ items.size 0 lo=items.size:=eq_of_beq q.2;exact hw ⟨by lia,by lia⟩
 show wpAny _ _ (if (((bJ items.size 0 lo:Nat):Int) == 0 && (1:Int) == 1 && (bJ items.size items.size hi - bJ items.size 0 lo) == items.size)=true then _ else _) _ _ s
 rw[if_neg qo,aaG]
 first
  | exact wpAny_bind (m:=Builtin.Tuple.tupleExact _) (wpAny_newObj_type (wpAny_pure ⟨_,rfl,wpAny_pure h⟩) zG)
  | exact wpAny_bind (m:=Builtin.Tuple.tupleExact _) (wpAny_newObj_type (wpAny_bind (wpAny_pure (wpAny_pure ⟨_,rfl,wpAny_pure h⟩))) zG)
  | exact wpAny_bind (wpAny_bind (m:=Builtin.Tuple.tupleExact _) (wpAny_newObj_type (wpAny_pure (wpAny_pure ⟨_,rfl,wpAny_pure h⟩)) zG))
  | exact wpAny_bind (wpAny_bind (m:=Builtin.Tuple.tupleExact _) (wpAny_newObj_type (wpAny_pure ⟨_,rfl,wpAny_pure h⟩) zG))
end
end _H
namespace _L
open PySem PySem.Spec PyProof.Rows
noncomputable abbrev TO:=St->Hp->(Option Int->Hp->Prop)->Prop
noncomputable def PO(X:Cx)(e:Option Expr)(t:TO):Prop :=
 ∀(pins:List (Addr×Obj)) (s:Shared) (σ:St) (H:Hp) (Q:Option Int->Hp->Prop),Inv X pins σ H s->t σ H Q->
  wpAny (model X.prog X.w) X.A (evalPart e X.env) (λu s'=>∃o H',Inv X pins σ H' s'/\IsPart u o/\Q o H') X.xe s
noncomputable def vA:TO:=λ_ H Q=>Q none H
noncomputable def vB(t:TE):TO:=λσ H Q=>t σ H λx H1=>∃i,x = .int i/\Q (some i) H1
theorem intsAre_of{ns:List Int}:∀ {us:List Value},Vals (ns.map V.int) us->IntsAre us ns:=by
 induction ns with
 | nil=>intro us r;rw[List.map_nil] at r;cases r;exact .nil
 | cons n ns ih =>
  intro us r;rw[List.map_cons] at r;cases r with
  | cons r1 r2 =>
   obtain⟨t,e⟩:=r1;subst e;exact .cons n t (ih r2)
section
variable{X:Cx}{e:Expr}{te:TE}{lo hi:Option Expr}{tl th:TO}{pos p2:Pos}
theorem kC:PO X none vA:=by
 intro pins s σ H Q I h;rw[evalPart_none];exact wpAny_pure ⟨none,H,I,.none,h⟩
theorem kD(h:PE X e te):PO X (some e) (vB te):=by
 intro pins s σ H Q I hw;rw[evalPart_some];refine aU (h pins s σ H _ I hw) λu s1 ⟨x,H1,I1,r1,q1⟩=>?_;obtain⟨i,rfl,q⟩:=q1;obtain⟨t,rfl⟩:=r1;exact⟨some i,H1,I1,.int i t,q⟩
noncomputable def zH(X:Cx)(r:V->Option Int->Option Int->Hp->VK->Prop):Prop :=
 ∀(pins:List (Addr×Obj)) (s:Shared) (σ:St) (H:Hp) (x:V) (v vl vu:Value) (lo hi:Option Int) (sl:Addr) (Q:VK),Inv X pins σ H s->RelV x v->s.heap.IsSliceOf sl vl vu .none->IsPart vl lo->IsPart vu hi->r x lo hi H Q->
  ∃T id,typeLookup (.type T) "__getitem__" = pure (some (.builtin id))/\s.TypeIs v T/\wpAny (model X.prog X.w) X.A (getItem v (.ref sl)) (EP X pins σ Q) X.xe s
noncomputable def vC(r:V->Option Int->Option Int->Hp->VK->Prop)(te:TE)(tl th:TO):TE:=λσ H Q=>te σ H λx H1=>tl σ H1 λl H2=>th σ H2 λu H3=>r x l u H3 Q
theorem kE{r:V->Option Int->Option Int->Hp->VK->Prop}(hr:zH X r)(he:PE X e te)(hl:PO X lo tl)(hu:PO X hi th):PE X (.Subscript e (.Slice lo hi none p2) pos) (vC r te tl th):=by
 intro pins s σ H Q I h;refine Subscript_ (aU (he pins s σ H _ I h) λv s1 ⟨x,H1,I1,r1,q1⟩=>?_);refine wpAny_Slice (aU (hl pins s1 σ H1 _ I1 q1) λvl s2 ⟨l,H2,I2,pl,q2⟩=>aU (hu pins s2 σ H2 _ I2 q2) λvu s3 ⟨u,H3,I3,pu,q3⟩=>?_);rw[evalPart_none];refine wpAny_pure ?_;have I4:Inv X pins σ H3 { s3 with heap:=s3.heap.push { cls:=.type "slice",data:=.fields #[vl,vu,.none] }}:=I3.kept (t':=s3.toks) λb ob q=>Heap.get?_push_of_some _ q;obtain⟨T,id,hT,ht,hg⟩:=hr pins { s3 with heap:=s3.heap.push { cls:=.type "slice",data:=.fields #[vl,vu,.none] }} σ H3 x v vl vu l u s3.heap.objs.size Q I4 r1 (Heap.IsSliceOf.new ..) pl pu q3
 show wpAny (model X.prog X.w) X.A (subscriptTail e (.Slice lo hi none p2) v (.ref s3.heap.objs.size)) (EP X pins σ Q) X.xe { s3 with heap:=s3.heap.push { cls:=.type "slice",data:=.fields #[vl,vu,.none] }};exact tail_any (ops:=[.ref s3.heap.objs.size,v]) ht hT hg (by with_unfolding_all rfl)
noncomputable def cZ(xs:List V)(lo hi:Option Int):List V:=(xs.drop (_H.bJ xs.length 0 lo)).take (_H.bJ xs.length xs.length hi - _H.bJ xs.length 0 lo)
theorem Pq(xs:List V)(lo hi:Option Int):(cZ xs lo hi).length<=xs.length:=by
 unfold cZ;rw[List.length_take,List.length_drop];lia
noncomputable def Pr(K:PySem.W.Frag):V->Option Int->Option Int->Hp->VK->Prop:=λx lo hi H Q=>∃a xs,x = .ref a/\aL K H a xs/\
 ¬ (_H.bJ xs.length 0 lo=0/\_H.bJ xs.length xs.length hi=xs.length)/\∀p,H p=none->Q (.ref p) (upd H p (.tup (cZ xs lo hi)))
theorem zI:zH X (Pr X.K):=by
 intro pins s σ H x v vl vu lo hi sl Q I rx hs pl pu h;obtain⟨a,xs,rfl,hx,hw,q⟩:=h;cases rx;obtain⟨aC,r,ht,hz⟩:=I.tuple hx;have hlen:aC.toArray.size=xs.length:=by rw[List.size_toArray];exact r.length.symm
 refine⟨"tuple",_,PyProof.Rows.slot_tuple_getitem.lookup,ht.typeIs,?_⟩;refine _H.aaH ht hs pl pu (by rw[hlen];exact hw) ?_ (by rw[hlen];exact hz)
 rw[hlen];refine⟨.ref s.heap.objs.size,_,I.laid (t':=s.toks) (o:=.tup (cZ xs lo hi)) (λb ob q=>Heap.get?_push_of_some _ q) (Nat.le_refl _) ?_,rfl,q _ (I.aM.fresh (Nat.le_refl _))⟩;exact⟨Nat.le_trans (Pq xs lo hi) hz,_,(r.drop (_H.bJ xs.length 0 lo)).take (_H.bJ xs.length xs.length hi - _H.bJ xs.length 0 lo),IsTup.new _ _⟩
noncomputable def r9(K:PySem.W.Frag):R2:=λx y H Q=>∃a b xs ys,x = .ref a/\y = .ref b/\aL K H a xs/\aL K H b ys/\xs≠[]/\xs.length+ys.length<=sizeLine/\
 (ys = []->Q (.ref a) H)/\(ys≠[]->∀p,H p=none->Q (.ref p) (upd H p (.tup (xs++ys))))
theorem Vals.zJ{xs:List V}{us:List Value}(r:Vals xs us):us = []↔xs = []:=by
 cases r with
 | nil=>simp
 | cons _ _=>simp
theorem zK:cu X (binaryOp .Add) (r9 X.K):=by
 intro pins s σ H x y v u Q I rx ry h;obtain⟨a,b,xs,ys,rfl,rfl,ha,hb,hx,hz,q1,q2⟩:=h;cases rx;cases ry;obtain⟨aC,r1,p1,_⟩:=I.tuple ha;obtain⟨fB,r2,p2,_⟩:=I.tuple hb;refine _H.aaA p1 p2 (λz=>hx (r1.zJ.mp z)) (λz=>⟨.ref a,H,I,rfl,q1 (r2.zJ.mp z)⟩) (λz=>?_) (by rw[← r1.length,← r2.length];exact hz)
 refine⟨.ref s.heap.objs.size,_,I.laid (t':=s.toks) (o:=.tup (xs++ys)) (λb ob q=>Heap.get?_push_of_some _ q) (Nat.le_refl _) ?_,rfl,q2 (λw=>z (r2.zJ.mpr w)) _ (I.aM.fresh (Nat.le_refl _))⟩;exact⟨by rw[List.length_append];exact hz,_,r1.append r2,IsTup.new _ _⟩
end
noncomputable def gT(n:Nat)(i:Int):Option Nat:=if 0<=i then(if i<n then some i.toNat else none) else if -(n:Int)<=i then some (i+n).toNat else none
noncomputable def dR{α:Type}(xs:List α)(i:Int):Option α:=(gT xs.length i).bind λj=>xs[j]?
theorem Pu{n:Nat}{i:Int}{j:Nat}(h:gT n i=some j):seqIndex? i n=some j/\j<n/\-(n:Int)<=i/\i<n:=by
 unfold gT at h;by_cases h0:0<=i
 ·rw[if_pos h0] at h;by_cases h1:i<n
  ·rw[if_pos h1] at h;have e:i.toNat=j:=Option.some.inj h;exact⟨by rw[seqIndex_of h0 h1,e],by lia,by lia,h1⟩
  ·rw[if_neg h1] at h;cases h
 ·rw[if_neg h0] at h;by_cases h1 : -(n:Int)<=i
  ·rw[if_pos h1] at h;have e:(i+n).toNat=j:=Option.some.inj h;exact⟨by rw[seqIndex_neg (by lia) h1,e],by lia,h1,by lia⟩
  ·rw[if_neg h1] at h;cases h
theorem Pw{α:Type}{xs:List α}{i:Int}{v:α}(h:dR xs i=some v):∃j,seqIndex? i xs.length=some j/\xs[j]? = some v/\j<xs.length/\-(xs.length:Int)<=i/\i<xs.length:=by
 unfold dR at h;cases e:gT xs.length i with
 | none=>rw[e] at h;cases h
 | some j =>
  rw[e] at h;obtain⟨h1,h2,h3,h4⟩:=Pu e;exact⟨j,h1,h,h2,h3,h4⟩
theorem oM{α:Type}{xs:List α}{j:Nat}{v:α}(h:xs[j]? = some v):dR xs (j:Int)=some v:=by
 have hj:j<xs.length:=(List.getElem?_eq_some_iff.mp h).1;have e:gT xs.length (j:Int)=some j:=by
  unfold gT;rw[if_pos (by lia),if_pos (by lia)];simp
 unfold dR;rw[e];exact h
noncomputable def aaI(b:Expr):Prop:=∀o i,subscripted b false o i=operate [o,i] (getItem o i)
noncomputable def kF(X:Cx)(r:R2):Prop :=
 ∀(value slice:Expr) (pins:List (Addr×Obj)) (s:Shared) (σ:St) (H:Hp) (x y:V) (v u:Value) (Q:VK),Inv X pins σ H s->RelV x v->RelV y u->r x y H Q->
  subscripted slice false v u=operate [v,u] (getItem v u)->wpAny (model X.prog X.w) X.A (subscriptTail value slice v u) (EP X pins σ Q) X.xe s
noncomputable def Px(X:Cx)(id:String)(r:V->List V->Hp->VK->Prop):Prop :=
 ∀(pins:List (Addr×Obj)) (s:Shared) (σ:St) (H:Hp) (x:V) (xs:List V) (v:Value) (us:List Value) (Q:VK),Inv X pins σ H s->RelV x v->Vals xs us->r x xs H Q->
  wpAny (model X.prog X.w) X.A (call (.builtin id) (v::us)) (EP X pins σ Q) X.xe s
section
variable{X:Cx}{a b:Expr}{ta tb:TE}{pos:Pos}
theorem aH{r:R2}(hr:kF X r)(ha:PE X a ta)(hb:PE X b tb)(hs:aaI b):PE X (.Subscript a b pos) (oG r ta tb):=by
 intro pins s σ H Q I h;exact Subscript_ (FE ha hb I h λv u s2 x y H2 I2 rx ry q=>hr a b pins s2 σ H2 x y v u Q I2 rx ry q (hs _ _))
noncomputable def r_(K:PySem.W.Frag):R2:=λx y H Q=>∃p xs i v,x = .ref p/\y = .int i/\aA K H p xs/\dR xs i=some v/\Q v H
noncomputable def qp(K:PySem.W.Frag):R2:=λx y H Q=>∃p xs i v,x = .ref p/\y = .int i/\aL K H p xs/\dR xs i=some v/\Q v H
theorem mW:kF X (r_ X.K):=by
 intro value slice pins s σ H x y v u Q I rx ry h hs;obtain⟨p,xs,i,z,rfl,rfl,hq,he,q⟩:=h;cases rx;obtain⟨t,rfl⟩:=ry;obtain⟨aC,r,pl,hz⟩:=I.list hq;obtain⟨j,h1,h2,h3,h4,h5⟩:=Pw he;obtain⟨w,ew,kG⟩:=r.get h2;have hl:=r.length;have hn:=vm;have fin:EP X pins σ Q w s:=⟨z,H,I,kG,q⟩;by_cases h0:0<=i
 ·have hj:i.toNat=j:=by
   rw[seqIndex_of h0 h5] at h1;exact Option.some.inj h1
  exact item_listR pl.isList h0 (by lia) (by rw[hj];simpa using ew) fin hs
 ·have hj:(i+(aC.toArray.size:Int)).toNat=j:=by
   rw[seqIndex_neg (by lia) h4] at h1
   rw[List.size_toArray,← hl];exact Option.some.inj h1
  exact subscriptTail_builtinR (x:=w) pl.isList.typeIs slot_list_getitem.lookup
   (wpAny_getItem_list_neg (Q:=λr s'=>r=w/\EP X pins σ Q r s') pl.isList (by lia) (by rw[List.size_toArray] <;> lia) (by lia) (by rw[hj];simpa using ew) ⟨rfl,fin⟩) hs
theorem vD:kF X (qp X.K):=by
 intro value slice pins s σ H x y v u Q I rx ry h hs;obtain⟨p,xs,i,z,rfl,rfl,hq,he,q⟩:=h;cases rx;obtain⟨t,rfl⟩:=ry;obtain⟨aC,r,pl,hz⟩:=I.tuple hq;obtain⟨j,h1,h2,h3,h4,h5⟩:=Pw he;obtain⟨w,ew,kG⟩:=r.get h2;have hl:=r.length;have hn:=vm;have fin:EP X pins σ Q w s:=⟨z,H,I,kG,q⟩;exact subscriptTail_builtinR (x:=w) pl.typeIs slot_tuple_getitem.lookup
  (getItem_tuple (j:=j) (Q:=λr s'=>r=w/\EP X pins σ Q r s') pl (by lia) (by lia) (by rw[List.size_toArray,← hl];exact h1) (by simpa using ew) ⟨rfl,fin⟩) hs
theorem aaJ(aC:List Value)(n j:Nat)(u:Value):Obj.mapSeq (·.setIfInBounds j u) { cls:=.type "list",data:=.seq aC.toArray n } = { cls:=.type "list",data:=.seq (aC.set j u).toArray n }:=by
 simp[Obj.mapSeq]
theorem Inv.lst{pins:List (Addr×Obj)}{σ:St}{H:Hp}{s:Shared}{p:Addr}{xs:List V}(I:Inv X pins σ H s)(h:H p=some (.lst xs)) :
  ∃(aC:List Value) (n:Nat),Vals xs aC/\s.heap.get? p=some { cls:=.type "list",data:=.seq aC.toArray n }/\xs.length<=sizeLine:=by
 obtain⟨z,aC,n,r,e⟩:=I.aM p _ h;exact⟨aC,n,r,e,z⟩
theorem Inv.aaK{pins:List (Addr×Obj)}{σ:St}{H:Hp}{s:Shared}{p:Addr}{xs ys:List V}{aC its':List Value}{n n':Nat}{f:Obj->Obj}(I:Inv X pins σ H s)(h:H p=some (.lst xs))
  (ho:s.heap.get? p=some { cls:=.type "list",data:=.seq aC.toArray n }) (hf:f { cls:=.type "list",data:=.seq aC.toArray n } = { cls:=.type "list",data:=.seq its'.toArray n' }) (r:Vals ys its') (hz:ys.length<=sizeLine) (t:Nat) :
  Inv X pins σ (upd H p (.lst ys)) { s with heap:=s.heap.update p f,toks:=t }:=by
 have e:(s.heap.update p f).get? p=some { cls:=.type "list",data:=.seq its'.toArray n' }:=by
  rw[Heap.get?_update_self f ho (by rw[hf] <;> rfl),hf]
 refine I.write (x:=p) (e:=p) (by rw[h];trivial) (.inl rfl) (λb u hb q=>(Heap.get?_update_other _ _ (Ne.symm hb)).trans q) ⟨_,e⟩ ?_
 exact⟨hz,its',n',r,e⟩
noncomputable def vE:V->V->V->Hp->(Hp->Prop)->Prop:=λo i v H Q=>∃p xs k j,o = .ref p/\i = .int k/\H p=some (.lst xs)/\gT xs.length k=some j/\Q (upd H p (.lst (xs.set j v)))
theorem set_list:OQ X vE:=by
 intro pins s σ H o i v ov iv u Q I ro ri rv h;obtain⟨p,xs,k,j,rfl,rfl,hp,hj,q⟩:=h;cases ro;obtain⟨t,rfl⟩:=ri;obtain⟨aC,n,r,ho,hz⟩:=I.lst hp;obtain⟨h1,h2,h3,h4⟩:=Pu hj;have hl:=r.length;have hn:=vm;have I':Inv X pins σ (upd H p (.lst (xs.set j v))) { s with heap:=s.heap.update p (Obj.mapSeq (·.setIfInBounds j u))} :=
  I.aaK hp ho (aaJ aC n j u) (r.set rv j) (by rw[List.length_set];exact hz) s.toks
 by_cases h0:0<=k
 ·have hk:k.toNat=j:=by
   rw[seqIndex_of h0 h4] at h1;exact Option.some.inj h1
  exact PySem.W.ki_setAt ho h0 (by lia) (by rw[List.size_toArray,← hl];exact h4) (by rw[hk];exact⟨_,I',q⟩)
 ·have hk:(k+(aC.toArray.size:Int)).toNat=j:=by
   rw[seqIndex_neg (by lia) h3] at h1
   rw[List.size_toArray,← hl];exact Option.some.inj h1
  exact PySem.W.ki_setBack ho (by lia) (by rw[List.size_toArray,← hl];exact h3) (by lia) (by rw[hk];exact⟨_,I',q⟩)
theorem aaL(lo hi:Option Int)(n:Nat):(sliceBounds lo hi none n).1=((_H.bJ n 0 lo:Nat):Int)/\(sliceBounds lo hi none n).2.1=((_H.bJ n n hi:Nat):Int)/\(sliceBounds lo hi none n).2.2=1:=by
 refine⟨?_,?_,rfl⟩
 ·cases lo with
  | none=>simp[sliceBounds,_H.bJ]
  | some i =>
   simp only[sliceBounds,_H.bJ,Option.getD_none,show (1:Int) > 0 by decide,if_true]
   by_cases h:i<0
   ·simp only[h,if_true] <;> lia
   ·simp only[h,if_false] <;> lia
 ·cases hi with
  | none=>simp[sliceBounds,_H.bJ]
  | some i =>
   simp only[sliceBounds,_H.bJ,Option.getD_none,show (1:Int) > 0 by decide,if_true]
   by_cases h:i<0
   ·simp only[h,if_true] <;> lia
   ·simp only[h,if_false] <;> lia
theorem aaM(aC:List Value)(lo hi:Option Int):slicePick aC.toArray lo hi none=((aC.drop (_H.bJ aC.length 0 lo)).take (_H.bJ aC.length aC.length hi - _H.bJ aC.length 0 lo)).toArray:=by
 obtain⟨h1,h2,h3⟩:=aaL lo hi aC.toArray.size;unfold slicePick;rw[h1,h2,h3];simp only[sliceRange_one,pick_run,List.size_toArray] <;> rfl
noncomputable def vF(K:PySem.W.Frag):V->Option Int->Option Int->Hp->VK->Prop:=λx lo hi H Q=>∃a xs,x = .ref a/\aA K H a xs/\∀p,H p=none->Q (.ref p) (upd H p (.lst (cZ xs lo hi)))
theorem se:zH X (vF X.K):=by
 intro pins s σ H x v vl vu lo hi sl Q I rx hs pl pu h;obtain⟨a,xs,rfl,hx,q⟩:=h;cases rx;obtain⟨aC,r,ht,hz⟩:=I.list hx;have hlen:=r.length;refine⟨"list",_,slot_list_getitem.lookup,ht.isList.typeIs,?_⟩;refine wpAny_getItem_list_slice ht.isList hs pl pu .none (by simp) ?_ (by rw[List.size_toArray] <;> lia)
 rw[aaM,← hlen];refine⟨.ref s.heap.objs.size,_,I.laid (t':=s.toks) (o:=.lst (cZ xs lo hi)) (λb ob q=>Heap.get?_push_of_some _ q) (Nat.le_refl _) ?_,rfl,q _ (I.aM.fresh (Nat.le_refl _))⟩;exact⟨Nat.le_trans (Pq xs lo hi) hz,_,0,(r.drop (_H.bJ xs.length 0 lo)).take (_H.bJ xs.length xs.length hi - _H.bJ xs.length 0 lo),Heap.get?_push_size _ rfl⟩
noncomputable def jF:V->Bool
 | .aP=>true
 | .bl _=>true
 | .int _=>true
 | .str _=>true
 | _=>false
noncomputable def jq:V->V->Bool
 | .aP,.aP=>true
 | .bl a,.bl b=>a == b
 | .bl a,.int b=>(if a then 1 else 0) == b
 | .int a,.bl b=>a == (if b then 1 else 0)
 | .int a,.int b=>a == b
 | .str a,.str b=>a == b
 | _,_=>false
theorem FT{A:Around}{s:Shared}{y x:V}{u v:Value}(ry:RelV y u)(rx:RelV x v)(fy:jF y=true)(fx:jF x=true):SeqAt.EqAt A s u v (jq y x):=by
 cases y with
 | aP =>
  cases ry;cases x with
  | aP=>cases rx;exact SeqAt.EqAt.same _
  | bl b=>cases rx;exact SeqAt.EqAt.none_bool b
  | int b=>obtain⟨t,rfl⟩:=rx;exact SeqAt.EqAt.none_int b t
  | str b=>obtain⟨t,rfl⟩:=rx;exact SeqAt.EqAt.none_str b t
  | _=>exact absurd (show false=true from fx) Bool.false_ne_true
 | bl a =>
  cases ry;cases x with
  | aP=>cases rx;exact SeqAt.EqAt.bool_none a
  | bl b=>cases rx;exact SeqAt.EqAt.bool_bool a b
  | int b=>obtain⟨t,rfl⟩:=rx;exact SeqAt.EqAt.bool_int a b t
  | str b=>obtain⟨t,rfl⟩:=rx;exact SeqAt.EqAt.bool_str a b t
  | _=>exact absurd (show false=true from fx) Bool.false_ne_true
 | int a =>
  obtain⟨t',rfl⟩:=ry;cases x with
  | aP=>cases rx;exact SeqAt.EqAt.int_none a t'
  | bl b=>cases rx;exact SeqAt.EqAt.int_bool a t' b
  | int b=>obtain⟨t,rfl⟩:=rx;exact SeqAt.EqAt.int_int a t' b t
  | str b=>obtain⟨t,rfl⟩:=rx;exact SeqAt.EqAt.int_str a t' b t
  | _=>exact absurd (show false=true from fx) Bool.false_ne_true
 | str a =>
  obtain⟨t',rfl⟩:=ry;cases x with
  | aP=>cases rx;exact SeqAt.EqAt.str_none a t'
  | bl b=>cases rx;exact SeqAt.EqAt.str_bool a t' b
  | int b=>obtain⟨t,rfl⟩:=rx;exact SeqAt.EqAt.str_int a t' b t
  | str b=>obtain⟨t,rfl⟩:=rx;exact SeqAt.EqAt.str_str a t' b t
  | _=>exact absurd (show false=true from fx) Bool.false_ne_true
 | _=>exact absurd (show false=true from fy) Bool.false_ne_true
noncomputable def iA(x:V)(u:Value):Bool:=match u with
 | .none=>jq .aP x
 | .bool b=>jq (.bl b) x
 | .int i _=>jq (.int i) x
 | .str z _=>jq (.str z) x
 | _=>false
theorem Py{x y:V}{u:Value}(r:RelV y u)(f:jF y=true):iA x u=jq y x:=by
 cases y with
 | aP=>cases r;rfl
 | bl b=>cases r;rfl
 | int i=>obtain⟨t,rfl⟩:=r;rfl
 | str z=>obtain⟨t,rfl⟩:=r;rfl
 | _=>exact absurd (show false=true from f) Bool.false_ne_true
theorem vG{x:V}:∀ {xs:List V} {us:List Value},Vals xs us->xs.all jF=true->us.any (iA x)=xs.any λy=>jq y x
 | _,_,.nil,_=>rfl
 | y::xs,u::us,.cons r t,f=>by
  rw[List.all_cons,Bool.and_eq_true] at f;rw[List.any_cons,List.any_cons,Py r f.1,vG t f.2]
theorem vH{A:Around}{s:Shared}{x:V}{v:Value}(rx:RelV x v)(fx:jF x=true):∀ {xs:List V} {us:List Value},Vals xs us->xs.all jF=true->∀u∈us,SeqAt.EqAt A s u v (iA x u)
 | _,_,.nil,_=>λu hu=>by cases hu
 | y::xs,u::us,.cons r t,f=>λu' hu=>by
  rw[List.all_cons,Bool.and_eq_true] at f;rcases List.mem_cons.mp hu with rfl | hu
  ·rw[Py r f.1];exact FT r rx f.1 fx
  ·exact vH rx fx t f.2 u' hu
noncomputable def sf(x:V)(xs:List V):Bool:=xs.any λy=>jq y x
noncomputable def oN(K:PySem.W.Frag)(neg:Bool):R2:=λx y H Q=>∃p xs,y = .ref p/\(aA K H p xs\/aL K H p xs)/\jF x=true/\xs.all jF=true/\Q (.bl (if neg then !sf x xs else sf x xs)) H
theorem FU:cu X (compareOp .In) (oN X.K false):=by
 intro pins s σ H x y v u Q I rx ry h;obtain⟨p,xs,rfl,hq,fx,fs,q⟩:=h;cases ry;rcases hq with hq | hq
 ·obtain⟨aC,r,pl,hz⟩:=I.list hq;refine SeqAt.in_listAt (iA x) pl.isList (λw hw=>vH rx fx r fs w (by simpa using hw)) ⟨.bl _,H,I,rfl,?_⟩
  rw[show aC.toArray.any (iA x)=aC.any (iA x) by simp,vG r fs]
  exact q
 ·obtain⟨aC,r,pl,hz⟩:=I.tuple hq;refine SeqAt.in_tupleAt (iA x) pl (λw hw=>vH rx fx r fs w (by simpa using hw)) ⟨.bl _,H,I,rfl,?_⟩
  rw[show aC.toArray.any (iA x)=aC.any (iA x) by simp,vG r fs]
  exact q
theorem Pz:cu X (compareOp .NotIn) (oN X.K true):=by
 intro pins s σ H x y v u Q I rx ry h;obtain⟨p,xs,rfl,hq,fx,fs,q⟩:=h;cases ry;rcases hq with hq | hq
 ·obtain⟨aC,r,pl,hz⟩:=I.list hq;refine SeqAt.notIn_listAt (iA x) pl.isList (λw hw=>vH rx fx r fs w (by simpa using hw)) ⟨.bl _,H,I,rfl,?_⟩
  rw[show aC.toArray.any (iA x)=aC.any (iA x) by simp,vG r fs]
  exact q
 ·obtain⟨aC,r,pl,hz⟩:=I.tuple hq;refine SeqAt.notIn_tupleAt (iA x) pl (λw hw=>vH rx fx r fs w (by simpa using hw)) ⟨.bl _,H,I,rfl,?_⟩
  rw[show aC.toArray.any (iA x)=aC.any (iA x) by simp,vG r fs]
  exact q
theorem vI:fS X (.builtin "len") (λxs H Q=>∃p ys,xs = [.ref p]/\(aA X.K H p ys\/aL X.K H p ys)/\Q (.int ys.length) H):=by
 intro pins s σ H xs us Q I r h;obtain⟨p,ys,rfl,hq,q⟩:=h;obtain⟨u,rfl,rx⟩:=vals1 r;cases rx;have hn:=vm;rcases hq with hq | hq
 ·obtain⟨aC,r',pl,hz⟩:=I.list hq;have hlen:=r'.length;exact Calls.call_len_list pl.isList (by simp only[List.size_toArray] <;> lia) ⟨.int ys.length,H,I.tok _,⟨s.toks+1,by rw[List.size_toArray,hlen]⟩,q⟩
 ·obtain⟨aC,r',pl,hz⟩:=I.tuple hq;have hlen:=r'.length;exact len_tuple pl (by simp only[List.size_toArray] <;> lia) ⟨.int ys.length,H,I.tok _,⟨s.toks+1,by rw[List.size_toArray,hlen]⟩,q⟩
theorem vJ:fS X (.type "list") (λxs H Q=>∃p ys,xs = [.ref p]/\(aA X.K H p ys\/aL X.K H p ys)/\∀l,H l=none->Q (.ref l) (upd H l (.lst ys))):=by
 intro pins s σ H xs us Q I r h;obtain⟨p,ys,rfl,hq,q⟩:=h;obtain⟨u,rfl,rx⟩:=vals1 r;cases rx;have fin:∀(aC:List Value),Vals ys aC->ys.length<=sizeLine->∀(h':Heap) (c':Nat),(∀b o',s.heap.get? b=some o'->h'.get? b=some o')->
   h'.get? s.heap.objs.size=some { cls:=.type "list",dict:=none,data:=.seq aC.toArray c',slots := #[] }->EP X pins σ Q (.ref s.heap.objs.size) { s with heap:=h' }:=λaC r' hz h' c' kp e =>
  ⟨.ref s.heap.objs.size,_,I.laid (t':=s.toks) kp (Nat.le_refl _) (show dB X.prog X.w _ h' _ (.lst ys) from⟨hz,aC,c',r',e⟩),rfl,q _ (I.aM.fresh (Nat.le_refl _))⟩
 rcases hq with hq | hq
 ·obtain⟨aC,r',pl,hz⟩:=I.list hq;have hlen:=r'.length;obtain⟨o,ho,hc,n,hd⟩:=pl.isList;exact call_list_seq p (.inl rfl) ho hc hd (λh' c' kp e=>fin aC r' hz h' c' kp e) (by simp only[List.size_toArray] <;> lia)
 ·obtain⟨aC,r',pl,hz⟩:=I.tuple hq;have hlen:=r'.length;obtain⟨o,ho,hc,n,hd⟩:=pl;exact call_list_seq p (.inr rfl) ho hc hd (λh' c' kp e=>fin aC r' hz h' c' kp e) (by simp only[List.size_toArray] <;> lia)
theorem FW:fS X (.type "tuple") (λxs H Q=>∃p ys,xs = [.ref p]/\((aA X.K H p ys/\∀l,H l=none->Q (.ref l) (upd H l (.tup ys)))\/(aL X.K H p ys/\Q (.ref p) H))):=by
 intro pins s σ H xs us Q I r h;obtain⟨p,ys,rfl,h⟩:=h;obtain⟨u,rfl,rx⟩:=vals1 r;cases rx;rcases h with⟨hq,q⟩ | ⟨hq,q⟩
 ·obtain⟨aC,r',pl,hz⟩:=I.list hq;have hlen:=r'.length;refine call_tuple_list pl.isList (λh' kp=>?_) (by simp only[List.size_toArray] <;> lia)
  have I1:Inv X pins σ H { s with heap:=h' }:=I.kept (t':=s.toks) kp;have I2:Inv X pins σ (upd H h'.objs.size (.tup ys)) { s with heap:=h'.push { cls:=.type "tuple",data:=.seq aC.toArray }} :=
   I1.laid (t':=s.toks) (λb o e=>Heap.get?_push_of_some _ e) (Nat.le_refl _) (show dB X.prog X.w _ _ _ (.tup ys) from⟨hz,aC,r',IsTup.new _ _⟩)
  exact⟨.ref h'.objs.size,_,I2,rfl,q _ (I1.aM.fresh (Nat.le_refl _))⟩
 ·obtain⟨aC,r',pl,hz⟩:=I.tuple hq;exact call_tuple_same pl ⟨.ref p,H,I,rfl,q⟩
noncomputable def oO(K:PySem.W.Frag)(T:String)(x:V)(H:Hp):Prop:=match x with
 | .str _=>T = "str"
 | .int _=>T = "int"
 | .ref p=>(T = "list"/\∃xs,aA K H p xs)\/(T = "tuple"/\∃o,K.lookup p=some o/\o.cls = .type "tuple"/\o.dict=none)\/
   (T = "dict"/\((∃az,H p=some (.dK az))\/∃az,H p=some (.dT az)))\/(T = "set"/\∃S n,H p=some (.set S n))
 | _=>False
theorem PB{pins:List (Addr×Obj)}{σ:St}{H:Hp}{s:Shared}{T:String}{x:V}{v:Value}(I:Inv X pins σ H s)(r:RelV x v)(ty:oO X.K T x H) :
  s.TypeIs v T/\∀a,v = .ref a->∃ob,s.heap.get? a=some ob/\ob.dict=none:=by
 cases x with
 | str z =>
  obtain⟨t,rfl⟩:=r;cases (show T = "str" from ty);exact⟨typeIs_str s z t,λ_ e=>nomatch e⟩
 | int i =>
  obtain⟨t,rfl⟩:=r;cases (show T = "int" from ty);exact⟨typeIs_int s i t,λ_ e=>nomatch e⟩
 | ref p =>
  cases r;rcases ty with⟨rfl,xs,hq⟩ | ⟨rfl,o,hk,hc,hd⟩ | ⟨rfl,hk⟩ | ⟨rfl,S,n,hk⟩
  ·obtain⟨aC,_,pl,_⟩:=I.list hq;refine⟨pl.isList.typeIs,λa e=>?_⟩;cases e;obtain⟨o,n,e,c,hd,_⟩:=pl;exact⟨o,e,hd⟩
  ·refine⟨⟨o,I.dJ p o hk,hc⟩,λa e=>?_⟩;cases e;exact⟨o,I.dJ _ o hk,hd⟩
  ·have z:∃o,s.heap.get? p=some o/\o.ExactDict:=by
    rcases hk with⟨az,hk⟩ | ⟨az,hk⟩
    ·obtain⟨_,_,_,_,o,_,_,e,ex,_⟩:=I.aM p _ hk;exact⟨o,e,ex⟩
    ·obtain⟨_,_,_,_,o,_,_,e,ex,_⟩:=I.aM p _ hk;exact⟨o,e,ex⟩
   obtain⟨o,e,ex⟩:=z;refine⟨⟨o,e,ex.1⟩,λa e2=>?_⟩;cases e2;exact⟨o,e,ex.2.1⟩
  ·obtain⟨o,_,_,_,e,ex,_⟩:=I.aM p _ hk;refine⟨⟨o,e,ex.1⟩,λa e2=>?_⟩;cases e2;exact⟨o,e,ex.2.1⟩
 | _=>exact False.elim ty
noncomputable def vK(K:PySem.W.Frag)(T:String)(r:V->List V->Hp->VK->Prop)(to:TE):TE:=λσ H Q=>to σ H λx H1=>oO K T x H1/\r x [] H1 Q
noncomputable def vL(K:PySem.W.Frag)(T:String)(r:V->List V->Hp->VK->Prop)(to:TE)(t:TA):TE:=λσ H Q=>to σ H λx H1=>oO K T x H1/\t σ H1 λxs H2=>r x xs H2 Q
variable{o e:Expr}{es:List Expr}{to:TE}{t:TA}{name:Str}{apos gf:Pos}{T id:String}{r:V->List V->Hp->VK->Prop}
theorem aaN(pa:PlainAttrs T)(slot:Slot T name id)(FY:typeOf (.builtin id)=pure (.type "method_descriptor"))(hm:Px X id r)(ho:PE X o to)
  (FZ:attributeBase o name X.env (eval o X.env)=eval o X.env:=by rfl) (F_:(apos.endLine == gf.line)=true:=by rfl):PE X (.Call (.Attribute o name apos) [] [] gf) (vK X.K T r to):=by
 intro pins s σ H Q I h;refine wpAny_Call_method0_late FZ F_ (aU (ho pins s σ H _ I h) λv s1 ⟨x,H1,I1,r1,zz⟩=>?_);obtain⟨ty,q1⟩:=zz;obtain⟨h1,h2⟩:=PB I1 r1 ty;exact⟨T,id,pa,slot,FY,h1,h2,Calls.callWith_builtin rfl (PySem.evalArgs_none (hm pins s1 σ H1 x [] v [] Q I1 r1 .nil q1))⟩
theorem jG(pa:PlainAttrs T)(slot:Slot T name id)(FY:typeOf (.builtin id)=pure (.type "method_descriptor"))(hm:Px X id r)(ho:PE X o to)(ha:PA X (e::es) t)
  (FZ:attributeBase o name X.env (eval o X.env)=eval o X.env:=by rfl)
  (aaO:((backTo gf (starEach (e::es) X.env)).all (λx => !x.1) && (backToKw gf (keywordEach [] X.env)).all (λx=>x.1.isSome)
   && decide ((e::es).length+([]:List Keyword).length+(if ([]:List Keyword).isEmpty then 0 else 1)<30))=true:=by rfl)
  (F_:(apos.endLine == gf.line)=true:=by rfl) (hs:starEach (e::es) X.env=(false,eval e X.env)::starEach es X.env:=by rfl) (aaP:(backTo gf (starEach es X.env)).any (·.1)=false:=by rfl) :
  PE X (.Call (.Attribute o name apos) (e::es) [] gf) (vL X.K T r to t):=by
 intro pins s σ H Q I h;refine wpAny_Call_method_late FZ aaO F_ rfl (aU (ho pins s σ H _ I h) λv s1 ⟨x,H1,I1,r1,zz⟩=>?_);obtain⟨ty,q1⟩:=zz;obtain⟨h1,h2⟩:=PB I1 r1 ty;refine⟨T,id,pa,slot,FY,h1,h2,?_⟩;have hA:=ha gf pins s1 σ H1 _ I1 q1;rw[hs] at hA ⊢;refine Calls.callWith_builtin (by show (false || (backTo gf (starEach es X.env)).any (·.1))=false;rw[aaP] <;> rfl) (Calls.evalArgs_plain ?_)
 exact aU hA λus s2 ⟨vs,H2,I2,r2,q2⟩=>hm pins s2 σ H2 x vs v us Q I2 r1 r2 q2
end
noncomputable def Ga(X:Cx)(id:String)(r:V->List V->Hp->VK->Prop):Prop :=
 ∀(pins:List (Addr×Obj)) (s:Shared) (σ:St) (H:Hp) (x:V) (xs:List V) (v:Value) (us:List Value) (Q:VK),Inv X pins σ H s->RelV x v->Vals xs us->r x xs H Q->
  wpAny (model X.prog X.w) X.A (call (.builtin id) (v::us)) (EP X pins σ Q) X.xe s
theorem Vals.one:∀ {x:V} {us:List Value},Vals [x] us->∃u,us = [u]/\RelV x u:=by
 intro x us h;cases h with
 | cons r t=>cases t;exact⟨_,rfl,r⟩
theorem Vals.zero:∀ {us:List Value},Vals [] us->us = []
 | _,.nil=>rfl
theorem Vals.dropLast{xs:List V}{us:List Value}(h:Vals xs us):Vals xs.dropLast us.dropLast:=by
 induction h with
 | nil=>exact .nil
 | cons r t ih =>
  cases t with
  | nil=>exact .nil
  | cons q t'=>exact .cons r ih
theorem Vals.reverse{xs:List V}{us:List Value}(h:Vals xs us):Vals xs.reverse us.reverse:=by
 induction h with
 | nil=>exact .nil
 | cons r t ih=>rw[List.reverse_cons,List.reverse_cons];exact Vals.append ih (.cons r .nil)
theorem Vals.rep{xs:List V}{us:List Value}(h:Vals xs us):∀k:Nat,Vals (List.replicate k xs).flatten (List.replicate k us).flatten
 | 0=>.nil
 | k+1=>by
  rw[List.replicate_succ,List.replicate_succ,List.flatten_cons,List.flatten_cons];exact Vals.append h (Vals.rep h k)
theorem aaQ{α:Type}(l:List α):l.eraseIdx (l.length - 1)=l.dropLast:=by
 induction l with
 | nil=>rfl
 | cons a r ih =>
  cases r with
  | nil=>rfl
  | cons b r =>
   have e:(a::b::r).length - 1=((b::r).length - 1)+1:=by
    have h1:(a::b::r).length=r.length+2:=rfl;have h2:(b::r).length=r.length+1:=rfl;lia
   rw[e,List.eraseIdx_cons_succ,ih]
   all_goals rfl
theorem foldl_rep(aC:List Value):∀(k:Nat) (acc:List Value),
  List.foldl (λx1 x2=>x1++x2) acc.toArray (List.replicate k aC.toArray)=(acc++(List.replicate k aC).flatten).toArray
 | 0,acc=>by simp
 | k+1,acc=>by
  have e:acc.toArray++aC.toArray=(acc++aC).toArray:=by simp
  have e2:(acc++aC)++(List.replicate k aC).flatten=acc++(List.replicate (k+1) aC).flatten:=by
   rw[List.replicate_succ,List.flatten_cons,List.append_assoc]
  rw[← e2,← foldl_rep aC k (acc++aC),← e,List.replicate_succ,List.foldl_cons]
section
variable{X:Cx}{pins:List (Addr×Obj)}{σ:St}{H:Hp}{s:Shared}{l b:Addr}{xs ys zs:List V}
theorem Inv.eG{aC its':List Value}{n:Nat}{f:Array Value->Array Value}{t':Nat}(I:Inv X pins σ H s)(hH:H l=some (.lst xs))
  (e:s.heap.get? l=some { cls:=.type "list",data:=.seq aC.toArray n }) (hf:f aC.toArray=its'.toArray) (hv:Vals ys its') (hz:ys.length<=sizeLine) :
  Inv X pins σ (upd H l (.lst ys)) { s with heap:=s.heap.update l (Obj.mapSeq f),toks:=t' }:=by
 have q:=PySem.IsL.update e f;rw[hf] at q;refine I.write (x:=l) (e:=l) (by rw[hH];exact trivial) (.inl rfl) (λb' u hb hu=>(Heap.get?_update_other s.heap (Obj.mapSeq f) (Ne.symm hb)).trans hu) ⟨_,q⟩ ?_
 exact⟨hz,its',_,hv,q⟩
theorem Inv.PD{aC:List Value}{t':Nat}(I:Inv X pins σ H s)(hv:Vals ys aC)(hz:ys.length<=sizeLine) :
  Inv X pins σ (upd H s.heap.objs.size (.lst ys)) { s with heap:=s.heap.push { cls:=.type "list",data:=.seq aC.toArray },toks:=t' } :=
 I.laid (λ_ _ q=>Heap.get?_push_of_some _ q) (Nat.le_refl _) ⟨hz,aC,0,hv,Heap.get?_push_size _ rfl⟩
theorem Inv.fresh(I:Inv X pins σ H s):H s.heap.objs.size=none:=I.aM.fresh (Nat.le_refl _)
theorem Inv.qq(I:Inv X pins σ H s)(hH:H l=some (.lst xs)):xs.length<=sizeLine/\∃(aC:List Value) (n:Nat),Vals xs aC/\xs.length=aC.length/\s.heap.get? l=some { cls:=.type "list",data:=.seq aC.toArray n }:=by
 obtain⟨z,aC,n,r,e⟩:=I.aM l _ hH;exact⟨z,aC,n,r,r.length,e⟩
theorem PF{n:Nat}(h:n<=sizeLine):Builtin.List.listTooLong n=false:=by
 unfold Builtin.List.listTooLong;exact decide_eq_false (by lia)
end
section
variable{X:Cx}
noncomputable def vM:V->List V->Hp->VK->Prop:=λx vs H Q=>∃l xs y,x = .ref l/\vs = [y]/\H l=some (.lst xs)/\xs.length<sizeLine/\Q .aP (upd H l (.lst (xs++[y])))
theorem jH:Ga X "list.append" vM:=by
 intro pins s σ H x vs v us Q I rx rv h;obtain⟨l,xs,y,rfl,rfl,hH,hz,q⟩:=h;cases rx;obtain⟨u,rfl,ru⟩:=rv.one;obtain⟨z,aC,n,r,hl,e⟩:=I.qq hH;refine call_meets F.slot_list_append ⟨_,e,rfl⟩ F.entry_list_append (F.args_list_append_2 _ _) (PySem.list_append l aC.toArray n u (by rw[List.size_toArray];lia)) ⟨e,?_⟩
 refine⟨.aP,_,I.eG (its':=aC++[u]) hH e (by simp) (r.append (.cons ru .nil)) ?_,rfl,q⟩
 rw[List.length_append,List.length_singleton];lia
noncomputable def vN:V->List V->Hp->VK->Prop:=λx vs H Q=>∃l b xs zs,x = .ref l/\vs = [.ref b]/\H l=some (.lst xs)/\H b=some (.lst zs)/\xs.length+zs.length<=sizeLine/\Q .aP (upd H l (.lst (xs++zs)))
theorem aaR:Ga X "list.extend" vN:=by
 intro pins s σ H x vs v us Q I rx rv h;obtain⟨l,b,xs,zs,rfl,rfl,hH,hB,hz,q⟩:=h;cases rx;obtain⟨u,rfl,ru⟩:=rv.one;cases ru;obtain⟨z,aC,n,r,hl,e⟩:=I.qq hH;obtain⟨z2,fB,n2,r2,jr,e2⟩:=I.qq hB;have hsz:aC.toArray.size+fB.toArray.size<=sizeLine:=by rw[List.size_toArray,List.size_toArray];lia
 have Gb:¬ (!aC.toArray.isEmpty && Builtin.List.listTooLong (aC.toArray.size+fB.toArray.size))=true:=by
  rw[PF hsz,Bool.and_false];exact Bool.false_ne_true
 refine call_meets F.slot_list_extend ⟨_,e,rfl⟩ F.entry_list_extend (F.args_list_extend_2 _ _)
  (AutoSeq1.list_extend_list_list_0 l aC.toArray n b fB.toArray n2 Gb (by rw[List.size_toArray];lia) (by lia)) ⟨e,e2,?_⟩
 refine⟨.aP,_,I.eG (its':=aC++fB) hH e (by simp) (r.append r2) ?_,rfl,q⟩
 rw[List.length_append];lia
noncomputable def vO:V->List V->Hp->VK->Prop:=λx vs H Q=>∃l xs y,x = .ref l/\vs = []/\H l=some (.lst xs)/\xs[xs.length - 1]? = some y/\Q y (upd H l (.lst xs.dropLast))
theorem aaS:Ga X "list.pop" vO:=by
 intro pins s σ H x vs v us Q I rx rv h;obtain⟨l,xs,y,rfl,rfl,hH,hy,q⟩:=h;cases rx;have qt:=rv.zero;subst qt;obtain⟨z,aC,n,r,hl,e⟩:=I.qq hH;obtain⟨u,hu,ru⟩:=r.get hy;have sr:aC.toArray[aC.toArray.size - 1]? = some u:=by
  show aC.toArray[aC.length - 1]? = some u;rw[← Array.getElem?_toList,← hl];exact hu
 refine call_meets F.slot_list_pop ⟨_,e,rfl⟩ F.entry_list_pop (F.args_list_pop_1 _) (MeetsSeq.list_pop_last l aC.toArray n u sr (by rw[List.size_toArray];lia)) ⟨e,?_⟩
 refine⟨y,_,I.eG (its':=aC.dropLast) hH e ?_ r.dropLast ?_,ru,q⟩
 ·show aC.toArray.eraseIdxIfInBounds (aC.toArray.size - 1)=aC.dropLast.toArray;rw[List.size_toArray,List.eraseIdxIfInBounds_toArray,aaQ]
 ·rw[List.length_dropLast];lia
noncomputable def zL:V->List V->Hp->VK->Prop:=λx vs H Q=>∃l xs,x = .ref l/\vs = []/\H l=some (.lst xs)/\Q .aP (upd H l (.lst []))
noncomputable def vP:R2:=λx y H Q=>∃l b xs zs,x = .ref l/\y = .ref b/\H l=some (.lst xs)/\H b=some (.lst zs)/\xs.length+zs.length<=sizeLine/\∀p,H p=none->Q (.ref p) (upd H p (.lst (xs++zs)))
theorem su:cu X (binaryOp .Add) vP:=by
 intro pins s σ H x y v u Q I rx ry h;obtain⟨l,b,xs,zs,rfl,rfl,hH,hB,hz,q⟩:=h;cases rx;cases ry;obtain⟨z,aC,n,r,hl,e⟩:=I.qq hH;obtain⟨z2,fB,n2,r2,jr,e2⟩:=I.qq hB;refine PySem.P.add_list e e2 ?_ (by rw[List.size_toArray,List.size_toArray];lia)
 have ea:aC.toArray++fB.toArray=(aC++fB).toArray:=by simp
 rw[ea];exact⟨.ref _,_,I.PD (t':=s.toks) (r.append r2) (by rw[List.length_append];lia),rfl,q _ I.fresh⟩
noncomputable def vQ:R2:=λx y H Q=>∃l k xs,x = .ref l/\y = .int k/\H l=some (.lst xs)/\-(2 ^ 63)<=k/\k<2 ^ 63/\xs.length*k.toNat<=sizeLine/\
 ∀p,H p=none->Q (.ref p) (upd H p (.lst (List.replicate k.toNat xs).flatten))
theorem len_rep{α:Type}(xs:List α)(k:Nat):(List.replicate k xs).flatten.length=k*xs.length:=by
 induction k with
 | zero=>simp
 | succ k ih=>rw[List.replicate_succ,List.flatten_cons,List.length_append,ih,Nat.succ_mul,Nat.add_comm]
theorem PJ:cu X (binaryOp .Mult) vQ:=by
 intro pins s σ H x y v u Q I rx ry h;obtain⟨l,k,xs,rfl,rfl,hH,h1,h2,hz,q⟩:=h;cases rx;obtain⟨t,rfl⟩:=ry;obtain⟨z,aC,n,r,hl,e⟩:=I.qq hH;have hlen:aC.toArray.size*k.toNat<=sizeLine:=by rw[List.size_toArray,← hl];exact hz
 have aaT:¬ aC.toArray.size*k.toNat > (2 ^ 63 - 1) / 8:=by
  have:(sizeLine:Nat)<=(2 ^ 63 - 1) / 8:=by decide
  lia
 have aaU:¬ (!Builtin.List.listFitsIndex k)=true:=by
  rw[fitsIndex_both h1 h2];exact Bool.false_ne_true
 have Gb:¬ Builtin.List.listTooLong (aC.toArray.size*k.toNat)=true:=by
  rw[PF hlen];exact Bool.false_ne_true
 have vR:List.foldl (λx1 x2=>x1++x2) #[] (List.replicate (if aC.toArray.isEmpty=true then 0 else k.toNat) aC.toArray)=(List.replicate k.toNat aC).flatten.toArray:=by
  have f0:∀m:Nat,List.foldl (λx1 x2=>x1++x2) #[] (List.replicate m aC.toArray)=(List.replicate m aC).flatten.toArray:=λm=>by
   have:=foldl_rep aC m [];rw[List.nil_append] at this;exact this
  rw[f0];cases aC with
  | nil=>simp
  | cons a r'=>rw[if_neg (by simp)]
 refine wpAny_binaryOp_repeat_ref (T := "list") (U := "int") (by decide) ⟨_,e,rfl⟩ (λs'=>typeIs_int s' k t) noFill_list_mul F.fills_int_mul F.slot_int_rmul repeat_list F.slot_int_index.lookup
  (call_meets F.slot_int_rmul (typeIs_int s k t) F.entry_int_rmul (F.args_int_rmul_2 _ _) (int___rmul___int_list k t l aC.toArray n)
   ⟨e,rfl,⟨_,e,rfl⟩,call_meets F.slot_list_mul ⟨_,e,rfl⟩ F.entry_list_mul (F.args_list_mul_2 _ _) (AutoListH.list___mul___list_int_3 l aC.toArray n k t aaU aaT Gb) ⟨e,?_⟩⟩)
 rw[vR];exact⟨.ref _,_,I.PD (t':=s.toks) (r.rep k.toNat) (by rw[len_rep,Nat.mul_comm];exact hz),rfl,q _ I.fresh⟩
end
section
variable{prog:Program}{w:World}{A:Around}{E:Value->Shared->Prop}{s:Shared}
end
section
variable{X:Cx}
end
section
variable{κ:Type}[DecidableEq κ]
noncomputable def cM(az:List (κ×V))(k:κ):Option V:=(az.find? λkv=>decide (kv.1=k)).map (·.2)
noncomputable def putK(az:List (κ×V))(k:κ)(v:V):List (κ×V) :=
 if (az.any λkv=>decide (kv.1=k))=true then az.map (λkv=>if kv.1=k then(kv.1,v) else kv) else az++[(k,v)]
theorem jI{p:κ×V}{r:List (κ×V)}{k:κ}(e:p.1=k):cM (p::r) k=some p.2:=by simp[cM,List.find?_cons,e]
theorem jt{p:κ×V}{r:List (κ×V)}{k:κ}(e:¬ p.1=k):cM (p::r) k=cM r k:=by simp[cM,List.find?_cons,e]
theorem sy(k:κ):∀az:List (κ×V),(az.any λkv=>decide (kv.1=k))=(cM az k).isSome
 | []=>rfl
 | p::r=>by
  rw[List.any_cons];by_cases e:p.1=k
  ·simp only[jI e,decide_eq_true e,Bool.true_or,Option.isSome_some]
  ·rw[jt e,decide_eq_false e,Bool.false_or];exact sy k r
theorem PL(k j:κ)(y:V):∀az:List (κ×V),cM (az.map λkv=>if kv.1=k then(kv.1,y) else kv) j=(cM az j).map λx=>if j=k then y else x
 | []=>rfl
 | p::r=>by
  have ih:=PL k j y r;rw[List.map_cons];by_cases h:p.1=k
  ·rw[if_pos h];by_cases e:p.1=j
   ·rw[jI (p:=(p.1,y)) e,jI e,Option.map_some,if_pos (e.symm.trans h)]
   ·rw[jt (p:=(p.1,y)) e,jt e,ih]
  ·rw[if_neg h];by_cases e:p.1=j
   ·rw[jI (p:=p) e,jI e,Option.map_some,if_neg (λz=>h (e.trans z))]
   ·rw[jt (p:=p) e,jt e,ih]
theorem PM(k j:κ)(y:V):∀az:List (κ×V),cM az k=none->cM (az++[(k,y)]) j=if j=k then some y else cM az j
 | [],_=>by
  by_cases e:k=j
  ·rw[if_pos e.symm];exact jI (p:=(k,y)) e
  ·rw[if_neg (λz=>e z.symm)];exact jt (p:=(k,y)) e
 | p::r,hn=>by
  rw[List.cons_append];have hk:¬ p.1=k:=λz=>by rw[jI z] at hn;cases hn
  rw[jt hk] at hn;have ih:=PM k j y r hn;by_cases e:p.1=j
  ·rw[jI e,jI e,if_neg (λz=>hk (e.trans z))]
  ·rw[jt e,jt e,ih]
theorem Gd(az:List (κ×V))(k j:κ)(y:V):cM (putK az k y) j=if j=k then some y else cM az j:=by
 unfold putK;by_cases a:(az.any λkv=>decide (kv.1=k))=true
 ·rw[if_pos a,PL];rw[sy] at a;by_cases e:j=k
  ·obtain⟨x,hx⟩:=Option.isSome_iff_exists.mp a;rw[if_pos e,e,hx,Option.map_some,if_pos rfl]
  ·rw[if_neg e];cases cM az j with
   | none=>rfl
   | some x=>rw[Option.map_some,if_neg e]
 ·rw[if_neg a];refine PM k j y az ?_;rw[sy] at a;cases q:cM az k with
  | none=>rfl
  | some x=>rw[q] at a;exact(a rfl).elim
theorem Ge(az:List (κ×V))(k:κ)(v:V):(putK az k v).length<=az.length+1:=by
 unfold putK;split
 ·rw[List.length_map];lia
 ·rw[List.length_append,List.length_cons,List.length_nil];lia
theorem PN{az:List (κ×V)}{k:κ}(v:V)(h:cM az k=none):putK az k v=az++[(k,v)]:=by
 unfold putK;rw[sy,h];exact if_neg (by decide)
theorem gb.vU{o:Option V}{u:Option Value}(r:gb o u):o.isSome=u.isSome:=by
 cases o with
 | none=>cases u with
  | none=>rfl
  | some _=>exact(show False from r).elim
 | some _=>cases u with
  | none=>exact(show False from r).elim
  | some _=>rfl
theorem gb.getD{o:Option V}{u:Option Value}{d:V}{d':Value}(r:gb o u)(rd:RelV d d'):RelV (o.getD d) (u.getD d'):=by
 cases o with
 | none=>cases u with
  | none=>exact rd
  | some _=>exact(show False from r).elim
 | some _=>cases u with
  | none=>exact(show False from r).elim
  | some _=>exact r
theorem KV.val{az:List (κ×V)}{vs:List (κ×Value)}(r:KV az vs)(k:κ):gb (cM az k) (valueAt vs k):=by
 unfold KV at r
 induction r with
 | nil=>exact True.intro
 | @cons p q ps qs h t ih =>
  obtain⟨h1,h2⟩:=h;by_cases e:p.1=k
  ·have e':q.1=k:=h1.symm.trans e;have b:valueAt (q::qs) k=some q.2:=by simp[valueAt,List.find?_cons,e']
   rw[jI e,b];exact h2
  ·have e':¬ q.1=k:=λz=>e (h1.trans z);have b:valueAt (q::qs) k=valueAt qs k:=by simp[valueAt,List.find?_cons,e']
   rw[jt e,b];exact ih
theorem KV.any{az:List (κ×V)}{vs:List (κ×Value)}(r:KV az vs)(k:κ):(az.any λkv=>decide (kv.1=k))=vs.any λkv=>decide (kv.1=k):=by
 unfold KV at r
 induction r with
 | nil=>rfl
 | cons h t ih=>rw[List.any_cons,List.any_cons,ih,h.1]
theorem KV.Gf{az:List (κ×V)}{vs:List (κ×Value)}(r:KV az vs)(k:κ){y:V}{u:Value}(ry:RelV y u) :
  KV (az.map λkv=>if kv.1=k then(kv.1,y) else kv) (vs.map λkv=>if kv.1=k then(kv.1,u) else kv):=by
 unfold KV at r ⊢
 induction r with
 | nil=>exact .nil
 | @cons p q ps qs h t ih =>
  rw[List.map_cons,List.map_cons];refine .cons ?_ ih;obtain⟨h1,h2⟩:=h;by_cases e:p.1=k
  ·rw[if_pos e,if_pos (h1.symm.trans e)];exact⟨h1,ry⟩
  ·rw[if_neg e,if_neg (λz=>e (h1.trans z))];exact⟨h1,h2⟩
theorem KV.put{az:List (κ×V)}{vs:List (κ×Value)}(r:KV az vs)(k:κ){y:V}{u:Value}(ry:RelV y u):KV (putK az k y) (stored vs k u):=by
 unfold putK stored;rw[r.any k];by_cases e:(vs.any λkv=>decide (kv.1=k))=true
 ·rw[if_pos e,if_pos e];exact r.Gf k ry
 ·rw[if_neg e,if_neg e];exact Paired.snoc r ⟨rfl,ry⟩
theorem KV.length{az:List (κ×V)}{vs:List (κ×Value)}(r:KV az vs):az.length=vs.length:=Paired.length r
end
theorem sD{P:Program}{w:World}{k:Key}{u:Value}(r:RelV (kV k) u):(dI P w).is k u=true:=by
 cases k with
 | inl i=>obtain⟨t,e⟩:=(show ∃t,u=Value.int i t from r);subst e;exact ZJ P w i t
 | inr x=>obtain⟨t,e⟩:=(show ∃t,u=Value.str x t from r);subst e;exact ZK P w x t
theorem PR{P:Program}{w:World}:∀ {ks:List Key} {us:List Value},Vals (ks.map kV) us->ItemsAre (dI P w) ks us
 | [],_,r=>by rw[List.map_nil] at r;cases r;exact .nil
 | k::ks,_,r=>by
  rw[List.map_cons] at r;cases r with
  | cons h t=>exact .cons (sD h) (PR t)
noncomputable abbrev KT(H:Hp):List (List Key×V)->List (List Key×Addr×Value)->Prop:=Paired λp q=>p.1=q.1/\H q.2.1=some (.tup (p.1.map kV))/\RelV p.2 q.2.2
theorem KT.val{H:Hp}{az:List (List Key×V)}{xs:List (List Key×Addr×Value)}(r:KT H az xs)(k:List Key):gb (cM az k) ((atKey xs k).map (·.2)):=by
 induction r with
 | nil=>exact True.intro
 | @cons p q ps qs h t ih =>
  obtain⟨h1,_,h2⟩:=h;by_cases e:p.1=k
  ·have e':q.1=k:=h1.symm.trans e;have b:atKey (q::qs) k=some q.2:=by simp[atKey,List.find?_cons,e']
   rw[jI e,b];exact h2
  ·have e':¬ q.1=k:=λz=>e (h1.trans z);have b:atKey (q::qs) k=atKey qs k:=by simp[atKey,List.find?_cons,e']
   rw[jt e,b];exact ih
theorem KT.Gf{H:Hp}{az:List (List Key×V)}{xs:List (List Key×Addr×Value)}(r:KT H az xs)(k:List Key){y:V}{u:Value}(ry:RelV y u) :
  KT H (az.map λkv=>if kv.1=k then(kv.1,y) else kv) (xs.map (putAt k u)):=by
 induction r with
 | nil=>exact .nil
 | @cons p q ps qs h t ih =>
  rw[List.map_cons,List.map_cons];refine .cons ?_ ih;obtain⟨h1,h2,h3⟩:=h;unfold putAt;by_cases e:p.1=k
  ·rw[if_pos e,if_pos (h1.symm.trans e)];exact⟨h1,h2,ry⟩
  ·rw[if_neg e,if_neg (λz=>e (h1.trans z))];exact⟨h1,h2,h3⟩
theorem KT.put{H:Hp}{az:List (List Key×V)}{xs:List (List Key×Addr×Value)}(r:KT H az xs)(k:List Key){b:Addr}{y:V}{u:Value}(hb:H b=some (.tup (k.map kV)))(ry:RelV y u) :
  KT H (putK az k y) (storedH xs k b u):=by
 have e:(az.any λkv=>decide (kv.1=k))=(atKey xs k).isSome:=by
  rw[sy,(r.val k).vU,Option.isSome_map]
 unfold putK storedH;rw[e];by_cases q:(atKey xs k).isSome=true
 ·rw[if_pos q,if_pos q];exact r.Gf k ry
 ·rw[if_neg q,if_neg q];exact Paired.snoc r ⟨rfl,hb,ry⟩
theorem KT.keeps{H H':Hp}{az:List (List Key×V)}{xs:List (List Key×Addr×Value)}(r:KT H az xs)(ht:∀b ys,H b=some (.tup ys)->H' b=some (.tup ys)):KT H' az xs :=
 Paired.Ot r λ_ _ z=>⟨z.1,ht _ _ z.2.1,z.2.2⟩
section
variable{P:Program}{w:World}{H:Hp}{h:Heap}{a:Addr}
theorem PU{u:HO}(ok:cU P w H h)(e:Rd H a u):dB P w H h a u:=e.ok ok
theorem qu{az:List (Key×V)}(ok:cU P w H h)(e:Rd H a (.dK az)):az.length<=sizeLine/\(a == sysModules)=false/\∃vs,KV az vs/\h.DictOf (dI P w) a vs :=
 show dB P w H h a (.dK az) from PU ok e
theorem aaV{az:List (Key×V)}(ok:cU P w H h)(e:H a=some (.dK az)):az.length<=sizeLine/\(a == sysModules)=false/\∃vs,KV az vs/\h.DictOf (dI P w) a vs:=qu ok (.inl e)
theorem sE{ks:List Key}(ok:cU P w H h)(e:H a=some (.tup (ks.map kV))):(tupleKind (dI P w)).is h ks a:=by
 obtain⟨_,aC,r,o,h1,h2,n,h3⟩:=(show dB P w H h a (.tup (ks.map kV)) from ok a _ e);exact⟨o,aC.toArray,n,h1,h2,h3,by simpa using PR r⟩
theorem qw{az:List (List Key×V)}(ok:cU P w H h)(e:Rd H a (.dT az)):az.length<=sizeLine/\(a == sysModules)=false/\
  ∃xs,KT H az xs/\h.DictOfH (tupleKind (dI P w)) a xs:=by
 obtain⟨z,y,xs,r,o,es,ep,h1,h2,h3,h4,h5⟩:=(show dB P w H h a (.dT az) from PU ok e);refine⟨z,y,xs,r,o,es,ep,h1,h2,h3,h4,λx hx=>?_,h5⟩;have all:∀ {l:List (List Key×V)} {m:List (List Key×Addr×Value)},KT H l m->∀x∈m,(tupleKind (dI P w)).is h x.1 x.2.1:=by
  intro l m q
  induction q with
  | nil=>intro x hx;exact nomatch hx
  | @cons p q ps qs hq t ih =>
   intro x hx;rcases List.mem_cons.mp hx with e | hx
   ·subst e;exact sE ok (by rw[← hq.1];exact hq.2.1)
   ·exact ih x hx
 exact all r x hx
theorem Gg{az:List (List Key×V)}(ok:cU P w H h)(e:H a=some (.dT az)):az.length<=sizeLine/\(a == sysModules)=false/\
  ∃xs,KT H az xs/\h.DictOfH (tupleKind (dI P w)) a xs:=qw ok (.inl e)
end
noncomputable def e7(H:Hp)(a:Addr)(y:V)(r:Option V):Prop :=
 (∃az k,Rd H a (.dK az)/\y=kV k/\r=cM az k)\/∃az k b,Rd H a (.dT az)/\y = .ref b/\H b=some (.tup (k.map kV))/\r=cM az k
noncomputable def jJ(H:Hp)(a:Addr)(y v:V)(H':Hp):Prop :=
 (∃az k,H a=some (.dK az)/\y=kV k/\az.length<sizeLine/\H' = upd H a (.dK (putK az k v)))\/
 ∃az k b,H a=some (.dT az)/\y = .ref b/\H b=some (.tup (k.map kV))/\az.length<sizeLine/\H' = upd H a (.dT (putK az k v))
theorem e7.k{H:Hp}{a:Addr}{az:List (Key×V)}{k:Key}(e:H a=some (.dK az)):e7 H a (kV k) (cM az k):=.inl ⟨az,k,.inl e,rfl,rfl⟩
theorem e7.t{H:Hp}{a b:Addr}{az:List (List Key×V)}{k:List Key}(e:H a=some (.dT az))(eb:H b=some (.tup (k.map kV))):e7 H a (.ref b) (cM az k):=.inr ⟨az,k,b,.inl e,rfl,eb,rfl⟩
theorem jJ.k{H:Hp}{a:Addr}{az:List (Key×V)}{k:Key}{v:V}(e:H a=some (.dK az))(hl:az.length<sizeLine):jJ H a (kV k) v (upd H a (.dK (putK az k v))):=.inl ⟨az,k,e,rfl,hl,rfl⟩
theorem jJ.t{H:Hp}{a b:Addr}{az:List (List Key×V)}{k:List Key}{v:V}(e:H a=some (.dT az))(eb:H b=some (.tup (k.map kV)))(hl:az.length<sizeLine) :
  jJ H a (.ref b) v (upd H a (.dT (putK az k v))):=.inr ⟨az,k,b,e,rfl,eb,hl,rfl⟩
section
variable{X:Cx}{pins:List (Addr×Obj)}{σ:St}{H:Hp}{s:Shared}{a:Addr}{y v:V}{u r:Value}{o:Option V}{A:Around}{E:Value->Shared->Prop}
theorem Inv.big(I:Inv X pins σ H s):sysModules<s.heap.objs.size:=by
 have h:mainGlobals<s.heap.objs.size:=(I.mod.glob.keeps I.bk).lt;exact Nat.lt_trans (by decide) h
theorem aaW{Q:Value->Shared->Prop}(hu:A.units+1<cLine)(I:Inv X pins σ H s)(g:e7 H a y (some v))(ry:RelV y u)(h:∀w' s',Inv X pins σ H s'->RelV v w'->Q w' s') :
  wpAny (model X.prog X.w) A (getItem (.ref a) u) Q E s:=by
 rcases g with⟨az,k,e,ey,l⟩ | ⟨az,k,b,e,ey,eb,l⟩
 ·subst ey;obtain⟨z,hd,vs,rel,dd⟩:=qu I.aM e;obtain⟨w',hw,kG⟩:=gb.some_of (v:=v) (o:=valueAt vs k) (by rw[l];exact rel.val k)
  exact wpAny_getItem_of (sD ry) dd.mapOf hw (h w' _ (I.tok _) kG)
 ·subst ey;cases (show u=Value.ref b from ry);obtain⟨z,hd,xs,rel,dd⟩:=qw I.aM e;obtain⟨w',hw,kG⟩:=gb.some_of (v:=v) (o:=(atKey xs k).map (·.2)) (by rw[l];exact rel.val k)
  obtain⟨p,hp,fU⟩:=Option.map_eq_some_iff.mp hw;refine wpAny_getItem_heap (tupleKind_room_in1 hu) (sE I.aM eb) dd hp ?_;rw[fU];exact h w' _ (I.tok _) kG
theorem aaX{Q:Value->Shared->Prop}(hu:A.units+1<cLine)(I:Inv X pins σ H s)(g:e7 H a y o)(ry:RelV y u)(h:∀s',Inv X pins σ H s'->Q (.bool o.isSome) s') :
  wpAny (model X.prog X.w) A (compareOp .In u (.ref a)) Q E s:=by
 rcases g with⟨az,k,e,ey,l⟩ | ⟨az,k,b,e,ey,eb,l⟩
 ·subst ey;obtain⟨z,hd,vs,rel,dd⟩:=qu I.aM e;refine wpAny_in_of (sD ry) hd dd.mapOf ?_;rw[← (rel.val k).vU,← l];exact h _ (I.tok _)
 ·subst ey;cases (show u=Value.ref b from ry);obtain⟨z,hd,xs,rel,dd⟩:=qw I.aM e;refine wpAny_in_heap (tupleKind_room_in1 hu) (sE I.aM eb) hd dd ?_;have q:=(rel.val k).vU;rw[Option.isSome_map] at q;rw[← q,← l];exact h _ (I.tok _)
theorem aaY{Q:Value->Shared->Prop}(hu:A.units+1<cLine)(I:Inv X pins σ H s)(g:e7 H a y o)(ry:RelV y u)(h:∀s',Inv X pins σ H s'->Q (.bool (!o.isSome)) s') :
  wpAny (model X.prog X.w) A (compareOp .NotIn u (.ref a)) Q E s:=by
 rcases g with⟨az,k,e,ey,l⟩ | ⟨az,k,b,e,ey,eb,l⟩
 ·subst ey;obtain⟨z,hd,vs,rel,dd⟩:=qu I.aM e;refine wpAny_notIn_of (sD ry) hd dd.mapOf ?_;rw[← (rel.val k).vU,← l];exact h _ (I.tok _)
 ·subst ey;cases (show u=Value.ref b from ry);obtain⟨z,hd,xs,rel,dd⟩:=qw I.aM e;refine wpAny_notIn_heap (tupleKind_room_in1 hu) (sE I.aM eb) hd dd ?_;have q:=(rel.val k).vU;rw[Option.isSome_map] at q;rw[← q,← l];exact h _ (I.tok _)
theorem PV{h':Heap}{t':Nat}{ob:HO}(I:Inv X pins σ H s)(mu:uF (H a))(hs:Heap.SameBut a s.heap h')(he:∃q,h'.get? a=some q)(new:dB X.prog X.w (upd H a ob) h' a ob) :
  Inv X pins σ (upd H a ob) { s with heap:=h',toks:=t' } :=
 I.write (x:=a) (e:=a) mu (.inl rfl) (λb q hb z=>(hs.2 b hb).trans z) he new
theorem aaZ{P:Program}{w:World}{H':Hp}{h':Heap}{az:List (Key×V)}{vs:List (Key×Value)}(z:az.length<=sizeLine)(hd:(a == sysModules)=false)(rel:KV az vs)(dd:h'.DictOf (dI P w) a vs) :
  dB P w H' h' a (.dK az):=⟨z,hd,vs,rel,dd⟩
theorem aa0{H':Hp}{Q:Unit->Shared->Prop}(hu:A.units+1<cLine)(I:Inv X pins σ H s)(g:jJ H a y v H')(ry:RelV y u)(rv:RelV v r)(h:∀s',Inv X pins σ H' s'->Q () s') :
  wpAny (model X.prog X.w) A (setItem (.ref a) u r) Q E s:=by
 rcases g with⟨az,k,e,ey,l,eH⟩ | ⟨az,k,b,e,ey,eb,l,eH⟩
 ·subst ey eH;obtain⟨z,hd,vs,rel,dd⟩:=aaV I.aM e;have hz:vs.length<=sizeLine:=by rw[← rel.length];exact z
  have hl:(putK az k v).length<=sizeLine:=by have:=Ge az k v;lia
  refine wpAny_setItem_pairs (hsz:=hz) (sD ry) dd λh' sF hs=>h _ ?_;have he:∃q,h'.get? a=some q:=let ⟨q,_,_,hq,_⟩:=sF;⟨q,hq⟩
  exact PV I (by rw[e];exact True.intro) hs he (aaZ hl hd (rel.put k rv) sF)
 ·subst ey eH;cases (show u=Value.ref b from ry);obtain⟨z,hd,xs,rel,dd⟩:=Gg I.aM e;have hz:xs.length<=sizeLine:=by rw[← Paired.length rel];exact z
  have hl:(putK az k v).length<=sizeLine:=by have:=Ge az k v;lia
  refine wpAny_setItem_heap (hsz:=hz) (tupleKind_room_in1 hu) (sE I.aM eb) dd λh' sF hs=>h _ ?_;obtain⟨q,es,ep,hq,h2,h3,h4,_,h5⟩:=sF;refine PV I (by rw[e];exact True.intro) hs ⟨q,hq⟩ ⟨hl,hd,_,(rel.put k eb rv).keeps λc ys ec=>?_,q,es,ep,hq,h2,h3,h4,h5⟩
  rw[aI (gQ ec e (λz=>nomatch z))];exact ec
end
section
variable{X:Cx}{pins:List (Addr×Obj)}{σ:St}{H:Hp}{s:Shared}{a:Addr}{az:List (Key×V)}{k:Key}{u:Value}{A:Around}{E:Value->Shared->Prop}
end
noncomputable def PX(i:Expr):Prop:=∀ov iv,subscripted i false ov iv=operate [ov,iv] (getItem ov iv)
theorem aa1{prog:Program}{w:World}{A:Around}{E:Value->Shared->Prop}{s:Shared}{env:Env}{value slice:Expr}{pos:Pos}{T id:String}{Q:Value->Shared->Prop}
  (hl:typeLookup (.type T) "__getitem__" = pure (some (.builtin id))) (hs:PX slice)
  (h:wpAny (model prog w) A (eval value env) (λo aZ=>wpAny (model prog w) A (eval slice env) (λi jg=>jg.TypeIs o T/\wpAny (model prog w) A (getItem o i) Q E jg) E aZ) E s) :
  wpAny (model prog w) A (eval (.Subscript value slice pos) env) Q E s:=by
 refine Subscript_ (wpAny_mono h (λo aZ lU=>wpAny_mono lU (λi jg vV=>?_) λ_ _ x=>x) λ_ _ x=>x);obtain⟨hT,vV⟩:=vV;unfold subscriptTail;refine wpAny_bind ?_;rw[getitemInPython_of_ne hT.not_modules];refine wpAny_bind (wpAny_specialOf hT hl ?_);have fin:wpAny (model prog w) A (subscripted slice false o i) (λr jK=>wpAny (model prog w) A (letTemporaryGo value o r >>= λ_=>pure r) Q E jK) E jg:=by
  rw[hs o i];exact wpAny_operating (wpAny_mono vV (λr jK zM=>wpAny_bind (wpAny_letTemporaryGo (wpAny_pure zM))) λ_ _ x=>x)
 first
  | exact wpAny_pure (wpAny_bind fin)
  | exact wpAny_bind (wpAny_pure (wpAny_bind fin))
  | exact wpAny_bind fin
theorem aa2{X:Cx}{pins:List (Addr×Obj)}{σ:St}{H:Hp}{s:Shared}{a:Addr}{y:V}{o:Option V}(I:Inv X pins σ H s)(g:e7 H a y o):s.TypeIs (.ref a) "dict" := by
 rcases g with⟨az,k,e,_,_⟩ | ⟨az,k,b,e,_,_,_⟩
 ·obtain⟨_,_,vs,_,dd⟩:=qu I.aM e;exact dd.typeIs
 ·obtain⟨_,_,xs,_,dd⟩:=qw I.aM e;exact dd.typeIs
noncomputable def vW(td ty:TE):TE:=λσ H Q=>td σ H λx H1=>ty σ H1 λy H2=>∃a v,x = .ref a/\e7 H2 a y (some v)/\Q v H2
noncomputable def vX(ty td:TE):TE:=λσ H Q=>ty σ H λy H1=>td σ H1 λx H2=>∃a o,x = .ref a/\e7 H2 a y o/\Q (.bl o.isSome) H2
noncomputable def vY(ty td:TE):TE:=λσ H Q=>ty σ H λy H1=>td σ H1 λx H2=>∃a o,x = .ref a/\e7 H2 a y o/\Q (.bl (!o.isSome)) H2
noncomputable def vZ(td ty tv:TE):TS:=λD σ H=>tv σ H λv H1=>td σ H1 λx H2=>ty σ H2 λy H3=>∃a H4,x = .ref a/\jJ H3 a y v H4/\D.nx σ H4
section
variable{X:Cx}{o i e value:Expr}{pos pos' aai:Pos}{td ty tv:TE}
theorem aa3(hu:X.A.units+1<cLine)(ho:PE X o td)(hi:PE X i ty)(hs:PX i):PE X (.Subscript o i pos) (vW td ty):=by
 intro pins s σ H Q I h;refine aa1 PySem.F.slot_dict_getitem.lookup hs (aU (ho pins s σ H _ I h) λu s1 ⟨x,H1,I1,rx,q1⟩=>aU (hi pins s1 σ H1 _ I1 q1) λiv s2 ⟨y,H2,I2,ry,zz⟩=>?_);obtain⟨a,v,ex,g,q2⟩:=zz;subst ex;obtain rfl:u=Value.ref a:=rx;exact⟨aa2 I2 g,aaW hu I2 g ry λw' s3 I3 kG=>⟨v,H2,I3,kG,q2⟩⟩
theorem PY(hu:X.A.units+1<cLine)(hi:PE X i ty)(ho:PE X o td):PC X .In i o (vX ty td):=by
 intro pins s σ H Q I h;refine aU (hi pins s σ H _ I h) λiv s1 ⟨y,H1,I1,ry,q1⟩=>aU (ho pins s1 σ H1 _ I1 q1) λu s2 ⟨x,H2,I2,rx,zz⟩=>?_;obtain⟨a,ov,ex,g,q2⟩:=zz;subst ex;obtain rfl:u=Value.ref a:=rx;exact aaX hu I2 g ry λs3 I3=>⟨.bl ov.isSome,H2,I3,rfl,q2⟩
theorem aa4(hu:X.A.units+1<cLine)(hi:PE X i ty)(ho:PE X o td):PC X .NotIn i o (vY ty td):=by
 intro pins s σ H Q I h;refine aU (hi pins s σ H _ I h) λiv s1 ⟨y,H1,I1,ry,q1⟩=>aU (ho pins s1 σ H1 _ I1 q1) λu s2 ⟨x,H2,I2,rx,zz⟩=>?_;obtain⟨a,ov,ex,g,q2⟩:=zz;subst ex;obtain rfl:u=Value.ref a:=rx;exact aaY hu I2 g ry λs3 I3=>⟨.bl (!ov.isSome),H2,I3,rfl,q2⟩
theorem v_(hu:X.A.units+1<cLine)(ho:PE X o td)(hi:PE X i ty)(hv:PE X value tv)(hs:swapsWith value (some (.Subscript o i pos')) pos.line X.env=pure false) :
  PS X (.Assign [.Subscript o i pos'] value pos) (vZ td ty tv):=by
 intro pins s σ H D I h;refine wpAny_Assign_Subscript (aU (hv pins s σ H _ I h) λr s1 ⟨v,H1,I1,rv,q1⟩=>aU (ho pins s1 σ H1 _ I1 q1) λu s2 ⟨x,H2,I2,rx,q2⟩=>aU (hi pins s2 σ H2 _ I2 q2) λiv s3 ⟨y,H3,I3,ry,zz⟩=>?_) hs;obtain⟨a,H4,ex,g,q3⟩:=zz;subst ex;obtain rfl:u=Value.ref a:=rx;exact aa0 hu I3 g ry rv λs4 I4=>⟨σ,H4,I4,q3⟩
end
theorem aa5{P:Program}{w:World}{H:Hp}(h:Heap)(hb:sysModules<h.objs.size):dB P w H (h.push { cls:=.type "dict",data:=.dict #[] }) h.objs.size (.dK []) :=
 ⟨Nat.zero_le _,beq_eq_false_iff_ne.mpr (Ne.symm (Nat.ne_of_lt hb)),[],.nil,Heap.DictOf.new h⟩
theorem aa6{P:Program}{w:World}{H:Hp}(h:Heap)(hb:sysModules<h.objs.size):dB P w H (h.push { cls:=.type "dict",data:=.dict #[] }) h.objs.size (.dT []) :=
 ⟨Nat.zero_le _,beq_eq_false_iff_ne.mpr (Ne.symm (Nat.ne_of_lt hb)),[],.nil,_,#[],0,Heap.get?_push_size _ rfl,⟨rfl,rfl,rfl⟩,rfl,rfl,List.nodup_nil⟩
noncomputable def we:TE:=λ_ H Q=>∀p,H p=none->Q (.ref p) (upd H p (.dK []))
noncomputable def wg:TE:=λ_ H Q=>∀p,H p=none->Q (.ref p) (upd H p (.dT []))
section
variable{X:Cx}{pos:Pos}
theorem aa7:PE X (.Dict [] [] pos) we:=λpins s σ H Q I h =>
 wpAny_Dict_empty ⟨.ref s.heap.objs.size,_,I.laid (a:=s.heap.objs.size) (o:=.dK []) (t':=s.toks) (λ_ _ q=>Heap.get?_push_of_some _ q) (Nat.le_refl _) (aa5 s.heap I.big),rfl,h _ (I.aM.fresh (Nat.le_refl _))⟩
theorem Gh:PE X (.Dict [] [] pos) wg:=λpins s σ H Q I h =>
 wpAny_Dict_empty ⟨.ref s.heap.objs.size,_,I.laid (a:=s.heap.objs.size) (o:=.dT []) (t':=s.toks) (λ_ _ q=>Heap.get?_push_of_some _ q) (Nat.le_refl _) (aa6 s.heap I.big),rfl,h _ (I.aM.fresh (Nat.le_refl _))⟩
end
structure M1(X:Cx)(o:Expr)(m:Str)(apos:Pos)(e:Expr)(gf:Pos):Prop where
 base:attributeBase o m X.env (eval o X.env)=eval o X.env
 zN:((backTo gf (starEach [e] X.env)).all (λx => !x.1) && (backToKw gf (keywordEach [] X.env)).all (λx=>x.1.isSome)
  && decide (([e]:List Expr).length+([]:List Keyword).length+(if ([]:List Keyword).isEmpty then 0 else 1)<30))=true
 line:(apos.endLine == gf.line)=true
 trees:backTo gf (starEach [e] X.env) = [(false,eval e X.env)]
noncomputable def Gi(H:Hp)(a:Addr):Prop:=(∃az,Rd H a (.dK az))\/∃az,Rd H a (.dT az)
theorem aa8{X:Cx}{pins:List (Addr×Obj)}{σ:St}{H:Hp}{s:Shared}{a:Addr}(I:Inv X pins σ H s)(d:Gi H a) :
  s.TypeIs (.ref a) "dict"/\(∀b,Value.ref a = .ref b->∃ob,s.heap.get? b=some ob/\ob.dict=none)/\(a == sysModules)=false:=by
 rcases d with⟨az,e⟩ | ⟨az,e⟩
 ·obtain⟨_,hd,vs,_,dd⟩:=qu I.aM e;refine⟨dd.typeIs,λb q=>?_,hd⟩;cases q;obtain⟨ob,_,_,h1,h2,_⟩:=dd;exact⟨ob,h1,h2.2.1⟩
 ·obtain⟨_,hd,xs,_,dd⟩:=qw I.aM e;refine⟨dd.typeIs,λb q=>?_,hd⟩;cases q;obtain⟨ob,_,_,h1,h2,_⟩:=dd;exact⟨ob,h1,h2.2.1⟩
section
variable{X:Cx}{pins:List (Addr×Obj)}{σ:St}{H:Hp}{s:Shared}{a:Addr}{y d:V}{u r:Value}{o:Option V}{A:Around}{E:Value->Shared->Prop}
theorem aa9{Q:Value->Shared->Prop}(hu:A.units+1<cLine)(I:Inv X pins σ H s)(g:e7 H a y o)(ry:RelV y u)(h:∀w' s',Inv X pins σ H s'->RelV (o.getD .aP) w'->Q w' s') :
  wpAny (model X.prog X.w) A (call (.builtin "dict.get") [.ref a,u]) Q E s:=by
 rcases g with⟨az,k,e,ey,l⟩ | ⟨az,k,b,e,ey,eb,l⟩
 ·subst ey;obtain⟨z,hd,vs,rel,dd⟩:=qu I.aM e;refine call_meetsIn PySem.F.slot_dict_get dd.typeIs PySem.F.entry_dict_get (PySem.F.args_dict_get_2 _ _) (meets_dict_get (dI X.prog X.w) a (sD ry) hd) ⟨_,dd.mapOf,h _ _ (I.tok _) ?_⟩;rw[l];exact(rel.val k).getD rfl
 ·subst ey;cases (show u=Value.ref b from ry);obtain⟨z,hd,xs,rel,dd⟩:=qw I.aM e;refine call_meetsIn PySem.F.slot_dict_get dd.typeIs PySem.F.entry_dict_get (PySem.F.args_dict_get_2 _ _) (meetsH_dict_get (tupleKind (dI X.prog X.w)) a b hd) ⟨tupleKind_room_in1 hu,k,xs,sE I.aM eb,dd,h _ _ (I.tok _) ?_⟩;rw[l];exact(rel.val k).getD rfl
end
noncomputable def wj(td ty:TE):TE:=λσ H Q=>td σ H λx H1=>∃a,x = .ref a/\Gi H1 a/\ty σ H1 λy H2=>∃o,e7 H2 a y o/\Q (o.getD .aP) H2
section
variable{X:Cx}{o e f:Expr}{apos gf:Pos}{td ty tx:TE}
theorem aa_(hu:X.A.units+1<cLine)(ho:PE X o td)(he:PE X e ty)(m:M1 X o "get" apos e gf):PE X (.Call (.Attribute o "get" apos) [e] [] gf) (wj td ty):=by
 intro pins s σ H Q I h;refine wpAny_Call_method m.base m.zN m.line PySem.F.plainAttrs_dict PySem.F.slot_dict_get PySem.F.type_dict_get (aU (ho pins s σ H _ I h) λu s1 ⟨x,H1,I1,rx,zz⟩=>?_);obtain⟨a,ex,d,q1⟩:=zz;subst ex;obtain rfl:u=Value.ref a:=rx;obtain⟨t1,t2,_⟩:=aa8 I1 d;refine⟨t1,t2,?_⟩;rw[m.trees];refine Calls.callWith_builtin rfl (Calls.evalArgs_plain (Calls.spliced_cons (aU (he pins s1 σ H1 _ I1 q1) λiv s2 ⟨y,H2,I2,ry,zz⟩=>Calls.spliced_nil ?_)));obtain⟨ov,g,q2⟩:=zz;exact aa9 hu I2 g ry λw' s3 I3 kG=>⟨_,H2,I3,kG,q2⟩
end
section
variable{X:Cx}{pins:List (Addr×Obj)}{σ:St}{H:Hp}{s:Shared}{a:Addr}{az:List (Key×V)}{A:Around}{E:Value->Shared->Prop}
end
section
variable{X:Cx}{pins:List (Addr×Obj)}{σ:St}{H:Hp}{s:Shared}{a:Addr}{y:V}{u:Value}{A:Around}{E:Value->Shared->Prop}
end
end _L
namespace Gj
open PySem PySem.W PySem.Calls PyProof.Rows
theorem aba{P:Params}{h:Heap}:∀(ns:List Int) (vs:List Value),WellAll P h vs (ns.map WData.int)->IntsAre vs ns:=by
 intro ns
 induction ns with
 | nil =>
  intro vs w;rw[List.map_nil] at w;cases w;exact .nil
 | cons n ns ih =>
  intro vs w;rw[List.map_cons] at w;cases w with
  | cons a b =>
   cases a;exact .cons _ _ (ih _ b)
theorem abb{l:OpenLaw}{n:Nat}(hn:l.most=some n){P:Params}{h:Heap}{args:List WData}{vals:List Value}
  (zO:l.row.toRowW.claim.pre args=true) (Gk:WellAll P h vals args) :
  ∃a vs ns,vals = [Value.ref a]/\args = [WData.list (ns.map WData.int)]/\h.get? a=some { cls:=.type "list",data:=.seq vs.toArray }/\IntsAre vs ns/\ns.length<=n:=by
 have hsh:WShape.hasAll [] args [.list .int] = true:=(pre_splitW zO).1;have hc:l.pre.holds [] { args:=args }=true:=(pre_splitW zO).2;obtain⟨d,r,rfl,h1,h2⟩:=hasAllW_cons hsh;obtain rfl:=hasAllW_nil h2;obtain⟨xs,rfl,h3⟩:=hasW_list h1;obtain⟨ns,rfl⟩:=items_int h3;have hlen:ns.length<=n:=by
  unfold OpenLaw.pre at hc;have h4:(WTm.not (.lt (.lit (.int (n:Int))) (.len (.arg 0)))).holds [] { args:=[.list (ns.map .int)] }=true:=by
   have h4:=(holds_andW hc).1;rw[hn] at h4;exact h4
  have h5:=condW_of h4 (w_not (w_lt w_lit (w_len_list (w_arg rfl))));rw[List.length_map] at h5;refine Nat.le_of_not_lt λq=>?_
  have q':(n:Int)<((ns.length:Nat):Int):=by lia
  first
   | (rw[decide_eq_true q'] at h5;exact absurd h5 (by decide))
   | (simp at h5;lia)
 cases Gk with
 | cons w1 w2 =>
  cases w2;cases w1 with
  | list ho abd=>exact⟨_,_,ns,rfl,rfl,ho,aba ns _ abd,hlen⟩
theorem abe(l:OpenLaw)(args:List WData):l.row.toRowW.claim.post args (.bool true) args=true :=
 postW_of (r:=l.row.toRowW) (X:=(true == true))
  (show WShape.has [] (.bool true) .bool=true by first | rfl | decide | simp[WShape.has,WShape.arms,WShape.armsAll])
  (show (WTm.eq .res (.lit (.bool true))).value [] { args:=args,res:=some (.bool true),after:=args }=some (.bool (true == true)) from w_eq_bool (w_res rfl) w_lit) rfl
theorem PZ{l:OpenLaw}{n:Nat}{q:Program}{loose:List Str}{XP:(Str->Option Value)->Heap->Prop}{YP:World->Heap->Prop}{d:DefRec}
  (hn:l.most=some n) (qx:d.params.defaults = [])
  (call:∀(w:World) (dw aZ:Shared) (mg mb:Str->Option Value) (fa:Addr) (o:Obj) (pm cd doc:Value) (a:Addr) (vs:List Value) (ns:List Int),
   Ground q loose [] XP w dw mg mb aZ.heap->YP w aZ.heap->
   aZ.heap.get? fa=some o->o.data = .func (docDef d.name d.params d.body d.scope pm cd doc)->aZ.heap.CodeRec cd d.name->mg d.name=some (.ref fa)->
   aZ.heap.get? a=some { cls:=.type "list",data:=.seq vs.toArray }->IntsAre vs ns->ns.length<=n->aZ.gens = #[]->
   codeAny (model l.prog w) callerA (.call (.ref fa) ⟨[.ref a],[]⟩) (λr s'=>r = .ok (.ret (.bool true))/\OldK aZ.heap s'.heap/\s'.os=aZ.os/\AllBare s'.gens) aZ) :
  WalkO q loose XP YP l.row.toRowW d [] (λf vs=>PySem.call f vs):=by
 intro w dw aZ mg mb G Y fa o pm cd doc dV kV ho hd eS hD hmg hg args vals as zO aj_ hrd Gk hlo;obtain rfl:dV = .none:=Dflts.none hD qx;obtain rfl:kV = .none:=Dflts.noKw hD;obtain⟨a,vs,ns,rfl,rfl,wk,hints,hlen⟩:=abb hn zO Gk;refine enter_call (codeAny_mono (call w dw aZ mg mb fa o pm cd doc a vs ns G Y ho (fd_plain hd) eS hmg wk hints hlen hg) λr s' hq=>?_);obtain⟨rfl,h2,h3,h4⟩:=hq;exact⟨.inl ⟨.bool true,.bool true,[],rfl,λ_=>rfl,.bool true,abe l _,λ_=>⟨List.Pairwise.nil,λ_ hm=>(nomatch hm)⟩⟩,h2,h3,h4⟩
section
variable{prog:Program}{w:World}{A:Around}{E:Value->Shared->Prop}{s:Shared}{K:Frag}
noncomputable def ledger(h:Heap)(L d:Addr):List (Addr×Obj):=(List.range h.objs.size).filterMap λa=>if a=L\/a=d then none else(h.get? a).map λo=>(a,o)
end
end Gj
namespace _L
open PySem PySem.Spec PyProof.Rows
theorem wm:∀ {vs:List Value} {ns:List Int},IntsAre vs ns->Vals (ns.map V.int) vs
 | _,_,.nil=>.nil
 | _,_,.cons n t h=>.cons ⟨t,rfl⟩ (wm h)
noncomputable def Gm(H:Hp):Prop:=∀b,H b=none\/∃o xs,H b=some (.gP o (.lst xs))
theorem abf{P:Program}{w:World}{K:PySem.W.Frag}{mg mb:Str->Option Value}{CX:gS}{k:Nat}{fa a:Addr}{fd:FuncData}{x:Str}{sp:Sp}{aZ:Shared}{vs:List Value}{ns:List Int}
  (KX:K.In aZ.heap) (kH:aZ.heap.Ns mainGlobals mg) (hb:aZ.heap.Ns builtinsNs mb) (Gn:∀x:Str,x≠"__name__"->mb x=bootBuiltins x) (Gp:aZ.heap.NoLimit) (hg:aZ.gens = #[])
  (ha:aZ.heap.get? a=some { cls:=.type "list",data:=.seq vs.toArray }) (hi:IntsAre vs ns) (hl:ns.length<=sizeLine) (hr:cX k callerA)
  (F:∀base:Heap,K.In base->base.Ns mainGlobals mg->aX P w K mg base CX k fa fd [x] sp) (jL:∀(s:Shared) (u:Value),BindsTo s fd ⟨[u],[]⟩ [(x,u)])
  (cY:∀H:Hp,Gm H->aA K H a (ns.map V.int)->sp [.ref a] H (λv _=>v = .bl true) λ_ _ _=>False)
  (Gq:∀H e s',CX [] H aZ (λ_ _ _=>False) e s'->False) :
  codeAny (model P w) callerA (.call (.ref fa) ⟨[.ref a],[]⟩) (λr s'=>r = .ok (.ret (.bool true))/\OldK aZ.heap s'.heap/\s'.os=aZ.os/\AllBare s'.gens) aZ:=by
 have rv:=wm hi;have Gr:=hi.length
 -- from an abstract heap in which nothing but the script may be tracked
 have core:∀H:Hp,Gm H->aA K H a (ns.map V.int)->cU P w H aZ.heap->(∀b,H b≠none->b=a)->(H a≠none->K.lookup a=none)->
   codeAny (model P w) callerA (.call (.ref fa) ⟨[.ref a],[]⟩) (λr s'=>r = .ok (.ret (.bool true))/\OldK aZ.heap s'.heap/\s'.os=aZ.os/\AllBare s'.gens) aZ:=by
  intro H hO hS aM hA hK;have qy:∀ {b:Addr} {o:Obj},aZ.heap.get? b=some o->H b=none->(ig aZ.heap H).get? b=some o:=λe n=>OA e n;have vv:∀ {b:Addr} {o:Obj} {es:Array DictEntry} {ep:Nat},aZ.heap.get? b=some o->o.data = .dict es ep->H b=none:=λ{b o es ep} e d=>by
   cases q:H b with
   | none=>rfl
   | some u =>
    have e':b=a:=hA b (by rw[q];simp)
    subst e';rw[ha] at e;cases e;have d':Data.seq vs.toArray _=Data.dict es ep:=d;cases d'
  have mX:∀ {b:Addr} {m:Str->Option Value},aZ.heap.Ns b m->(ig aZ.heap H).Ns b m:=λ{b m} ⟨o,es,ep,e,d,r⟩=>⟨o,es,ep,qy e (vv e d),d,r⟩;have wu:K.In (ig aZ.heap H):=λb o e=>qy (KX b o e) (by
   cases q:H b with
   | none=>rfl
   | some u =>
    have e':b=a:=hA b (by rw[q];simp)
    subst e';rw[hK (by rw[q];simp)] at e;cases e)
  have hM:Mod K mg (ig aZ.heap H):=⟨wu,mX kH,⟨mb,mX hb,Gn⟩,let ⟨mc,h1,h2⟩:=Gp;⟨mc,mX h1,h2⟩⟩
  have e0:oK P w K mg (ig aZ.heap H) callerA [] aZ H:=⟨rfl,hM,λb o e=>OB e,Nat.le_of_eq (Oz _ _),trivial,λb hb=>absurd (show b∈([]:List Addr) from hb) (by simp),aM,.of_eq hg⟩
  refine codeAny_mono ((F _ wu (mX kH)).run callerA [] aZ H ⟨[.ref a],[]⟩ [.ref a] [.ref a] _ _ hr e0 (jL aZ (.ref a)) (.cons rfl .nil) (cY H hO hS)) λr s' h=>?_;cases r with
  | error e=>exact(Gq H e s' h).elim
  | ok fl =>
   cases fl with
   | next=>exact False.elim h
   | brk=>exact False.elim h
   | cont=>exact False.elim h
   | ret u =>
    obtain⟨v,H',os,bare,un,zP,r',q⟩:=h;have q':v = .bl true:=q;subst q';obtain rfl:u=Value.bool true:=r';refine⟨rfl,OldK.of_keep λb o e=>?_,os,bare⟩;cases q:H b with
    | none=>exact un.keep b o e q (by intro z;exact absurd (show b∈([]:List Addr) from z) (by simp)) (by simp)
    | some u =>
     rcases hO b with z | ⟨ob,xs,z⟩
     ·rw[q] at z;cases z
     ·have z2:=un.lI b ob _ z;obtain⟨e1,_⟩:=aM b _ z;obtain⟨e2,_⟩:=zP b _ z2;rw[e] at e1;cases e1;exact e2
 cases hk:K.lookup a with
 | some o =>
  -- the script is one of the module's own objects
  have e:=KX a o hk;rw[ha] at e;cases e;refine core (λ_=>none) (λ_=>.inl rfl) (.inr ⟨_,vs.toArray,_,hk,rfl,rfl,rfl,by rw[List.size_toArray,Gr];exact hl,by simpa using rv⟩) (λb u z=>by have z':(none:Option HO)=some u:=z;cases z') (λb z=>absurd rfl z) λz=>absurd rfl z
 | none =>
  refine core (λb=>if b=a then some (.gP { cls:=.type "list",data:=.seq vs.toArray } (.lst (ns.map V.int))) else none) (λb=>?_) (.inl (.inr ⟨{ cls:=.type "list",data:=.seq vs.toArray },if_pos rfl⟩)) (λb u z=>?_) (λb z=>?_) λ_=>hk
  ·by_cases hb:b=a
   ·exact .inr ⟨_,_,if_pos hb⟩
   ·exact .inl (if_neg hb)
  ·by_cases hb:b=a
   ·have z':=(if_pos hb).symm.trans z;cases z';subst hb;exact⟨ha,by rw[List.length_map];exact hl,vs,_,rv,ha⟩
   ·have z':=(if_neg hb).symm.trans z;cases z'
  ·by_cases hb:b=a
   ·exact hb
   ·exact absurd (if_neg hb) z
noncomputable abbrev KOf{K:PySem.W.Frag}{h:Heap}(_:K.In h):PySem.W.Frag:=K
theorem aka{l:PySem.W.OpenLaw}{n k:Nat}{q:Program}{loose:List Str}{XP:(Str->Option Value)->Heap->Prop}{YP:World->Heap->Prop}{d:DefRec}{K:Params->PySem.W.Frag}{CX:World->gS}{sp:World->Sp}{x:Str}
  (hn:l.most=some n) (rQ:n<=sizeLine) (qx:d.params.defaults = []) (hr:cX k callerA)
  (hY:∀(w:World) (h:Heap),YP w h->(K w.params).In h)
  (F:∀(w:World) (mg:Str->Option Value) (fa:Addr) (h:Heap),(K w.params).In h->h.Ns mainGlobals mg->mg d.name=some (.ref fa)->
   ∃fd:FuncData,(∀(s:Shared) (u:Value),BindsTo s fd ⟨[u],[]⟩ [(x,u)])/\
    ∀base:Heap,(K w.params).In base->base.Ns mainGlobals mg->aX l.prog w (K w.params) mg base (CX w) k fa fd [x] (sp w))
  (cY:∀(w:World) (H:Hp) (a:Addr) (ns:List Int),ns.length<=n->Gm H->aA (K w.params) H a (ns.map V.int)->sp w [.ref a] H (λv _=>v = .bl true) λ_ _ _=>False)
  (Gq:∀(w:World) (H:Hp) (s:Shared) (e:Value) (s':Shared),CX w [] H s (λ_ _ _=>False) e s'->False) :
  PySem.W.WalkO q loose XP YP l.row.toRowW d [] (λf vs=>PySem.call f vs):=by
 refine Gj.PZ hn qx λw dw aZ mg mb fa o pm cd doc a vs ns G Y ho hd eS hmg wk hints hlen hg=>?_;have KX:=hY w _ Y;obtain⟨fd,hb,hF⟩:=F w mg fa _ KX G.T.g hmg;exact abf KX G.T.g G.T.b G.T.builtins G.T.nolimit hg wk hints (Nat.le_trans hlen rQ) hr hF hb (λH hO hS=>cY w H a ns hlen hO hS) λH e s'=>Gq w H aZ e s'
noncomputable def inClass(s:Stmt)(j:Nat):Stmt:=match s with
 | .ClassDef _ _ _ body _ _ _ _ _ _ _=>body.getD j (.Pass ⟨0,0,0,0⟩)
 | _=>.Pass ⟨0,0,0,0⟩
noncomputable def fV(s:Stmt):Arguments:=match s with
 | .FunctionDef _ a _ _ _ _ _ _ _ _=>a
 | _=>{ posonlyargs:=[],args:=[],vararg:=none,kwonlyargs:=[],kw_defaults:=[],kwarg:=none,defaults:=[] }
noncomputable def eU(s:Stmt):List Stmt:=match s with
 | .FunctionDef _ _ b _ _ _ _ _ _ _=>b
 | _=>[]
noncomputable def aR(s:Stmt):Scope:=match s with
 | .FunctionDef _ _ _ _ _ _ sc _ _ _=>sc
 | _=>{ kind:=.function,names:=[],isGenerator:=false,isCoroutine:=false }
noncomputable abbrev br:gS:=λ_ _ _ _ _ _=>False
noncomputable abbrev E0:XK:=λ_ _ _=>False
theorem aN{X:Cx}:Passes br X E0:=λ_ _ _ _ _ _ _ h=>h.elim
structure aJ(K:PySem.W.Frag)(x qual:Str)(st:Stmt)(f:Addr)(fd:FuncData):Prop where
 ex:∃(oc:Value) (od:Option Addr) (kV doc pm:Value) (an:Option Addr) (aO ct:Value) (iy:Array (Option Value)),
  fd=PySem.W.fnOf x qual (fV st) (eU st) (aR st) .none kV doc pm an aO ct/\K.lookup f=some ⟨oc,od,.func fd,iy⟩/\PySem.W.codeIn K aO qual=true
 kp:PySem.W.keepIn K (.ref f)=true
section
variable{P:Program}{w:World}{K:PySem.W.Frag}{mg:Str->Option Value}{base:Heap}
theorem aJ.ok{x qual:Str}{st:Stmt}{f:Addr}{fd:FuncData}{N ps:List Str}{k:Nat}{sp:Sp}(F:aJ K x qual st f fd)(S:bA N ps (aR st))(len:∀vs H Q E,sp vs H Q E->vs.length=ps.length)
  (qm:∀(aO:Value) (A:Around) (outer:List Env) (s:Shared) (H:Hp) (vs:List V) (Q:VK) (E:XK),cX k (A.deeper (envOfC qual (aR st) s.heap.objs.size f aO))->sp vs H Q E->
   ∃t,fQ (mT br P w K mg base N qual (aR st) f aO A outer s H E).oA (eU st) t/\t { nx:=λ_ H'=>Q .aP H',rt:=Q } (start N vs) H):aX P w K mg base br (k+1) f fd ps sp:=by
 obtain⟨oc,od,kV,doc,pm,an,aO,ct,iy,rfl,lk,eS⟩:=F.ex;refine FN lk eS S len λA outer s H vs Q E hr cY=>?_;obtain⟨t,h,q⟩:=qm aO A outer s H vs Q E hr cY;exact⟨t,h.oA,q⟩
theorem aJ.binds{x qual:Str}{st:Stmt}{f:Addr}{fd:FuncData}{ps:List Str}(F:aJ K x qual st f fd)
  (h:∀(kV doc pm:Value) (an:Option Addr) (aO ct:Value) (us:List Value),us.length=ps.length->bindArgs (PySem.W.fnOf x qual (fV st) (eU st) (aR st) .none kV doc pm an aO ct) ⟨us,[]⟩=pure (ps.zip us)):Binds K fd ps []:=by
 obtain⟨oc,od,kV,doc,pm,an,aO,ct,iy,rfl,lk,eS⟩:=F.ex;exact .all (h kV doc pm an aO ct)
theorem fun_mk{x qual:Str}{st:Stmt}{f:Addr}{oc:Value}{od an:Option Addr}{iy:Array (Option Value)}{kV doc pm aO ct:Value}(l:K.lookup f=some ⟨oc,od,.func (PySem.W.fnOf x qual (fV st) (eU st) (aR st) .none kV doc pm an aO ct),iy⟩)
  (c:PySem.W.codeIn K aO qual=true) (k:PySem.W.keepIn K (.ref f)=true):aJ K x qual st f (PySem.W.fnOf x qual (fV st) (eU st) (aR st) .none kV doc pm an aO ct):=⟨⟨oc,od,kV,doc,pm,an,aO,ct,iy,rfl,l,c⟩,k⟩
end
theorem mY{A:Around}{k:Nat}(hr:cX k A):A.units+1<cLine:=Nat.lt_of_le_of_lt (Nat.add_le_add_left (by decide:1<=64) _) hr.units
theorem fD{n:Nat}(h:n<=1000):n<sizeLine:=Nat.lt_of_le_of_lt h (by decide)
section
variable{X:Cx}
theorem pv(i:Nat){x:Str}{pos:Pos}(hN:X.N[i]? = some x:=by rfl)(hv:zb X.env.scope x:=by first | exact Or.inl rfl | exact Or.inr (Or.inl rfl) | exact Or.inr (Or.inr rfl))(hd:(x == ("__debug__" : Str))=false:=by decide)
  (eS:(x == ("__classdict__" : Str))=false:=by decide):PE X (.Name x pos) (rH i):=ON hN hv hd eS
end
theorem bW{c A B:Prop}[Decidable c](h1:c->A)(h2:¬ c->B):if c then A else B:=by
 by_cases h:c
 ·rw[if_pos h];exact h1 h
 ·rw[if_neg h];exact h2 h
noncomputable def aj(H H':Hp):Prop:=∀b o,H b=some o->H' b=some o
theorem aj.refl(H:Hp):aj H H:=λ_ _ h=>h
theorem aj.trans{H H1 H2:Hp}(a:aj H H1)(b:aj H1 H2):aj H H2:=λc o h=>b c o (a c o h)
theorem aj.free{H H':Hp}(e:aj H H'){l:Addr}(h:H' l=Option.none):H l=Option.none:=by
 cases q:H l with
 | none=>rfl
 | some o =>
  rw[e l o q] at h;cases h
theorem aj.seq{K:PySem.W.Frag}{H H':Hp}{a:Addr}{xs:List V}(e:aj H H')(h:aA K H a xs):aA K H' a xs:=by
 rcases h with(h | ⟨o,h⟩) | h
 ·exact .inl (.inl (e _ _ h))
 ·exact .inl (.inr ⟨o,e _ _ h⟩)
 ·exact .inr h
section
variable{κ:Type}[DecidableEq κ]
end
end _L
set_option maxHeartbeats 4000000
namespace _L
open PySem PySem.Spec PyProof.Rows
section
variable{prog:Program}{w:World}{A:Around}{R:Result->Shared->Prop}{s:Shared}
theorem abg{elt target iter:Expr}{ifs:List Expr}{scope:Scope}{pos:Pos}{it acc:Value}{env:Env}(I:Nat->Shared->Prop)
  (turn:∀n s,I n s->wpAny (model prog w) A (pyNext it) (λr aZ=>match r with
   | none=>R (.ok .next) aZ
   | some v=>wpAny (model prog w) A (letOwnedTupleGo target it v) (λ_ P0=>wpAny (model prog w) A (assign target env v) (λ_ jg =>
     wpAny (model prog w) A (forIn ifs true λc r=>if r=true then do let ok ← isTrue c env (eval c env);pure (ForInStep.yield ok) else pure (ForInStep.yield r)) (λok jK =>
      if ok=true then wpAny (model prog w) A (eval elt env) (λx zQ =>
       wpAny (model prog w) A (call (.builtin "list.append") [acc,x]) (λ_ P1=>∃m,m<n/\I m P1) (λ_ _=>False) zQ) (λ_ _=>False) jK
      else ∃m,m<n/\I m jK) (λ_ _=>False) jg) (λ_ _=>False) P0) (λ_ _=>False) aZ) (λ_ _=>False) s)
  (n:Nat) (h:I n s):codeAny (model prog w) A (.compLoop (.ListComp elt [⟨target,iter,ifs,0⟩] scope pos) 0 it acc env) R s:=by
 refine codeAny_loop rfl I (λn s hI=>?_) n h
 show wpAny _ A ((compTurn (.ListComp elt [⟨target,iter,ifs,0⟩] scope pos) 0 it acc env).onRaise (λx=>do noteFrame x env;theTreesLotGoes x)) _ _ s
 refine wpAny_noted ?_;rw[compTurn_list];refine wpAny_bind (wpAny_standAt (wpAny_bind (wpAny_mono (turn n s hI) (λr aZ lU=>?_) λ_ _ h'=>h'.elim)));cases r with
 | none=>exact wpAny_pure lU
 | some v =>
  refine wpAny_bind (wpAny_mono lU (λ_ P0 abh=>?_) λ_ _ h'=>h'.elim);refine wpAny_bind (wpAny_mono abh (λ_ jg vV=>wpAny_bind (wpAny_mono vV (λok jK zM=>?_) λ_ _ h'=>h'.elim)) λ_ _ h'=>h'.elim);cases ok with
  | false=>exact wpAny_pure ⟨rfl,zM⟩
  | true =>
   exact wpAny_bind (wpAny_bind (wpAny_mono zM (λx zQ abi=>wpAny_bind (wpAny_mono abi (λ_ P1 abj=>wpAny_pure (wpAny_pure ⟨rfl,abj⟩)) λ_ _ h'=>h'.elim)) λ_ _ h'=>h'.elim))
end
theorem zR{env:Env}:∀ {names:List (Str×NameKind)} {x:Str} {k:NameKind},
  (names.map λ(n,k)=>if (k == NameKind.free && env.scope.kind == .function && env.kindOf n == some .cell) then(n,NameKind.cell) else(n,k)).lookup x=some k->
  ∃k0,names.lookup x=some k0/\(k=k0\/(k0 = .free/\k = .cell))
 | [],_,_,h=>by simp at h
 | (n,k0)::r,x,k,h=>by
  have ih:=@zR env r x k;have h:List.lookup x ((if (k0 == NameKind.free && env.scope.kind == .function && env.kindOf n == some .cell)=true then(n,NameKind.cell) else(n,k0))::_)=_:=h
  cases hx:x == n with
  | true =>
   by_cases hc:(k0 == NameKind.free && env.scope.kind == .function && env.kindOf n == some .cell)=true
   ·rw[if_pos hc] at h;simp only[List.lookup_cons,hx,Option.some.injEq] at h;simp only[Bool.and_eq_true,beq_iff_eq] at hc;exact⟨k0,by simp[List.lookup_cons,hx],.inr ⟨hc.1.1,h.symm⟩⟩
   ·rw[if_neg hc] at h;simp only[List.lookup_cons,hx,Option.some.injEq] at h;exact⟨k0,by simp[List.lookup_cons,hx],.inl h.symm⟩
  | false =>
   have h':List.lookup x (r.map λ(n,k)=>if (k == NameKind.free && env.scope.kind == .function && env.kindOf n == some .cell) then(n,NameKind.cell) else(n,k))=some k:=by
    by_cases hc:(k0 == NameKind.free && env.scope.kind == .function && env.kindOf n == some .cell)=true
    ·rw[if_pos hc] at h;simpa only[List.lookup_cons,hx] using h
    ·rw[if_neg hc] at h;simpa only[List.lookup_cons,hx] using h
   obtain⟨q,e,z⟩:=ih h';exact⟨q,by simp only[List.lookup_cons,hx];exact e,z⟩
theorem mZ{α:Type}{x:Str}{v:α}:∀ {l:List (Str×α)},l.lookup x=some v->(x,v)∈l:=λh=>PySem.mem_of_lookup h
section
variable{X:Cx}{pins:List (Addr×Obj)}{σ:St}{H:Hp}{s:Shared}{scope:Scope}{cl:List (Str×Addr)}{N:List Str}{nt:Nat}{fv:List Nat}{fp:List Addr}
noncomputable def iB(σ:St)(nt:Nat)(fv:List Nat):St:=List.replicate nt none++fv.map λj=>(σ[j]?).getD none
end
noncomputable def sG(X:Cx)(ifs:List Expr)(t:TT):Prop :=
 ∀(pins:List (Addr×Obj)) (s:Shared) (σ:St) (H:Hp) (Q:Bool->Hp->Prop),Inv X pins σ H s->t σ H Q->
  wpAny (model X.prog X.w) X.A (forIn ifs true λc r=>if r=true then do let ok ← isTrue c X.env (eval c X.env);pure (ForInStep.yield ok) else pure (ForInStep.yield r)) (TP X pins σ Q) X.xe s
noncomputable def wz:TT:=λ_ H Q=>Q true H
theorem iT{X:Cx}:sG X [] wz:=λpins s σ H Q I h=>wpAny_tests_nil ⟨H,I,h⟩
theorem lV{X:Cx}{c:Expr}{t:TT}(hc:PT X c t):sG X [c] t:=λpins s σ H Q I h=>wpAny_tests_one (hc pins s σ H Q I h)
noncomputable def kI(wi:TI)(g:TG)(tt:TT)(te:TE)(nt:Nat)(fv:List Nat):TE:=λσ H Q=>wi σ H λJ H1=>∀D,H1 D=none->∃W:Nat->Nat->List V->St->Hp->Prop,
 (∃m,W 0 m [] (iB σ nt fv) (upd H1 D (.lst [])))/\∀i m ys aB H2,W i m ys aB H2->H2 D=some (.lst ys)/\ys.length<sizeLine/\
  ((J.stop i H2/\Q (.ref D) H2)\/(J.go i H2/\∀x H3,J.mQ i H2 x H3->g x aB H3 λcy H4=>tt cy H4 λb H5=>if b=true then te cy H5 λv H6=>H6 D=some (.lst ys)/\∃m',m' < m/\W (i+1) m' (ys++[v]) cy (upd H6 D (.lst (ys++[v])))
   else ∃m',m' < m/\W (i+1) m' ys cy H5))
section
variable{X:Cx}{tg iter elt:Expr}{ifs:List Expr}{scope:Scope}{cl:List (Str×Addr)}{N:List Str}{nt:Nat}{fv:List Nat}{pos:Pos}{wi:TI}{g:TG}{tt:TT}{te:TE}
end
noncomputable def wA(K:PySem.W.Frag)(a:Addr):It :=
 ⟨λi H=>∃xs x,aA K H a xs/\xs[i]? = some x,λi H v H'=>∃T x,H T=none/\v = .ref T/\(∀xs,aA K H a xs->xs[i]? = some x)/\H' = upd H T (.tup [.int i,x]),λi H=>∃xs,aA K H a xs/\xs.length<=i⟩
theorem abk{P:Program}{w:World}{K:PySem.W.Frag}{elts:List Expr}{x1}{tp:Pos}(a e it:Addr)(Gs:e≠it) :
  Turn P w K (.Tuple elts x1 tp) (wA K a) [e,it] e (λi h=>(∃old,IsEnum h e it (i:Nat) old)/\h.IsListIter it a i) where
 mem:=by simp
 obj:=λi h st b hb=>by
  obtain⟨⟨old,he⟩,o,e1,c,d⟩:=st;rcases List.mem_cons.mp hb with z | hb
  ·rw[z];exact⟨_,he,λv z=>by
    have z':Data.fields _=Data.cell v:=z;cases z'⟩
  ·have e2:b=it:=by simpa using hb
   rw[e2];exact⟨o,e1,λv z=>by rw[d] at z;cases z⟩
 keep:=λi h h' st k=>by
  obtain⟨⟨old,he⟩,hi⟩:=st;exact⟨⟨old,k e (by simp) _ he⟩,hi.at λo q=>k it (by simp) o q⟩
 item:=by
  intro X hP hw hK hc i pins s σ H E I hf st hg;subst hP hw hK;obtain⟨xs,x,hq,hx⟩:=hg;obtain⟨aC,rv,p,hz⟩:=I.list hq;obtain⟨u,hu,ru⟩:=rv.get hx;obtain⟨⟨old,he⟩,hit⟩:=st;obtain⟨f0,f1,f2,f3,f4,f5⟩:=hf e (by simp)
  obtain⟨g0,g1,g2,g3,g4,g5⟩:=hf it (by simp)
  have P4:e<s.heap.objs.size:=Heap.lt_size he;have abl:it<s.heap.objs.size:=by obtain⟨_,z,_⟩:=hit;exact Heap.lt_size z
  refine wpAny_pyNext_enum_item he hit p.isList (x:=u) (by simpa using hu) Gs λh' ho qz hT hsz hk=>?_
  refine⟨_,rfl,?_⟩;refine wpAny_letOwnedTupleGo_enum ho λsH zS gG=>?_
  replace gG:Heap.SameBut e h' sH:=gG
  -- two records have turned,a tuple is new
  have I1:Inv X pins σ H { s with heap:=(s.heap),toks:=s.toks+1 }:=I.tok _;have kk:∀b o,b∉[e,it]->s.heap.get? b=some o->sH.get? b=some o:=λb o hb q=>by
   have h1:b≠e:=λz=>hb (by simp[z])
   have h2:b≠it:=λz=>hb (by simp[z])
   exact gG.extBut b o h1 (hk b o h1 h2 q)
  have uL:∀b v,H b=some v->b∉[e,it]:=λb v q hb=>by
   rcases List.mem_cons.mp hb with z | hb
   ·rw[z,f0] at q;cases q
   ·have e2:b=it:=by simpa using hb
    rw[e2,g0] at q;cases q
  have P5:H s.heap.objs.size=none:=I.aM.fresh (Nat.le_refl _);have wB:∀b v,H b=some v->b≠s.heap.objs.size:=λb v q z=>by rw[z,P5] at q;cases q
  have abm:sH.get? s.heap.objs.size=some { cls:=.type "tuple",data:=.seq #[.int (i:Nat) s.toks,u] }:=gG.extBut _ _ (Nat.ne_of_gt P4) hT;have akb:∃o,sH.get? e=some o:=⟨_,zS⟩;have akc:∃o,sH.get? it=some o:=by
   obtain⟨o,q,_⟩:=qz;exact⟨o,gG.extBut _ _ (Ne.symm Gs) q⟩
  have I2:Inv X pins σ (upd H s.heap.objs.size (.tup [.int i,x])) { s with heap:=sH,toks:=s.toks+1 }:=by
   refine I.step (g':=s.gens) (d':=s.drawn) (ch:=[e,it]) (λb hb=>?_) (λb o _ _ hc q _=>kk b o hc q) (λb o _ _ hc q _=>⟨o.slots,kk b o hc q⟩) (λb o _ q n=>?_) (λb o hc q=>⟨o,kk b o hc q⟩)
    (λb ys q=>by rw[aI (wB b _ q)];exact q) (λb o v q=>by rw[aI (wB b _ q)];exact q) (λb ps q=>⟨#[],by rw[aI (wB b _ q),q];simp⟩) (λm hm=>?_) (λb v q=>?_) I.bare
   ·rcases List.mem_cons.mp hb with z | hb
    ·rw[z];exact⟨f3,f1,f4,f5⟩
    ·have e2:b=it:=by simpa using hb
     rw[e2];exact⟨g3,g1,g4,g5⟩
   ·rw[aI (Nat.ne_of_lt (Heap.lt_size q))];exact n
   ·obtain⟨o,es,ep,q,r⟩:=hm;exact⟨o,es,ep,kk _ o (by
     intro hb;rcases List.mem_cons.mp hb with z | hb
     ·exact f1 z.symm
     ·exact g1 (by simpa using hb:X.env.locals=it).symm) q,r⟩
   ·by_cases hb:b=s.heap.objs.size
    ·subst hb;rw[aD] at q;cases q;refine⟨by show 2<=sizeLine;decide,[.int (i:Nat) s.toks,u],.cons ⟨_,rfl⟩ (.cons ru .nil),_,abm,rfl,_,rfl⟩
    ·rw[aI hb] at q;refine(I.aM b v q).kh (λc o ze z=>kk c o ?_ z) (λc z=>by rw[aI (wB c _ z)];exact z) (λc ys z=>by rw[aI (wB c _ z)];exact z)
     rcases ze with z2 | z2
     ·rw[z2];exact uL b v q
     ·exact uL c _ z2
  refine⟨.ref s.heap.objs.size,_,I2,rfl,⟨_,x,P5,rfl,λys hy=>by rw[I.OP hy hq];exact hx,rfl⟩,⟨⟨u,?_⟩,?_⟩,λb hb=>?_⟩
  ·have z:((i+1:Nat):Int)=(i:Int)+1:=by lia
   rw[z];exact zS
  ·exact qz.at λo q=>gG.extBut _ _ (Ne.symm Gs) q
  ·have cj:b<s.heap.objs.size:=by
    rcases List.mem_cons.mp hb with z | hb
    ·rw[z];exact P4
    ·rw[show b=it by simpa using hb];exact abl
   rw[aI (Nat.ne_of_lt cj)];exact(hf b hb).1
 done:=by
  intro X hP hw hK hc i pins s σ H E I hf st hg;subst hP hw hK;obtain⟨xs,hq,hx⟩:=hg;obtain⟨aC,rv,p,hz⟩:=I.list hq;obtain⟨⟨old,he⟩,hit⟩:=st;obtain⟨g0,g1,g2,g3,g4,g5⟩:=hf it (by simp)
  have hl:=rv.length;exact wpAny_pyNext_enum_end (I.ok.hd hc) he hit p.isList (by simp;lia) λh' eb=>⟨rfl,I.turned (t':=s.toks) (λb o hb e=>eb b o hb e) g0 g1 g3 g4 g5⟩
 self:=λ_ _ _ _ _ st h=>by
  obtain⟨⟨old,he⟩,_⟩:=st;exact wpAny_pyIter_enum he h
section
variable{X:Cx}
noncomputable def zT(K:PySem.W.Frag)(ta:TA):TI:=λσ H R=>ta σ H λvs H1=>∃a,vs = [.ref a]/\(∃xs,aA K H1 a xs)/\R (wA K a) H1
theorem Gu{l:Expr}{ta:TA}{p pos tp:Pos}{elts:List Expr}{x1}(hg:Gl X "enumerate")(hm:X.mg "enumerate" = none)(hl:PA X [l] ta)(hs:starEach [l] X.env = [(false,eval l X.env)]:=by rfl) :
  PI X (.Tuple elts x1 tp) (.Call (.Name "enumerate" p) [l] [] pos) (zT X.K ta):=by
 intro pins s σ H R I h;refine Call_ (ou I hg hm boot_enumerate (PyProof.Rows.callWith_type1 (aU (hl pos pins s σ H _ I h) λus s1 ⟨vs,H1,I1,r1,q1⟩=>?_) hs rfl));obtain⟨a,e,⟨xs,hq⟩,q⟩:=q1;subst e;obtain⟨u,rfl,ru⟩:=vals1 r1;cases ru;obtain⟨aC,rv,p,hz⟩:=I1.list hq;refine call_enumerate_list p.isList λh' he hit hsz hk=>?_;have I2:Inv X pins σ H1 { s1 with heap:=h' }:=I1.kept (t':=s1.toks) hk;refine wpAny_pyIter_enum he ?_;have n1:H1 (s1.heap.objs.size+1)=none:=I1.aM.fresh (Nat.le_succ _);have n0:H1 s1.heap.objs.size=none:=I1.aM.fresh (Nat.le_refl _);refine⟨s1.heap.objs.size+1,[s1.heap.objs.size+1,s1.heap.objs.size],_,_,H1,rfl,I2,abk a _ _ (Nat.succ_ne_self _),⟨⟨_,he⟩,hit⟩,λb hb=>?_,q⟩;rcases List.mem_cons.mp hb with z | hb
 ·rw[z];exact I1.qb (Nat.le_succ _) n1
 ·rw[show b=s1.heap.objs.size by simpa using hb];exact I1.qb (Nat.le_refl _) n0
theorem abn{K:PySem.W.Frag}{a:Addr}{xs:List V}{g:TG}{tb:TS}{D:Ends}{σ:St}{H:Hp}(Pv:Nat->St->Hp->Prop)(h0:Pv 0 σ H)(hl:∀i σ H,i<=xs.length->Pv i σ H->aA K H a xs)
  (hs:∀i x σ H T,xs[i]? = some x->Pv i σ H->H T=none->g (.ref T) σ (upd H T (.tup [.int i,x])) λaB H2=>tb { D with nx:=Pv (i+1),ct:=Pv (i+1),bk:=D.nx } aB H2) (hd:∀σ H,Pv xs.length σ H->D.nx σ H) :
  ∃W:Nat->Nat->St->Hp->Prop,(∃m,W 0 m σ H)/\∀i m σ H,W i m σ H->
   ((wA K a).stop i H/\D.nx σ H)\/((wA K a).go i H/\∃N:St->Hp->Prop,(∀bE H',N bE H'->∃m',m' < m/\W (i+1) m' bE H')/\∀x H',(wA K a).mQ i H x H'->g x σ H' λaB H2=>tb { D with nx:=N,ct:=N,bk:=D.nx } aB H2):=by
 refine⟨λi m σ H=>m=xs.length - i/\i<=xs.length/\Pv i σ H,⟨xs.length,by simp,Nat.zero_le _,h0⟩,?_⟩
 rintro i m σ H ⟨rfl,hi,p⟩;have q:=hl i σ H hi p;by_cases cj:i<xs.length
 ·refine .inr ⟨⟨xs,xs[i],q,by simp[cj]⟩,Pv (i+1),λbE H' p'=>⟨xs.length - (i+1),by lia,rfl,cj,p'⟩,λx H' y=>?_⟩
  obtain⟨T,z,hT,e,y,e2⟩:=y;subst e e2;exact hs i z σ H T (y xs q) p hT
 ·have e:i=xs.length:=by lia
  subst e;exact .inl ⟨⟨xs,q,Nat.le_refl _⟩,hd σ H p⟩
theorem Gv(hc:X.calm=true):fS X (.builtin "sum") (λxs H Q=>∃(p:Addr) (ns:List Int),xs = [.ref p]/\aA X.K H p (ns.map V.int)/\Q (.int ns.sum) H):=by
 intro pins s σ H xs us Q I r h;obtain⟨p,ns,rfl,hq,q⟩:=h;obtain⟨u,rfl,ru⟩:=vals1 r;cases ru;obtain⟨aC,rv,pl,hz⟩:=I.list hq;have hi:IntsAre aC ns:=intsAre_of rv;obtain⟨xs,hx⟩:=hi.allInts.items;have zW:s.heap.IsList p (intItems xs):=hx▸pl.isList;refine sum_intListG (I.ok.hd hc) zW λh' tk t' hk=>?_;have e1:ns=xs.toList.map (·.1):=by
  rw[← nums_intItems,← hx];exact(show numsOf aC.toArray.toList=ns from hi.numsOf).symm
 have e2:preSum (numAt xs) xs.size=ns.sum:=by
  rw[preSum_eq,List.take_of_length_le (by simp),e1]
 rw[e2];exact⟨.int ns.sum,H,I.kept hk,⟨t',rfl⟩,q⟩
theorem abo:fS X (.builtin "sorted") (λxs H Q=>∃(p:Addr) (ns:List Int),xs = [.ref p]/\aA X.K H p (ns.map V.int)/\ns.length<64/\
  ∀(l:Addr) (fT:List Int),H l=none->fT.Perm ns->fT.Pairwise (·<=·)->Q (.ref l) (upd H l (.lst (fT.map V.int)))):=by
 intro pins s σ H xs us Q I r h;obtain⟨p,ns,rfl,hq,ju,q⟩:=h;obtain⟨u,rfl,ru⟩:=vals1 r;cases ru;obtain⟨aC,rv,pl,hz⟩:=I.list hq;have hi:IntsAre aC ns:=intsAre_of rv;have hlen:=hi.length;refine sorted_ints pl.isList hi (by lia) λout fT a1 a2 a3=>?_
 obtain⟨e,he⟩:=sortedAll_at s.heap aC out;have hn:H (s.heap.objs.size+1)=none:=I.aM.fresh (Nat.le_succ _);refine⟨.ref (s.heap.objs.size+1),upd H (s.heap.objs.size+1) (.lst (fT.map V.int)),I.laid (t':=s.toks) (λb o q=>sortedAll_old q) (Nat.le_succ _) ?_,rfl,q _ fT hn a2 a3⟩;refine⟨?_,out.toList,e,wm a1,by simpa using he⟩
 rw[List.length_map,a2.length_eq];exact Nat.le_trans (Nat.le_of_lt ju) (by decide)
theorem Gw(hc:X.calm=true):fS X (.builtin "min") (λxs H Q=>∃(p:Addr) (ns:List Int),xs = [.ref p]/\aA X.K H p (ns.map V.int)/\0<ns.length/\∀M,M∈ns->(∀a,a∈ns->M<=a)->Q (.int M) H):=by
 intro pins s σ H xs us Q I r h;obtain⟨p,ns,rfl,hq,h0,q⟩:=h;obtain⟨u,rfl,ru⟩:=vals1 r;cases ru;obtain⟨aC,rv,pl,hz⟩:=I.list hq;have hi:IntsAre aC ns:=intsAre_of rv;obtain⟨m,F⟩:=I.fr;refine min_list_N (I.ok.hd hc) F (y9 (h:=s.heap)) pl.isList hi h0 λh' M t tk F' N' h1 h2=>?_;have kk:∀b o,b≠X.env.locals->s.heap.get? b=some o->h'.get? b=some o:=λb o hb e=>by
  cases q:X.base.get? b with
  | some z =>
   have:=F.keep b z q;rw[e] at this;cases this;exact F'.keep b _ q
  | none=>exact(N' (b,o) (Fg hb q e)).1
 have nl:∀b v,H b=some v->b≠X.env.locals:=λb v e z=>by rw[z,I.free] at e;cases e
 have I':Inv X pins σ H { s with heap:=h',toks:=tk }:=by
  refine I.step (g':=s.gens) (d':=s.drawn) (ch:=[]) (λ_ z=>nomatch z) (λb o hb _ _ e _=>kk b o hb e) (λb o hb _ _ e _=>⟨o.slots,kk b o hb e⟩) (λ_ _ _ _ n=>n) (λb o _ e=>?_) (λ_ _ e=>e) (λ_ _ _ e=>e)
   (λb ps e=>⟨#[],by rw[e];simp⟩) (λm' hm=>?_) (λb v e=>(I.aM b v e).kh (λc o hc e'=>kk c o ?_ e') (λ_ e=>e) (λ_ _ e=>e)) I.bare
  ·by_cases hb:b=X.env.locals
   ·obtain⟨o',_,_,z,_⟩:=F'.ns;exact⟨o',by rw[hb];exact z⟩
   ·exact⟨o,kk b o hb e⟩
  ·have:m' = m:=by
    obtain⟨o1,Gx,Gy,g1,d1,k1,z1⟩:=hm;obtain⟨o2,Gz,GA,g2,d2,k2,z2⟩:=F.ns;rw[g1] at g2;cases g2;rw[d1] at d2;cases d2
    funext x
    rw[← z1 x,← z2 x]
   rw[this];exact F'.ns
  ·rcases hc with z | z
   ·rw[z];exact nl b v e
   ·exact nl c _ z
 exact⟨.int M,H,I',⟨t,rfl⟩,q M h1 h2⟩
theorem zX:fS X (.builtin "isinstance") (λxs H Q=>∃x T t b,xs = [x,.ty T]/\jk X.K H x t/\PySem.W.kitOne X.K t (.type T)=some b/\Q (.bl b) H):=by
 intro pins s σ H xs us Q I r h;obtain⟨x,T,t,b,rfl,ty,e,q⟩:=h;obtain⟨u,v,rfl,ru,rv⟩:=vals2 r;cases (show v=Value.type T from rv);exact aaj I ru ty e λtk=>⟨.bl b,H,I.tok _,rfl,q⟩
theorem abp{A:Around}{s:Shared}{x:V}{u v:Value}(ru:RelV x u)(rv:RelV x v)(hx:∀b,x≠.lH b)(hb:∀b,x≠.gA b):SeqAt.EqAt A s u v true:=by
 cases x with
 | aP=>cases ru;cases rv;exact SeqAt.EqAt.same _
 | bl b=>cases ru;cases rv;exact SeqAt.EqAt.same _
 | ref a=>cases ru;cases rv;exact SeqAt.EqAt.same _
 | ty n=>cases ru;cases rv;exact SeqAt.EqAt.same _
 | lH b=>exact absurd rfl (hx b)
 | int i =>
  have:=FT (A:=A) (s:=s) ru rv rfl rfl;rwa [show jq (V.int i) (V.int i)=true by simp[jq]] at this
 | str z =>
  have:=FT (A:=A) (s:=s) ru rv rfl rfl;rwa [show jq (V.str z) (V.str z)=true by simp[jq]] at this
 | gA z=>exact absurd rfl (hb z)
theorem abq(hu:X.A.units<cLine):cu X (compareOp .NotEq) (λx y H Q=>∃(a b:Addr) (xs:List V),x = .ref a/\y = .ref b/\aA X.K H a xs/\aA X.K H b xs/\(∀v∈xs,(∀b,v≠.lH b)/\∀b,v≠.gA b)/\Q (.bl false) H):=by
 rintro pins s σ H x y v u Q I rx ry ⟨a,b,xs,rfl,rfl,ha,hb,hv,q⟩;cases rx;cases ry;obtain⟨aC,r1,p1,z1⟩:=I.list ha;obtain⟨fB,r2,p2,z2⟩:=I.list hb;have l1:=r1.length;have l2:=r2.length;have e0:(!(List.range aC.toArray.size).all λ_=>true)=false:=by simp
 have fin:=SeqAt.RcNeAt.lists (A:=X.A) (s:=s) (e:=λ_=>true) p1.isList p2.isList (by simp;lia) hu (λj h1 h2=>?_) X.prog X.w X.xe (EP X pins σ Q) (by rw[e0];exact⟨.bl false,H,I,rfl,q⟩)
 ·exact fin
 ·have g1:aC[j]? = some aC.toArray[j]:=by
   rw[List.getElem_toArray,List.getElem?_eq_getElem (by simpa using h1)]
  have g2:fB[j]? = some fB.toArray[j]:=by
   rw[List.getElem_toArray,List.getElem?_eq_getElem (by simpa using h2)]
  have hj:j<xs.length:=by rw[l1];simpa using h1
  obtain⟨u1,q1,w1⟩:=r1.get (List.getElem?_eq_getElem hj);obtain⟨u2,q2,w2⟩:=r2.get (List.getElem?_eq_getElem hj);rw[g1] at q1;cases q1;rw[g2] at q2;cases q2;exact abp w1 w2 (hv _ (List.getElem_mem hj)).1 (hv _ (List.getElem_mem hj)).2
end
noncomputable def AllP{α:Type}(P:α->Prop):List α->Prop
 | []=>True
 | a::r=>P a/\AllP P r
theorem AllP.mem{α:Type}{P:α->Prop}:∀ {l:List α},AllP P l->∀a∈l,P a
 | _::_,h,a,hm=>by
  rcases List.mem_cons.mp hm with rfl | hm
  ·exact h.1
  ·exact AllP.mem h.2 a hm
theorem GB{CX:gS}{P:Program}{w:World}{K:PySem.W.Frag}{mg:Str->Option Value}{base:Heap}{N:List Str}{qual:Str}{scope:Scope}{f:Addr}{cd:Value}{A:Around}{outer:List Env}{s:Shared}{H:Hp}{E:XK} :
  (mT CX P w K mg base N qual scope f cd A outer s H E).K=K:=rfl
theorem GC{X:Cx}{E:Value->Shared->Prop}:(X.kB E).K=X.K:=rfl
structure Zn(H:Hp)(a:Addr)(ts:List Addr)(z:List (Int×Int)):Prop where
 l:H a=some (.lst (ts.map V.ref))
 n:ts.length=z.length
 t:∀(i:Nat) (t:Addr) (p:Int×Int),ts[i]? = some t->z[i]? = some p->H t=some (.tup [.int p.1,.int p.2])
theorem Zn.same{H H':Hp}{a:Addr}{ts:List Addr}{z:List (Int×Int)}(h:Zn H a ts z)(e:aj H H'):Zn H' a ts z:=⟨e _ _ h.l,h.n,λi t p h1 h2=>e _ _ (h.t i t p h1 h2)⟩
theorem Zn.at{H:Hp}{a:Addr}{ts:List Addr}{z:List (Int×Int)}(h:Zn H a ts z){i:Nat}{x:V}(e:(ts.map V.ref)[i]? = some x):∃t p,x = .ref t/\z[i]? = some p/\H t=some (.tup [.int p.1,.int p.2]):=by
 rw[List.getElem?_map] at e;cases q:ts[i]? with
 | none=>rw[q] at e;cases e
 | some t =>
  rw[q] at e;have hi:i<z.length:=by rw[← h.n];exact(List.getElem?_eq_some_iff.mp q).1
  exact⟨t,z[i],(Option.some.inj e).symm,List.getElem?_eq_getElem hi,h.t i t _ q (List.getElem?_eq_getElem hi)⟩
noncomputable def eg(ns:List Int)(k:Int):Int:=ns.getD k.toNat 0
noncomputable def iU(K:PySem.W.Frag):Sp:=λvs H Q _=>∃(a:Addr) (ns:List Int) (k:Int),vs = [.ref a,.int k]/\aA K H a (ns.map V.int)/\ns.length<=63/\0<=k/\Q (.int (eg ns k)) H
section
variable{K:PySem.W.Frag}{ta:TA}{tl:TE}{g:TG}{tb:TS}{D:Ends}{σ:St}{H:Hp}
theorem abr(n:Nat)(fE:∀Q:List V->Hp->Prop,Q [.int (n:Int)] H->ta σ H Q)(hn:n<1000000000)(Pv:Nat->St->Hp->Prop)(h0:Pv 0 σ H)
  (hs:∀i σ H,i<n->Pv i σ H->g (.int (i:Int)) σ H λaB H2=>tb { D with nx:=Pv (i+1),ct:=Pv (i+1),bk:=D.nx } aB H2) (hd:∀σ H,Pv n σ H->D.nx σ H):jC (u7 ta) g tb D σ H:=by
 refine fE _ ⟨n,rfl,by lia,by lia,?_⟩
 have e:((n:Int)).toNat=n:=by lia
 rw[e];refine FA Pv h0 (λi σ H hi p=>?_) hd;have e2:(0:Int)+(i:Int)=i:=by lia
 rw[e2];exact hs i σ H hi p
theorem abt(lo hi:Int)(fE:∀Q:List V->Hp->Prop,Q [.int lo,.int hi] H->ta σ H Q)(b1 : -1000000000000<lo)(b2:lo<1000000000000)(b3 : -1000000000000<hi)(b4:hi<1000000000000)(Pv:Nat->St->Hp->Prop)(h0:Pv 0 σ H)
  (hs:∀i σ H,i<(hi - lo).toNat->Pv i σ H->g (.int (lo+(i:Int))) σ H λaB H2=>tb { D with nx:=Pv (i+1),ct:=Pv (i+1),bk:=D.nx } aB H2) (hd:∀σ H,Pv (hi - lo).toNat σ H->D.nx σ H):jC (u9 ta) g tb D σ H :=
 fE _ ⟨lo,hi,rfl,⟨by lia,by lia,by lia,by lia⟩,FA Pv h0 hs hd⟩
theorem abu(a:Addr)(xs:List V)(kJ:∀Q:VK,Q (.ref a) H->tl σ H Q)(cS:aA K H a xs)(Pv:Nat->St->Hp->Prop)(h0:Pv 0 σ H)(hl:∀i σ H,i<=xs.length->Pv i σ H->aA K H a xs)
  (hs:∀i x σ H,xs[i]? = some x->Pv i σ H->g x σ H λaB H2=>tb { D with nx:=Pv (i+1),ct:=Pv (i+1),bk:=D.nx } aB H2) (hd:∀σ H,Pv xs.length σ H->D.nx σ H):jC (mR K tl) g tb D σ H :=
 kJ _ ⟨a,rfl,⟨xs,cS⟩,OT Pv h0 hl hs hd⟩
theorem abv(a:Addr)(xs:List V)(fE:∀Q:List V->Hp->Prop,Q [.ref a] H->ta σ H Q)(cS:aA K H a xs)(Pv:Nat->St->Hp->Prop)(h0:Pv 0 σ H)(hl:∀i σ H,i<=xs.length->Pv i σ H->aA K H a xs)
  (hs:∀i x σ H T,xs[i]? = some x->Pv i σ H->H T=none->g (.ref T) σ (upd H T (.tup [.int i,x])) λaB H2=>tb { D with nx:=Pv (i+1),ct:=Pv (i+1),bk:=D.nx } aB H2) (hd:∀σ H,Pv xs.length σ H->D.nx σ H):jC (zT K ta) g tb D σ H :=
 fE _ ⟨a,rfl,⟨xs,cS⟩,abn Pv h0 hl hs hd⟩
variable{tt:TT}{te:TE}{nt:Nat}{fv:List Nat}{Q:VK}
noncomputable def NX(n i:Nat)(P:Prop):Prop:=∃m',m' < n - i/\m' = n - (i+1)/\i+1<=n/\P
theorem NX.of{n i:Nat}{P:Prop}(hi:i<n)(p:P):NX n i P:=⟨n - (i+1),by lia,rfl,hi,p⟩
theorem abw(lo hi:Int)(fE:∀Q:List V->Hp->Prop,Q [.int lo,.int hi] H->ta σ H Q)(b1 : -1000000000000<lo)(b2:lo<1000000000000)(b3 : -1000000000000<hi)(b4:hi<1000000000000)
  (Pv:Addr->Nat->List V->St->Hp->Prop) (h0:∀D,H D=none->Pv D 0 [] (iB σ nt fv) (upd H D (.lst []))) (hD:∀D i ys σ H,Pv D i ys σ H->H D=some (.lst ys)/\ys.length<sizeLine)
  (hs:∀D i ys aB H2,i<(hi - lo).toNat->Pv D i ys aB H2->g (.int (lo+(i:Int))) aB H2 λcy H4=>tt cy H4 λb H5=>if b=true then te cy H5 λv H6=>H6 D=some (.lst ys)/\NX (hi - lo).toNat i (Pv D (i+1) (ys++[v]) cy (upd H6 D (.lst (ys++[v])))) else NX (hi - lo).toNat i (Pv D (i+1) ys cy H5))
  (hd:∀D ys aB H2,Pv D (hi - lo).toNat ys aB H2->Q (.ref D) H2):kI (u9 ta) g tt te nt fv σ H Q:=by
 refine fE _ ⟨lo,hi,rfl,⟨by lia,by lia,by lia,by lia⟩,λD m_=>?_⟩
 refine⟨λi m ys aB H2=>m=(hi - lo).toNat - i/\i<=(hi - lo).toNat/\Pv D i ys aB H2,⟨_,rfl,Nat.zero_le _,h0 D m_⟩,?_⟩;rintro i m ys aB H2 ⟨rfl,iC,p⟩;obtain⟨d1,d2⟩:=hD D i ys aB H2 p;refine⟨d1,d2,?_⟩;by_cases cj:i<(hi - lo).toNat
 ·refine .inr ⟨cj,λx H3 y=>?_⟩;obtain⟨e1,e2⟩:=y;subst e1 e2;exact hs D i ys aB _ cj p
 ·have e:i=(hi - lo).toNat:=by lia
  subst e;exact .inl ⟨Nat.le_refl _,hd D ys aB H2 p⟩
theorem abx(a:Addr)(xs:List V)(kJ:∀Q:VK,Q (.ref a) H->tl σ H Q)(cS:aA K H a xs)
  (Pv:Addr->Nat->List V->St->Hp->Prop) (h0:∀D,H D=none->Pv D 0 [] (iB σ nt fv) (upd H D (.lst []))) (hD:∀D i ys σ H,Pv D i ys σ H->H D=some (.lst ys)/\ys.length<sizeLine/\aA K H a xs)
  (hs:∀D i x ys aB H2,xs[i]? = some x->Pv D i ys aB H2->g x aB H2 λcy H4=>tt cy H4 λb H5=>if b=true then te cy H5 λv H6=>H6 D=some (.lst ys)/\NX xs.length i (Pv D (i+1) (ys++[v]) cy (upd H6 D (.lst (ys++[v])))) else NX xs.length i (Pv D (i+1) ys cy H5))
  (hd:∀D ys aB H2,Pv D xs.length ys aB H2->Q (.ref D) H2):kI (mR K tl) g tt te nt fv σ H Q:=by
 refine kJ _ ⟨a,rfl,⟨xs,cS⟩,λD m_=>?_⟩;refine⟨λi m ys aB H2=>m=xs.length - i/\i<=xs.length/\Pv D i ys aB H2,⟨_,rfl,Nat.zero_le _,h0 D m_⟩,?_⟩;rintro i m ys aB H2 ⟨rfl,iC,p⟩;obtain⟨d1,d2,d3⟩:=hD D i ys aB H2 p;refine⟨d1,d2,?_⟩;by_cases cj:i<xs.length
 ·refine .inr ⟨⟨xs,xs[i],d3,by simp[cj]⟩,λx H3 y=>?_⟩
  obtain⟨e1,e2⟩:=y;subst e1;exact hs D i x ys aB _ (e2 xs d3) p
 ·have e:i=xs.length:=by lia
  subst e;exact .inl ⟨⟨xs,d3,Nat.le_refl _⟩,hd D ys aB H2 p⟩
end
theorem fF{ns:List Int}{k:Int}(h0:0<=k)(h:k<(ns.length:Int)):dR (ns.map V.int) k=some (.int (ns.getD k.toNat 0)):=by
 have hk:k.toNat<ns.length:=by lia
 unfold dR gT;rw[if_pos h0,if_pos (by simpa using h)]
 simp[List.getD_eq_getElem?_getD,List.getElem?_eq_getElem hk]
theorem GD{ns:List Int}(h:0<ns.length):dR (ns.map V.int) (-1)=some (.int (ns.getD (ns.length - 1) 0)):=by
 have hk:ns.length - 1<ns.length:=by lia
 unfold dR gT;rw[if_neg (by decide),if_pos (by simp;lia)]
 have e:(-1+((ns.map V.int).length:Int)).toNat=ns.length - 1:=by simp;lia
 rw[e];simp[List.getD_eq_getElem?_getD,List.getElem?_eq_getElem hk]
theorem zY(a b:String):(Str.ofString a=Str.ofString b)=(a=b):=by
 refine propext ⟨λh=>?_,λh=>by rw[h]⟩
 rw[Str.ofString_eq_toList,Str.ofString_eq_toList] at h;have h:a.toList.map Char.toNat=b.toList.map Char.toNat:=by
  injection h with h;exact Array.toList_inj.mpr h |> λz=>by simpa using h
 have inj:∀(x y:List Char),x.map Char.toNat=y.map Char.toNat->x=y:=by
  intro x
  induction x with
  | nil=>intro y h;cases y with | nil=>rfl | cons c r=>simp at h
  | cons c r ih =>
   intro y h;cases y with
   | nil=>simp at h
   | cons d q =>
    simp only[List.map_cons,List.cons.injEq] at h;rw[ih q h.2,Char.toNat_inj.mp h.1]
 exact String.ext (inj _ _ h)
theorem sI(a b:String):(Str.ofString a == Str.ofString b)=(a == b):=by
 by_cases h:a=b
 ·subst h;simp
 ·have h2:¬ Str.ofString a=Str.ofString b:=by rw[zY];exact h
  rw[beq_eq_false_iff_ne.mpr h,beq_eq_false_iff_ne.mpr h2]
structure qA(z:List (Int×Int)):Prop where
 l1:1<=z.length
 l5:z.length<=5
 r:∀p∈z,1<=p.1/\p.1<=40/\1<=p.2/\p.2<=60
 s2:2<=(z.map (·.1)).sum
 zZ:(z.map (·.1)).sum<=120
noncomputable def counts(z:List (Int×Int)):List Int:=z.flatMap λp=>List.replicate p.1.toNat p.2
structure SwOk(sw:List Int)(n:Int):Prop where
 len:(sw.length:Int)=n
 two:2<=n
 z:sw.getD 0 0=0
 pos:∀i:Nat,1<=i->i<sw.length->1<=sw.getD i 0/\sw.getD i 0<=1000000000
 up:∀i:Nat,1<=i->i<sw.length->sw.getD (i - 1) 0<=sw.getD i 0
 no:∀a b:Nat,1<=a->1<=b->a+b<sw.length->sw.getD (a+b) 0<=sw.getD a 0+sw.getD b 0
noncomputable def dY(s:Int):Nat->List Int->List (Int×Int)
 | _,[]=>[]
 | r,c::cs=>(List.range (c - s).toNat).map (λ(k:Nat)=>((r:Int),(k:Int)))++dY s (r+1) cs
noncomputable def e8(rc:List Int)(s:Int):List (Int×Int):=dY s 0 rc
noncomputable def kT(p:Int×Int):List Key:=[.inl p.1,.inl p.2]
noncomputable def gH:Nat->List (Int×Int)->List (List Key×V)->List (List Key×V)
 | _,[],acc=>acc
 | i,p::r,acc=>gH (i+1) r (putK acc (kT p) (.int i))
noncomputable def ng(z:List (Int×Int)):List (List Key×V):=gH 0 z []
theorem P6(s:Int):∀(xs ys:List Int) (r:Nat),dY s r (xs++ys)=dY s r xs++dY s (r+xs.length) ys
 | [],ys,r=>by simp[dY]
 | x::xs,ys,r=>by
  rw[List.cons_append,dY,dY,P6 s xs ys (r+1),List.append_assoc,List.length_cons];congr 3;lia
theorem P7:∀(xs ys:List (Int×Int)) (i:Nat) (acc:List (List Key×V)),gH i (xs++ys) acc=gH (i+xs.length) ys (gH i xs acc)
 | [],ys,i,acc=>by simp[gH]
 | x::xs,ys,i,acc=>by
  rw[List.cons_append,gH,gH,P7 xs ys (i+1),List.length_cons];congr 1;lia
theorem P8:∀(xs:List (Int×Int)) (i:Nat) (acc:List (List Key×V)),(gH i xs acc).length<=acc.length+xs.length
 | [],i,acc=>by simp[gH]
 | x::xs,i,acc=>by
  rw[gH];have h1:=P8 xs (i+1) (putK acc (kT x) (.int i));have h2:=Ge acc (kT x) (.int i);rw[List.length_cons];lia
theorem P9(x y:List (Int×Int)):counts (x++y)=counts x++counts y:=by simp[counts]
theorem oR:∀(z:List (Int×Int)),(∀p∈z,1<=p.1)->((counts z).length:Int)=(z.map (·.1)).sum
 | [],_=>rfl
 | p::z,h=>by
  have ih:=oR z λp hp=>h p (List.mem_cons_of_mem _ hp);have h1:=h p List.mem_cons_self;simp only[counts,List.flatMap_cons,List.length_append,List.length_replicate,List.map_cons,List.sum_cons] at ih ⊢;lia
theorem P_{z:List (Int×Int)}(ok:qA z)(i:Nat):(counts (z.take i)).length<=120:=by
 have h0:=oR z λp hp=>(ok.r p hp).1;have e:z=z.take i++z.drop i:=(List.take_append_drop i z).symm;have e2:(counts z).length=(counts (z.take i)).length+(counts (z.drop i)).length:=by
  rw[← List.length_append,← P9,List.take_append_drop]
 have:=ok.zZ;lia
theorem oU{z:List (Int×Int)}{c:Int}(h:c∈counts z):∃p∈z,c=p.2:=by
 obtain⟨p,hp,hc⟩:=List.mem_flatMap.mp h;exact⟨p,hp,(List.mem_replicate.mp hc).2⟩
theorem z7{s:Int}(hs:0<=s):∀(rc:List Int) (r:Nat),(∀c∈rc,0<=c/\c<=1000)->(dY s r rc).length<=1000*rc.length
 | [],_,_=>by simp[dY]
 | c::rc,r,h=>by
  have ih:=z7 hs rc (r+1) λc hc=>h c (List.mem_cons_of_mem _ hc);have h1:=h c List.mem_cons_self;simp only[dY,List.length_append,List.length_map,List.length_range,List.length_cons];lia
theorem aby{s:Int}(hs:0<=s){rc:List Int}(h:∀c∈rc,0<=c/\c<=1000)(i:Nat):(dY s 0 (rc.take i)).length<=1000*rc.length:=by
 have h1:=z7 hs (rc.take i) 0 λc hc=>h c (List.mem_of_mem_take hc);rw[List.length_take] at h1;have h2:1000*min i rc.length<=1000*rc.length:=Nat.mul_le_mul_left _ (Nat.min_le_right _ _);exact Nat.le_trans h1 h2
theorem lW:sizeLine=16777216:=by decide
theorem Qa(n:Nat)(c:Int):(List.replicate n [V.int c]).flatten=(List.replicate n c).map V.int:=by
 induction n with
 | zero=>rfl
 | succ n ih=>rw[List.replicate_succ,List.flatten_cons,ih,List.replicate_succ,List.map_cons];rfl
theorem Qc{α:Type}{l:List α}{i:Nat}{x:α}(h:l[i]? = some x):i<l.length:=(List.getElem?_eq_some_iff.mp h).1
theorem take_succ_get{α:Type}{l:List α}{i:Nat}{x:α}(h:l[i]? = some x):l.take (i+1)=l.take i++[x]:=by
 rw[List.take_add_one,h];rfl
theorem wC(l:List Int){i:Nat}(h:i<l.length):l[i]? = some (l.getD i 0):=by
 simp[List.getD_eq_getElem?_getD,List.getElem?_eq_getElem h]
theorem dM{α β:Type}{f:α->β}{l:List α}{i:Nat}{y:β}(h:(l.map f)[i]? = some y):∃x,l[i]? = some x/\y=f x:=by
 rw[List.getElem?_map] at h;cases e:l[i]? with
 | none=>rw[e] at h;cases h
 | some x=>rw[e] at h;exact⟨x,rfl,(Option.some.inj h).symm⟩
theorem get_mem{α:Type}{l:List α}{i:Nat}{x:α}(h:l[i]? = some x):x∈l:=List.mem_of_getElem? h
theorem cN{α:Type}{l:List α}{i:Nat}{x:α}(h:l[i]? = some x):i<l.length:=(List.getElem?_eq_some_iff.mp h).1
theorem aj.put{H:Hp}{a:Addr}{o:HO}(h:H a=none):aj H (upd H a o):=λb u e=>by rw[aI (bO e h)];exact e
theorem aj.put2{H H':Hp}{a:Addr}{o:HO}(s:aj H H')(h:H a=none):aj H (upd H' a o):=λb u e=>by rw[aI (bO e h)];exact s b u e
theorem aj.fG{K:PySem.W.Frag}{H H':Hp}{a:Addr}{xs:List V}(e:aj H H')(h:aL K H a xs):aL K H' a xs:=by
 rcases h with(h | ⟨o,h⟩) | h
 ·exact .inl (.inl (e _ _ h))
 ·exact .inl (.inr ⟨o,e _ _ h⟩)
 ·exact .inr h
theorem Zn.sq{K:PySem.W.Frag}{H:Hp}{a:Addr}{ts:List Addr}{z:List (Int×Int)}(h:Zn H a ts z):aA K H a (ts.map V.ref):=aA.of h.l
section
variable{X:Cx}{K:PySem.W.Frag}
theorem abz(h:X.K=K):kF X (qp K):=h▸vD
end
section
variable{K:PySem.W.Frag}{ta:TA}{tl:TE}{g:TG}{tb:TS}{D:Ends}{σ:St}{H:Hp}
theorem rl(a:Addr)(xs:List V)(Pv:Nat->St->Hp->Prop)(kJ:∀Q:VK,Q (.ref a) H->tl σ H Q)(cS:aA K H a xs)(h0:Pv 0 σ H)(hl:∀i σ H,i<=xs.length->Pv i σ H->aA K H a xs)
  (hs:∀i x σ H (N:St->Hp->Prop),(∀σ H,Pv (i+1) σ H->N σ H)->xs[i]? = some x->Pv i σ H->g x σ H λaB H2=>tb { D with nx:=N,ct:=N,bk:=D.nx } aB H2) (hd:∀σ H,Pv xs.length σ H->D.nx σ H):jC (mR K tl) g tb D σ H :=
 abu a xs kJ cS Pv h0 hl (λi x σ H hx p=>hs i x σ H _ (λ_ _ z=>z) hx p) hd
theorem z8(n:Nat)(Pv:Nat->St->Hp->Prop)(fE:∀Q:List V->Hp->Prop,Q [.int (n:Int)] H->ta σ H Q)(hn:n<1000000000)(h0:Pv 0 σ H)
  (hs:∀i σ H (N:St->Hp->Prop),(∀σ H,Pv (i+1) σ H->N σ H)->i<n->Pv i σ H->g (.int (i:Int)) σ H λaB H2=>tb { D with nx:=N,ct:=N,bk:=D.nx } aB H2) (hd:∀σ H,Pv n σ H->D.nx σ H):jC (u7 ta) g tb D σ H :=
 abr n fE hn Pv h0 (λi σ H hx p=>hs i σ H _ (λ_ _ z=>z) hx p) hd
theorem sJ(lo hi:Int)(Pv:Nat->St->Hp->Prop)(fE:∀Q:List V->Hp->Prop,Q [.int lo,.int hi] H->ta σ H Q)(b1 : -1000000000000<lo)(b2:lo<1000000000000)(b3 : -1000000000000<hi)(b4:hi<1000000000000)(h0:Pv 0 σ H)
  (hs:∀i σ H (N:St->Hp->Prop),(∀σ H,Pv (i+1) σ H->N σ H)->i<(hi - lo).toNat->Pv i σ H->g (.int (lo+(i:Int))) σ H λaB H2=>tb { D with nx:=N,ct:=N,bk:=D.nx } aB H2) (hd:∀σ H,Pv (hi - lo).toNat σ H->D.nx σ H):jC (u9 ta) g tb D σ H :=
 abt lo hi fE b1 b2 b3 b4 Pv h0 (λi σ H hx p=>hs i σ H _ (λ_ _ z=>z) hx p) hd
theorem z9(n:Int)(Pv:Nat->St->Hp->Prop)(fE:∀Q:List V->Hp->Prop,Q [.int n] H->ta σ H Q)(h0' : -1000000000000<n)(hn:n<1000000000000)(h0:Pv 0 σ H)
  (hs:∀i σ H (N:St->Hp->Prop),(∀σ H,Pv (i+1) σ H->N σ H)->i<n.toNat->Pv i σ H->g (.int (i:Int)) σ H λaB H2=>tb { D with nx:=N,ct:=N,bk:=D.nx } aB H2) (hd:∀σ H,Pv n.toNat σ H->D.nx σ H):jC (u7 ta) g tb D σ H:=by
 refine fE _ ⟨n,rfl,by lia,by lia,?_⟩
 refine FA Pv h0 (λi σ H hi p=>?_) hd;have e2:(0:Int)+(i:Int)=i:=by lia
 rw[e2];exact hs i σ H _ (λ_ _ z=>z) hi p
theorem re(a:Addr)(xs:List V)(Pv:Nat->St->Hp->Prop)(fE:∀Q:List V->Hp->Prop,Q [.ref a] H->ta σ H Q)(cS:aA K H a xs)(h0:Pv 0 σ H)(hl:∀i σ H,i<=xs.length->Pv i σ H->aA K H a xs)
  (hs:∀i x σ H T (N:St->Hp->Prop),(∀σ H,Pv (i+1) σ H->N σ H)->xs[i]? = some x->Pv i σ H->H T=none->g (.ref T) σ (upd H T (.tup [.int i,x])) λaB H2=>tb { D with nx:=N,ct:=N,bk:=D.nx } aB H2) (hd:∀σ H,Pv xs.length σ H->D.nx σ H):jC (zT K ta) g tb D σ H :=
 abv a xs fE cS Pv h0 hl (λi x σ H T hx p hT=>hs i x σ H T _ (λ_ _ z=>z) hx p hT) hd
noncomputable def nh(K:PySem.W.Frag)(a:Addr)(g:TG)(tb:TS)(D:Ends)(σ:St)(H:Hp):Prop:=(∃xs,aA K H a xs)/\∃W:Nat->Nat->St->Hp->Prop,(∃m,W 0 m σ H)/\∀i m σ H,W i m σ H->
 ((oE K a).stop i H/\D.nx σ H)\/((oE K a).go i H/\∃N:St->Hp->Prop,(∀bE H',N bE H'->∃m',m' < m/\W (i+1) m' bE H')/\∀x H',(oE K a).mQ i H x H'->g x σ H' λaB H2=>tb { D with nx:=N,ct:=N,bk:=D.nx } aB H2)
theorem sL(h:tl σ H λx H1=>∃a,x = .ref a/\nh K a g tb D σ H1):jC (mR K tl) g tb D σ H:=h
theorem nh.by(a:Addr)(xs:List V)(Pv:Nat->St->Hp->Prop)(cS:aA K H a xs)(h0:Pv 0 σ H)(hl:∀i σ H,i<=xs.length->Pv i σ H->aA K H a xs)
  (hs:∀i x σ H (N:St->Hp->Prop),(∀σ H,Pv (i+1) σ H->N σ H)->xs[i]? = some x->Pv i σ H->g x σ H λaB H2=>tb { D with nx:=N,ct:=N,bk:=D.nx } aB H2) (hd:∀σ H,Pv xs.length σ H->D.nx σ H):nh K a g tb D σ H :=
 ⟨⟨xs,cS⟩,OT Pv h0 hl (λi x σ H hx p=>hs i x σ H _ (λ_ _ z=>z) hx p) hd⟩
variable{tt:TT}{te:TE}{nt:Nat}{fv:List Nat}{Q:VK}
theorem Qd(lo hi:Int)(Pv:Addr->Nat->List V->St->Hp->Prop)(fE:∀Q:List V->Hp->Prop,Q [.int lo,.int hi] H->ta σ H Q)(b1 : -1000000000000<lo)(b2:lo<1000000000000)(b3 : -1000000000000<hi)(b4:hi<1000000000000)
  (h0:∀D,H D=none->Pv D 0 [] (iB σ nt fv) (upd H D (.lst []))) (hD:∀D i ys σ H,Pv D i ys σ H->H D=some (.lst ys)/\ys.length<sizeLine)
  (hs:∀D i ys aB H2 (N:List V->St->Hp->Prop),(∀ys σ H,Pv D (i+1) ys σ H->N ys σ H)->i<(hi - lo).toNat->Pv D i ys aB H2->g (.int (lo+(i:Int))) aB H2 λcy H4=>tt cy H4 λb H5=>if b=true then te cy H5 λv H6=>H6 D=some (.lst ys)/\N (ys++[v]) cy (upd H6 D (.lst (ys++[v]))) else N ys cy H5)
  (hd:∀D ys aB H2,Pv D (hi - lo).toNat ys aB H2->Q (.ref D) H2):kI (u9 ta) g tt te nt fv σ H Q :=
 abw lo hi fE b1 b2 b3 b4 Pv h0 hD (λD i ys aB H2 hi p=>hs D i ys aB H2 _ (λ_ _ _ z=>NX.of hi z) hi p) hd
theorem gU(a:Addr)(xs:List V)(Pv:Addr->Nat->List V->St->Hp->Prop)(kJ:∀Q:VK,Q (.ref a) H->tl σ H Q)(cS:aA K H a xs)
  (h0:∀D,H D=none->Pv D 0 [] (iB σ nt fv) (upd H D (.lst []))) (hD:∀D i ys σ H,Pv D i ys σ H->H D=some (.lst ys)/\ys.length<sizeLine/\aA K H a xs)
  (hs:∀D i x ys aB H2 (N:List V->St->Hp->Prop),(∀ys σ H,Pv D (i+1) ys σ H->N ys σ H)->xs[i]? = some x->Pv D i ys aB H2->g x aB H2 λcy H4=>tt cy H4 λb H5=>if b=true then te cy H5 λv H6=>H6 D=some (.lst ys)/\N (ys++[v]) cy (upd H6 D (.lst (ys++[v]))) else N ys cy H5)
  (hd:∀D ys aB H2,Pv D xs.length ys aB H2->Q (.ref D) H2):kI (mR K tl) g tt te nt fv σ H Q :=
 abx a xs kJ cS Pv h0 hD (λD i x ys aB H2 hx p=>hs D i x ys aB H2 _ (λ_ _ _ z=>NX.of (List.getElem?_eq_some_iff.mp hx).1 z) hx p) hd
end
theorem kK{K:PySem.W.Frag}{H:Hp}{σ:St}{t:Addr}{x y:V}{n i j:Nat}{Q:St->Hp->Prop}(h:aL K H t [x,y])(hn:2=n)(q:Q ((σ.set i (some x)).set j (some y)) H):p9 K n (p8 (lN i) (p8 (lN j) rM)) (.ref t) σ H Q :=
 ⟨t,[x,y],rfl,h,hn,x,[y],rfl,y,[],rfl,rfl,q⟩
theorem lenZ{ts:List Addr}{z:List (Int×Int)}(h:ts.length=z.length):(ts.map V.ref).length=z.length:=by simpa using h
theorem Zn.snoc{H:Hp}{l p:Addr}{ts:List Addr}{z:List (Int×Int)}(h:Zn H l ts z)(hp:H p=none)(a b:Int):Zn (upd (upd H p (.tup [.int a,.int b])) l (.lst (ts.map V.ref++[V.ref p]))) l (ts++[p]) (z++[(a,b)]):=by
 have wD:l≠p:=bO h.l hp;refine⟨by rw[aD,List.map_append];rfl,by simp[h.n],λi t q e1 e2=>?_⟩
 have hn:=h.n;by_cases hi:i<ts.length
 ·rw[List.getElem?_append_left hi] at e1;rw[List.getElem?_append_left (by lia)] at e2
  have ht:=h.t i t q e1 e2;rw[aI (gQ ht h.l (by intro z;cases z)),aI (bO ht hp)]
  exact ht
 ·rw[List.getElem?_append_right (by lia)] at e1
  rw[List.getElem?_append_right (by lia)] at e2
  have cO:i - ts.length=0:=by
   have:=Qc e1;simp at this;lia
  rw[cO] at e1;rw[← hn,cO] at e2;simp at e1 e2;subst e1 e2;rw[aI wD.symm,aD]
noncomputable def abA(t:TS):TS:=λD σ H=>∃M:St->Hp->Prop,t { D with nx:=M } σ H/\∀gC H1,M gC H1->D.nx gC H1
theorem abB{X:Cx}{st:Stmt}{t:TS}(h:PS X st t):PS X st (abA t):=by
 rintro pins s σ H D I ⟨M,hM,k⟩;refine aU (h pins s σ H _ I hM) λf s1 q=>?_;cases f with
 | next=>obtain⟨gC,H1,I1,q⟩:=q;exact⟨gC,H1,I1,k _ _ q⟩
 | brk=>exact q
 | cont=>exact q
 | ret u=>exact q
noncomputable def abC(K:PySem.W.Frag):Sp:=λvs H Q _=>∃(a:Addr) (ts:List Addr) (z:List (Int×Int)),vs = [.ref a]/\Zn H a ts z/\qA z/\∀H',aj H H'->Q .aP H'
noncomputable def abD(K:PySem.W.Frag):Sp:=λvs H Q _=>∃(a:Addr) (ts:List Addr) (z:List (Int×Int)) (ao bY:Int),vs = [.ref a,.int ao,.int bY]/\Zn H a ts z/\qA z/\1<=ao/\ao<=1000000000/\0<=bY/\bY<ao/\
 (∀p∈z,ao % p.2=0)/\Q .aP H
noncomputable def abE(K:PySem.W.Frag):Sp:=λvs H Q _=>∃(a:Addr) (sw:List Int) (n:Int),vs = [.ref a,.int n]/\aA K H a (sw.map V.int)/\SwOk sw n/\n<=1000/\Q .aP H
noncomputable def abF(K:PySem.W.Frag):Sp:=λvs H Q _=>∃(a:Addr) (sw:List Int) (n:Int),vs = [.ref a]/\aA K H a (sw.map V.int)/\SwOk sw n/\n<=1000/\Q .aP H
noncomputable def abG(K:PySem.W.Frag):Sp:=λvs H Q _=>∃(a:Addr) (ts:List Addr) (z:List (Int×Int)),vs = [.ref a]/\Zn H a ts z/\qA z/\
 ∀l H',aj H H'->H l=none->H' l=some (.lst ((counts z).map V.int))->Q (.ref l) H'
noncomputable def abH(K:PySem.W.Frag):Sp:=λvs H Q _=>∃(a:Addr) (rc:List Int) (s:Int),vs = [.ref a,.int s]/\aA K H a (rc.map V.int)/\rc.length<=1000/\(∀c∈rc,0<=c/\c<=1000)/\0<=s/\s<=1000/\
 ∀l ts H',aj H H'->H l=none->(∀t∈ts,H t=none)->Zn H' l ts (e8 rc s)->Q (.ref l) H'
noncomputable def abI(K:PySem.W.Frag):Sp:=λvs H Q _=>∃(a:Addr) (ts:List Addr) (z:List (Int×Int)),vs = [.ref a]/\Zn H a ts z/\z.length<=1000000/\
 ∀d H',aj H H'->H d=none->H' d=some (.dT (ng z))->Q (.ref d) H'
structure Pl where
 rc:List Int
 ao:Int
 bY:Int
 sw:List Int
 nc:List (Int×Int)
structure CP(K:PySem.W.Frag)(C:Addr):Prop where
 cl:cR K C
 n1:bQ K C "ring_cells"
 n2:bQ K C "lap"
 n3:bQ K C "skew"
 n4:bQ K C "swing"
 n5:bQ K C "number_cells"
 n6:bQ K C "cell_numbers"
noncomputable def sM(a1:Addr)(ao bY:Int)(a2 a3 a4:Addr):List (Str×V):=[("ring_cells",.ref a1),("lap",.int ao),("skew",.int bY),("swing",.ref a2),("number_cells",.ref a3),("cell_numbers",.ref a4)]
structure ni(K:PySem.W.Frag)(C:Addr)(H:Hp)(p:Addr)(P:Pl)(dx a1 a2 a3 a4:Addr)(ts:List Addr)(fs:List (Str×V)):Prop where
 cp:CP K C
 o:H p=some (.ins C dx fs)
 f1:fs.lookup ("ring_cells" : Str)=some (.ref a1)
 f2:fs.lookup ("lap" : Str)=some (.int P.ao)
 f3:fs.lookup ("skew" : Str)=some (.int P.bY)
 f4:fs.lookup ("swing" : Str)=some (.ref a2)
 f5:fs.lookup ("number_cells" : Str)=some (.ref a3)
 f6:fs.lookup ("cell_numbers" : Str)=some (.ref a4)
 m1:fs.lookup ("rings" : Str)=none
 m2:fs.lookup ("total" : Str)=none
 m3:fs.lookup ("cells_of" : Str)=none
 m4:fs.lookup ("beats_of" : Str)=none
 m5:fs.lookup ("lap_beats" : Str)=none
 m6:fs.lookup ("begins" : Str)=none
 m7:fs.lookup ("swing_of" : Str)=none
 m8:fs.lookup ("has_cell" : Str)=none
 m9:fs.lookup ("cell_at" : Str)=none
 fH:fs.lookup ("number_of" : Str)=none
 fW:fs.lookup ("laid" : Str)=none
 rc:H a1=some (.lst (P.rc.map V.int))
 sw:H a2=some (.lst (P.sw.map V.int))
 nc:Zn H a3 ts P.nc
 cn:H a4=some (.dT (ng P.nc))
theorem ni.lit{K:PySem.W.Frag}{C:Addr}{H:Hp}{p:Addr}{P:Pl}{dx a1 a2 a3 a4:Addr}{ts:List Addr}(cp:CP K C)(o:H p=some (.ins C dx (sM a1 P.ao P.bY a2 a3 a4)))(rc:H a1=some (.lst (P.rc.map V.int)))(sw:H a2=some (.lst (P.sw.map V.int)))
  (nc:Zn H a3 ts P.nc) (cn:H a4=some (.dT (ng P.nc))):ni K C H p P dx a1 a2 a3 a4 ts (sM a1 P.ao P.bY a2 a3 a4):=by
 refine⟨cp,o,?_,?_,?_,?_,?_,?_,?_,?_,?_,?_,?_,?_,?_,?_,?_,?_,?_,rc,sw,nc,cn⟩ <;> simp[sM,List.lookup_cons,sI]
noncomputable def cF(K:PySem.W.Frag)(C:Addr)(H:Hp)(p:Addr)(P:Pl)(fp:List Addr):Prop:=∃dx a1 a2 a3 a4 ts fs,fp=a1::a2::a3::a4::ts/\ni K C H p P dx a1 a2 a3 a4 ts fs
theorem Zn.keep{H H':Hp}{a:Addr}{ts:List Addr}{z:List (Int×Int)}(h:Zn H a ts z)(ha:H' a=H a)(ht:∀t∈ts,H' t=H t):Zn H' a ts z :=
 ⟨ha.trans h.l,h.n,λi t p e1 e2=>(ht t (List.mem_of_getElem? e1)).trans (h.t i t p e1 e2)⟩
theorem Zn.has{H:Hp}{a:Addr}{ts:List Addr}{z:List (Int×Int)}(h:Zn H a ts z){t:Addr}(ht:t∈ts):∃o,H t=some o:=by
 obtain⟨i,hi,rfl⟩:=List.mem_iff_getElem.mp ht;have hz:i<z.length:=by rw[← h.n];exact hi
 exact⟨_,h.t i _ _ (List.getElem?_eq_getElem hi) (List.getElem?_eq_getElem hz)⟩
section
variable{K:PySem.W.Frag}{C:Addr}{H H':Hp}{p x:Addr}{P:Pl}{fp:List Addr}
theorem ni.move{dx a1 a2 a3 a4:Addr}{ts:List Addr}{fs:List (Str×V)}(h:ni K C H p P dx a1 a2 a3 a4 ts fs)(ho:H' p=H p)(h1:H' a1=H a1)(h2:H' a2=H a2)(h3:H' a3=H a3)(h4:H' a4=H a4)(ht:∀t∈ts,H' t=H t):ni K C H' p P dx a1 a2 a3 a4 ts fs :=
 { h with o:=ho.trans h.o,rc:=h1.trans h.rc,sw:=h2.trans h.sw,nc:=h.nc.keep h3 ht,cn:=h4.trans h.cn }
theorem cF.keep(h:cF K C H p P fp)(hp:H' p=H p)(e:∀b∈fp,H' b=H b):cF K C H' p P fp:=by
 obtain⟨dx,a1,a2,a3,a4,ts,fs,rfl,h⟩:=h;exact⟨dx,a1,a2,a3,a4,ts,fs,rfl,h.move hp (e a1 (by simp)) (e a2 (by simp)) (e a3 (by simp)) (e a4 (by simp)) λt ht=>e t (by simp[ht])⟩
theorem cF.has(h:cF K C H p P fp){b:Addr}(hb:b∈fp):∃o,H b=some o:=by
 obtain⟨kL,a1,a2,a3,a4,ts,fs,rfl,h⟩:=h;simp only[List.mem_cons] at hb;rcases hb with rfl | rfl | rfl | rfl | hb
 ·exact⟨_,h.rc⟩
 ·exact⟨_,h.sw⟩
 ·exact⟨_,h.nc.l⟩
 ·exact⟨_,h.cn⟩
 ·exact h.nc.has hb
theorem cF.here(h:cF K C H p P fp):∃o,H p=some o:=by
 obtain⟨kL,a1,a2,a3,a4,ts,fs,rfl,h⟩:=h;exact⟨_,h.o⟩
theorem cF.same(h:cF K C H p P fp)(s:aj H H'):cF K C H' p P fp:=by
 refine h.keep ?_ λb hb=>?_
 ·obtain⟨o,e⟩:=h.here;rw[e];exact s _ _ e
 ·obtain⟨o,e⟩:=h.has hb;rw[e];exact s _ _ e
noncomputable def SameBut(x:Addr)(H H':Hp):Prop:=∀b o,H b=some o->b≠x->H' b=some o
theorem SameBut.put{o:HO}(s:SameBut x H H'):SameBut x H (upd H' x o):=λb u e h=>by rw[aI h];exact s b u e h
theorem SameBut.step{H1 H2:Hp}(s:SameBut x H H1)(t:aj H1 H2):SameBut x H H2:=λb u e h=>t _ _ (s b u e h)
theorem SameBut.of(s:aj H H'):SameBut x H H':=λb u e _=>s _ _ e
end
noncomputable def abJ(K:PySem.W.Frag):Sp:=λvs H Q _=>∃(C p dx za sa:Addr) (bq:List Addr) (z:List (Int×Int)) (ao bY:Int) (sw:List Int),vs = [.ref p,.ref za,.int ao,.int bY,.ref sa]/\CP K C/\H p=some (.ins C dx [])/\Zn H za bq z/\qA z/\
 1<=ao/\ao<=1000000000/\0<=bY/\bY<ao/\(∀p∈z,ao % p.2=0)/\aA K H sa (sw.map V.int)/\SwOk sw (z.map (·.1)).sum/\
 ∀H' dx a1 a2 a3 a4 ts,SameBut p H H'->(∀b∈a1::a2::a3::a4::ts,H b=none)->H' p=some (.ins C dx (sM a1 ao bY a2 a3 a4))->ni K C H' p ⟨counts z,ao,bY,sw,e8 (counts z) 0⟩ dx a1 a2 a3 a4 ts (sM a1 ao bY a2 a3 a4)->Q .aP H'
noncomputable def abK(K:PySem.W.Frag):Sp:=λvs H Q _=>∃(C p:Addr) (P:Pl) (fp:List Addr) (i j:Int),vs = [.ref p,.int i,.int j]/\cF K C H p P fp/\(i - j).natAbs<P.sw.length/\Q (.int (P.sw.getD (i - j).natAbs 0)) H
noncomputable def abL(K:PySem.W.Frag):Sp:=λvs H Q _=>∃(C p:Addr) (P:Pl) (fp:List Addr),vs = [.ref p]/\cF K C H p P fp/\Q (.int P.rc.length) H
noncomputable def abM(K:PySem.W.Frag):Sp:=λvs H Q _=>∃(C p:Addr) (P:Pl) (fp:List Addr),vs = [.ref p]/\cF K C H p P fp/\Q (.int P.nc.length) H
noncomputable def abN(K:PySem.W.Frag):Sp:=λvs H Q _=>∃(C p:Addr) (P:Pl) (fp:List Addr),vs = [.ref p]/\cF K C H p P fp/\Q (.int P.ao) H
noncomputable def abO(K:PySem.W.Frag):Sp:=λvs H Q _=>∃(C p:Addr) (P:Pl) (fp:List Addr) (r:Int),vs = [.ref p,.int r]/\cF K C H p P fp/\0<=r/\r<P.rc.length/\0<P.rc.getD r.toNat 0/\P.rc.getD r.toNat 0<=1000/\Q (.int (P.ao / P.rc.getD r.toNat 0)) H
noncomputable def abP(K:PySem.W.Frag)(cs:List Addr):Sp:=λvs H Q _=>∃(C p:Addr) (P:Pl) (fp:List Addr) (r c:Int),vs = [.ref p,.int r,.int c]/\C∈cs/\cF K C H p P fp/\0<=r/\r<P.rc.length/\P.rc.length<=1000/\0<P.rc.getD r.toNat 0/\P.rc.getD r.toNat 0<=1000/\
 0<=c/\c<=1000/\0<P.ao/\Q (.int ((c*(P.ao / P.rc.getD r.toNat 0)+r*P.bY) % P.ao)) H
noncomputable def abQ(K:PySem.W.Frag):Sp:=λvs H Q _=>∃(C p:Addr) (P:Pl) (fp:List Addr) (r c:Int),vs = [.ref p,.int r,.int c]/\cF K C H p P fp/\Q (.bl (decide (0<=r/\r<P.rc.length/\0<=c/\c<P.rc.getD r.toNat 0))) H
noncomputable def abR(K:PySem.W.Frag):Sp:=λvs H Q _=>∃(C p:Addr) (P:Pl) (fp:List Addr) (k:Int),vs = [.ref p,.int k]/\cF K C H p P fp/\0<=k/\k<P.nc.length/\∀t q,P.nc[k.toNat]? = some q->H t=some (.tup [.int q.1,.int q.2])->Q (.ref t) H
noncomputable def abS(K:PySem.W.Frag)(cs:List Addr):Sp:=λvs H Q _=>∃(C p:Addr) (P:Pl) (fp:List Addr) (r c:Int),vs = [.ref p,.int r,.int c]/\C∈cs/\cF K C H p P fp/\0<=r/\r<P.rc.length/\0<=c/\c<P.rc.getD r.toNat 0/\
 ∀H',aj H H'->Q ((cM (ng P.nc) (kT (r,c))).getD .aP) H'
noncomputable def dN(z:List (Int×Int)):Int:=z.foldl (λp x=>p*x.2) 1
theorem range_getD{f:Nat->Int}{n i:Nat}(h:i<n):((List.range n).map f).getD i 0=f i:=by
 simp[List.getD_eq_getElem?_getD,h]
theorem abT{L:Int}(h:1<=L)(h8:L<=100000000){ns:List Int}(hb:∀x∈ns,L<=x/\x<=2*L)(hp:ns.Pairwise (·<=·))(h1:1<=ns.length):SwOk (0::ns) ((ns.length+1:Nat):Int):=by
 have at_:∀i:Nat,1<=i->i<(0::ns).length->∃hi:i - 1<ns.length,(0::ns).getD i 0=ns[i - 1]:=λi h1 hi=>by
  obtain⟨j,rfl⟩:∃j,i=j+1:=⟨i - 1,by lia⟩
  have hj:j<ns.length:=by simpa using hi
  exact⟨hj,by simp[List.getD_eq_getElem?_getD,List.getElem?_eq_getElem hj]⟩
 refine⟨by simp,by lia,rfl,λi h1 hi=>?_,λi h1 hi=>?_,λa b ha iz z_=>?_⟩
 ·obtain⟨hj,e⟩:=at_ i h1 hi;have:=hb _ (List.getElem_mem hj);rw[e];lia
 ·obtain⟨hj,e⟩:=at_ i h1 hi;rw[e];by_cases h2:i=1
  ·subst h2;have:=hb _ (List.getElem_mem hj)
   show (0:Int)<=_;lia
  ·obtain⟨GF,e2⟩:=at_ (i - 1) (by lia) (by lia)
   rw[e2];exact List.pairwise_iff_getElem.mp hp _ _ GF hj (by lia)
 ·obtain⟨h1,e1⟩:=at_ (a+b) (by lia) z_
  obtain⟨h2,e2⟩:=at_ a ha (by lia)
  obtain⟨h3,e3⟩:=at_ b iz (by lia)
  have:=hb _ (List.getElem_mem h1);have:=hb _ (List.getElem_mem h2);have:=hb _ (List.getElem_mem h3);rw[e1,e2,e3];lia
structure ZL(z:List (Int×Int)):Prop where
 ok:qA z
 pr:dN z<=32768
 sm:(z.map (·.1)).sum<=15
theorem prodF(z:List (Int×Int)):∀p:Int,z.foldl (λp x=>p*x.2) p=p*dN z:=by
 induction z with
 | nil=>intro p;simp[dN]
 | cons x z ih =>
  intro p;rw[dN,List.foldl_cons,List.foldl_cons,ih,ih (1*x.2),Int.one_mul,Int.mul_assoc]
theorem Qe(x:Int×Int)(z:List (Int×Int)):dN (x::z)=x.2*dN z:=by
 rw[dN,List.foldl_cons,prodF,Int.one_mul]
theorem abU(x:Int×Int)(z:List (Int×Int)):dN (z++[x])=dN z*x.2:=by
 rw[dN,List.foldl_append];rfl
theorem Aa{m:Int}(hm:1<=m):∀z:List (Int×Int),(∀p∈z,1<=p.2/\p.2<=m)->1<=dN z/\dN z<=m ^ z.length
 | [],_=>by simp[dN]
 | x::z,h=>by
  have ih:=Aa hm z λp hp=>h p (List.mem_cons_of_mem _ hp);have hx:=h x List.mem_cons_self;rw[Qe,List.length_cons,Int.pow_succ,Int.mul_comm (m ^ z.length)];constructor
  ·have:=Int.mul_le_mul hx.1 ih.1 (by decide) (by lia)
   lia
  ·exact Int.mul_le_mul hx.2 ih.2 (by lia) (by lia)
theorem Qf{x:Int×Int}:∀ {z:List (Int×Int)},x∈z->x.2 ∣ dN z
 | y::z,h=>by
  rw[Qe];rcases List.mem_cons.mp h with rfl | h
  ·exact Int.dvd_mul_right _ _
  ·exact Int.dvd_trans (Qf h) (Int.dvd_mul_left _ _)
theorem Qg{m:Int}(hm:1<=m){a b:Nat}(h:a<=b):m ^ a<=m ^ b:=by
 induction h with
 | refl=>exact Int.le_refl _
 | @step b h ih =>
  rw[Int.pow_succ];have h1:1<=m ^ b:=by
   clear ih h
   induction b with
   | zero=>simp
   | succ b ih =>
    rw[Int.pow_succ];have:=Int.mul_le_mul ih hm (by decide) (by lia)
    lia
  have:=Int.mul_le_mul (Int.le_refl (m ^ b)) hm (by decide) (by lia)
  lia
theorem ite_no{c A B:Prop}[Decidable c](h:¬ c)(b:B):if c then A else B:=by rw[if_neg h];exact b
theorem ite_yes{c A B:Prop}[Decidable c](h:c)(a:A):if c then A else B:=by rw[if_pos h];exact a
theorem abV{n:Nat}(h:0<n):gT n (-1)=some (n - 1):=by
 unfold gT;rw[if_neg (by decide),if_pos (by lia)]
 congr 1;lia
structure Qh(K:PySem.W.Frag)(C:Addr)(m:Str)(f:Addr):Prop where
 ga:PySem.W.specialIn K (.ref C) "__getattribute__" = some (some (.builtin "type.__getattribute__"))
 rd:PySem.W.readsIn K C (.type "type")=true
 at_:PySem.W.findCls K (.ref C) (.type "type") m=some (.val (.ref f))
 kp:PySem.W.keepIn K (.ref f)=true
section
variable{X:Cx}{CX:gS}{k:Nat}{f C:Addr}{fd:FuncData}{ps:List Str}{sp:Sp}{cC:List V}{ds:List Value}{E:XK}{x m:Str}{p pos apos:Pos}{e:Expr}{es:List Expr}{t:TA}
theorem abW{pl:Sem Bool}(hg:Gl X x)(hm:X.mg x=some (.ref C))(c:Qh X.K C m f)(F:aX X.prog X.w X.K X.mg X.base CX k f fd ps sp)(hr:cX k X.A)(hb:Binds X.K fd ps ds)(hd:Vals cC ds)(hx:Passes CX X E)(ha:PA X (e::es) t)
  (fu:starEach (e::es) X.env=(false,eval e X.env)::starEach es X.env:=by rfl) (iR:(backTo pos (starEach es X.env)).any (·.1)=false:=by rfl) (mS:(x == ("__debug__" : Str))=false:=by decide)
  (ht:eval (.Call (.Attribute (.Name x p) m apos) (e::es) [] pos) X.env=(do
   let ov ← eval (.Name x p) X.env
   standAt apos.atName
   let (f,first) ← holding [ov] (getMethod ov m pl)
   callWith pos f first (backTo pos (starEach (e::es) X.env)) (backToKw pos (keywordEach [] X.env))):=by rfl) :
  PE X (.Call (.Attribute (.Name x p) m apos) (e::es) [] pos) (rT sp cC E t):=by
 intro pins s σ H Q I h;refine PySem.W.methodCall_KW (pl:=pl) (zf I hg hm ?_ mS) ht;refine PySem.W.method_cls I.dJ c.ga (PySem.W.cls_value I.dJ c.rd c.at_ rfl ?_);have I':=I.tok (s.toks+1);refine PySem.W.callWith_K (first:=[]) (h₀:=X.base) I.ok.mod.rD c.kp (aU (ha pos pins _ σ H _ I' h) λus s2 ⟨vs,H2,I2,r,q2⟩=>⟨I2.dJ,?_⟩) fu iR
 exact zD (us:=us) (vs:=vs) F hr hb hd hx I2 r q2
end
section
variable{X:Cx}
end
section
variable{X:Cx}{pins:List (Addr×Obj)}{σ:St}{H:Hp}{s:Shared}
end
section
variable{X:Cx}
end
section
variable{K:PySem.W.Frag}{ta:TA}{g:TG}{D:Ends}{σ:St}{H:Hp}{tt:TT}{te:TE}{nt:Nat}{fv:List Nat}{Q:VK}
theorem rcE(a:Addr)(xs:List V)(Pv:Addr->Nat->List V->St->Hp->Prop)(fE:∀Q:List V->Hp->Prop,Q [.ref a] H->ta σ H Q)(cS:aA K H a xs)
  (h0:∀D,H D=none->Pv D 0 [] (iB σ nt fv) (upd H D (.lst []))) (hD:∀D i ys σ H,Pv D i ys σ H->H D=some (.lst ys)/\ys.length<sizeLine/\aA K H a xs)
  (hs:∀D i x ys aB H2 T (N:List V->St->Hp->Prop),(∀ys σ H,Pv D (i+1) ys σ H->N ys σ H)->xs[i]? = some x->Pv D i ys aB H2->H2 T=none->g (.ref T) aB (upd H2 T (.tup [.int i,x])) λcy H4=>tt cy H4 λb H5=>if b=true then te cy H5 λv H6=>H6 D=some (.lst ys)/\N (ys++[v]) cy (upd H6 D (.lst (ys++[v]))) else N ys cy H5)
  (hd:∀D ys aB H2,Pv D xs.length ys aB H2->Q (.ref D) H2):kI (zT K ta) g tt te nt fv σ H Q:=by
 refine fE _ ⟨a,rfl,⟨xs,cS⟩,λD m_=>?_⟩;refine⟨λi m ys aB H2=>m=xs.length - i/\i<=xs.length/\Pv D i ys aB H2,⟨_,rfl,Nat.zero_le _,h0 D m_⟩,?_⟩;rintro i m ys aB H2 ⟨rfl,iC,p⟩;obtain⟨d1,d2,d3⟩:=hD D i ys aB H2 p;refine⟨d1,d2,?_⟩;by_cases cj:i<xs.length
 ·refine .inr ⟨⟨xs,xs[i],d3,by simp[cj]⟩,λx H3 y=>?_⟩
  obtain⟨T,z,hT,e1,e2,e3⟩:=y;subst e1 e3;exact hs D i z ys aB H2 T (λys σ H=>NX xs.length i (Pv D (i+1) ys σ H)) (λ_ _ _ q=>NX.of cj q) (e2 xs d3) p hT
 ·have e:i=xs.length:=by lia
  subst e;exact .inl ⟨⟨xs,d3,Nat.le_refl _⟩,hd D ys aB H2 p⟩
end
theorem Qi{X:Cx}{K:PySem.W.Frag}{pos:Pos}{es:List Expr}{k n:Nat}{t:lM}(hK:X.K=K)(hc:X.calm=true)(h:rL X es t)(hn:(assignEach es X.env).length=n:=by rfl)(fu:(assignEach es X.env).findIdx? (·.1)=none:=by rfl):PG X (.Tuple es k pos) (p9 K n t):=hK▸ji hc h hn fu
noncomputable def sN(cs:List Addr)(m:Str)(sp:Sp)(cC:List V)(E:XK)(ta:TE)(t:TA):TE:=λσ H Q=>ta σ H λx H1=>∃C a dx fs,x = .ref a/\H1 a=some (.ins C dx fs)/\C∈cs/\fs.lookup m=none/\t σ H1 λvs H2=>sp (x::(vs++cC)) H2 Q E
section
variable{X:Cx}{CX:gS}{k:Nat}{f:Addr}{cs:List Addr}{fd:FuncData}{ps:List Str}{sp:Sp}{cC:List V}{ds:List Value}{E:XK}{m:Str}{pos apos:Pos}{o e:Expr}{es:List Expr}{ta:TE}{t:TA}
theorem kM{pl:Sem Bool}(ho:PE X o ta)(hc:∀C∈cs,cR X.K C/\Meth X.K C m f)(F:aX X.prog X.w X.K X.mg X.base CX k f fd ps sp)(hr:cX k X.A)(hb:Binds X.K fd ps ds)(hd:Vals cC ds)(hx:Passes CX X E)(ha:PA X (e::es) t)
  (fu:starEach (e::es) X.env=(false,eval e X.env)::starEach es X.env:=by rfl) (iR:(backTo pos (starEach es X.env)).any (·.1)=false:=by rfl)
  (GG:eval (.Call (.Attribute o m apos) (e::es) [] pos) X.env=(do
   let ov ← eval o X.env
   standAt apos.atName
   let (f,first) ← holding [ov] (getMethod ov m pl)
   callWith pos f first (backTo pos (starEach (e::es) X.env)) (backToKw pos (keywordEach [] X.env))):=by rfl):PE X (.Call (.Attribute o m apos) (e::es) [] pos) (sN cs m sp cC E ta t):=by
 intro pins s σ H Q I h;refine PySem.W.methodCall_KW (pl:=pl) (aU (ho pins s σ H _ I h) λu s1 hz=>?_) GG;obtain⟨x,H1,I1,rx,C,a,dx,fs,ex,ea,hC,hl,q⟩:=hz;subst ex;cases (show u=Value.ref a from rx);obtain⟨c1,c2⟩:=hc C hC;refine O5 I1 ea c1 c2 hl (PySem.W.callWith_K (first:=[.ref a]) (h₀:=X.base) I.ok.mod.rD c2.kp (aU (ha pos pins s1 σ H1 _ I1 q) λus s2 hw=>?_) fu iR)
 obtain⟨vs,H2,I2,r,q2⟩:=hw;exact⟨I2.dJ,zD (us:=.ref a::us) (vs:=.ref a::vs) F hr hb hd hx I2 (.cons rfl r) q2⟩
theorem wF{pl:Sem Bool}(ho:PE X o ta)(hc:∀C∈cs,cR X.K C/\Meth X.K C m f)(F:aX X.prog X.w X.K X.mg X.base CX k f fd ps sp)(hr:cX k X.A)(hb:Binds X.K fd ps ds)(hd:Vals cC ds)(hx:Passes CX X E)
  (GG:eval (.Call (.Attribute o m apos) [] [] pos) X.env=(do
   let ov ← eval o X.env
   standAt apos.atName
   let (f,first) ← holding [ov] (getMethod ov m pl)
   callWith pos f first (backTo pos (starEach [] X.env)) (backToKw pos (keywordEach [] X.env))):=by rfl):PE X (.Call (.Attribute o m apos) [] [] pos) (sN cs m sp cC E ta rS):=by
 intro pins s σ H Q I h;refine PySem.W.methodCall_KW (pl:=pl) (aU (ho pins s σ H _ I h) λu s1 hz=>?_) GG;obtain⟨x,H1,I1,rx,C,a,dx,fs,ex,ea,hC,hl,q⟩:=hz;subst ex;cases (show u=Value.ref a from rx);obtain⟨c1,c2⟩:=hc C hC;refine O5 I1 ea c1 c2 hl (PySem.W.callWith_K0 (first:=[.ref a]) I1.dJ c2.kp ?_)
 exact zD (us:=[.ref a]) (vs:=[.ref a]) F hr hb hd hx I1 (.cons rfl .nil) q
end
theorem GH{p q:Int×Int}(h:kT p=kT q):p=q:=by
 unfold kT at h;simp only[List.cons.injEq,Sum.inl.injEq,and_true] at h;exact Prod.ext h.1 h.2
theorem Qj{s:Int}:∀ {rc:List Int} {r:Nat} {q:Int×Int},q∈dY s r rc↔∃j:Nat,j<rc.length/\q.1=((r+j:Nat):Int)/\0<=q.2/\q.2<rc.getD j 0 - s
 | [],r,q=>by simp[dY]
 | c::rc,r,q=>by
  rw[dY,List.mem_append,Qj (rc:=rc) (r:=r+1)];constructor
  ·rintro(h | ⟨j,h1,h2,h3,h4⟩)
   ·obtain⟨k,hk,rfl⟩:=List.mem_map.mp h;rw[List.mem_range] at hk;exact⟨0,by simp,by simp,by dsimp only;lia,by simp only[List.getD_cons_zero];lia⟩
   ·exact⟨j+1,by simpa using h1,by rw[h2];congr 1;lia,h3,by simpa using h4⟩
  ·rintro⟨j,h1,h2,h3,h4⟩;cases j with
   | zero =>
    left;refine List.mem_map.mpr ⟨q.2.toNat,List.mem_range.mpr ?_,?_⟩
    ·simp only[List.getD_cons_zero] at h4;lia
    ·refine Prod.ext ?_ ?_
     ·rw[h2];simp
     ·dsimp only;lia
   | succ j =>
    right;exact⟨j,by simpa using h1,by rw[h2];congr 1;lia,h3,by simpa using h4⟩
theorem Qk{s:Int}:∀(rc:List Int) (r:Nat),(dY s r rc).Nodup
 | [],r=>List.nodup_nil
 | c::rc,r=>by
  rw[dY,List.nodup_append];refine⟨?_,Qk rc (r+1),?_⟩
  ·rw[List.nodup_iff_pairwise_ne,List.pairwise_map];refine List.Pairwise.imp ?_ (List.nodup_iff_pairwise_ne.mp List.nodup_range);intro a b h e;simp at e;lia
  ·intro x hx y hy e;subst e;obtain⟨k,_,rfl⟩:=List.mem_map.mp hx;obtain⟨j,_,h2,_⟩:=Qj.mp hy;simp at h2;lia
noncomputable def iV(az:List (List Key×V)):Nat->List (Int×Int)->List Int
 | _,[]=>[]
 | i,q::z=>if (cM az (kT q)).isSome=true then(i:Int)::iV az (i+1) z else iV az (i+1) z
theorem GI(az:List (List Key×V)):∀(z:List (Int×Int)) (i:Nat) (q:Int×Int),iV az i (z++[q])=iV az i z++(if (cM az (kT q)).isSome=true then [((i+z.length:Nat):Int)] else [])
 | [],i,q=>by simp[iV]
 | x::z,i,q=>by
  rw[List.cons_append,iV,iV,GI az z (i+1) q];have e:i+1+z.length=i+(x::z).length:=by simp;lia
  rw[e];split <;> simp
theorem GJ(az:List (List Key×V)):∀(z:List (Int×Int)) (i:Nat),(iV az i z).length<=z.length
 | [],i=>by simp[iV]
 | x::z,i=>by
  have:=GJ az z (i+1);rw[iV];split <;> simp <;> lia
noncomputable def abX(K:PySem.W.Frag):Sp:=λvs H Q _=>∃(a:Addr) (rc:List Int) (s:Int),vs = [.int s,.ref a]/\aA K H a (rc.map V.int)/\0<rc.length/\0<=s/\(∀c∈rc,s<c)/\Q .aP H
noncomputable def cG(z:List (Int×Int)):List (List Key×V):=z.map λq=>(kT q,V.bl true)
theorem wG{z:List (Int×Int)}{q:Int×Int}(h:q∉z):cM (cG z) (kT q)=none:=by
 induction z with
 | nil=>rfl
 | cons x z ih =>
  rw[cG,List.map_cons,jt,← cG,ih λm=>h (List.mem_cons_of_mem _ m)];intro e;exact h (GH e▸List.mem_cons_self)
theorem GK{z:List (Int×Int)}{q:Int×Int}(h:q∈z):cM (cG z) (kT q)=some (.bl true):=by
 induction z with
 | nil=>cases h
 | cons x z ih =>
  by_cases e:x=q
  ·subst e;rw[cG,List.map_cons,jI rfl]
  ·rw[cG,List.map_cons,jt (λz=>e (GH z)),← cG];exact ih ((List.mem_cons.mp h).resolve_left λz=>e z.symm)
noncomputable def abY(K:PySem.W.Frag)(cs:List Addr):Sp:=λvs H Q _=>∃(C p ba:Addr) (P:Pl) (fp iW:List Addr) (bz:List (Int×Int)),vs = [.ref p,.ref ba]/\C∈cs/\cF K C H p P fp/\Zn H ba iW bz/\bz.length<=1000000/\bz.Nodup/\
 (∀q∈bz,0<=q.1/\q.1<P.rc.length/\0<=q.2/\q.2<P.rc.getD q.1.toNat 0)/\∀d H',aj H H'->H d=none->H' d=some (.dT (cG bz))->Q (.ref d) H'
noncomputable def abZ(K:PySem.W.Frag):Sp:=λvs H Q _=>∃(a d:Addr) (ts:List Addr) (z:List (Int×Int)) (az:List (List Key×V)),vs = [.ref a,.ref d]/\Zn H a ts z/\z.length<=1000000/\H d=some (.dT az)/\
 ∀l H',aj H H'->H l=none->H' l=some (.lst ((iV az 0 z).map V.int))->Q (.ref l) H'
noncomputable def GL(K:PySem.W.Frag)(C:Addr)(H:Hp)(p:Addr)(P:Pl)(fp:List Addr)(mv:Addr)(ms:List V):Prop :=
 ∃dx a1 a2 a3 a4 ts fs,fp=a1::a2::a3::a4::ts/\ni K C H p P dx a1 a2 a3 a4 ts fs/\bQ K C "moves"/\fs.lookup ("moves" : Str)=some (.ref mv)/\H mv=some (.lst ms)
theorem GL.ab0{K:PySem.W.Frag}{C:Addr}{H:Hp}{p:Addr}{P:Pl}{fp:List Addr}{mv:Addr}{ms:List V}(h:GL K C H p P fp mv ms):cF K C H p P fp:=by
 obtain⟨dx,a1,a2,a3,a4,ts,fs,e,h,_⟩:=h;exact⟨dx,a1,a2,a3,a4,ts,fs,e,h⟩
section
variable{K:PySem.W.Frag}{C:Addr}{H H':Hp}{p:Addr}{P:Pl}{fp:List Addr}{mv:Addr}{ms:List V}
end
structure Zt(H:Hp)(a:Addr)(ts:List Addr)(z:List (List Int)):Prop where
 l:H a=some (.lst (ts.map V.ref))
 n:ts.length=z.length
 t:∀(i:Nat) (t:Addr) (r:List Int),ts[i]? = some t->z[i]? = some r->H t=some (.tup (r.map V.int))
section
variable{H H':Hp}{a:Addr}{ts:List Addr}{z:List (List Int)}
theorem Zt.at(h:Zt H a ts z){i:Nat}(hi:i<z.length):∃t,(ts.map V.ref)[i]? = some (.ref t)/\H t=some (.tup ((z.getD i []).map V.int)):=by
 have ht:i<ts.length:=by rw[h.n];exact hi
 refine⟨ts[i],by simp[ht],h.t i _ _ (List.getElem?_eq_getElem ht) ?_⟩
 simp[List.getD_eq_getElem?_getD,List.getElem?_eq_getElem hi]
theorem Zt.start{l:Addr}:Zt (upd H l (.lst [])) l [] []:=⟨aD,rfl,λi t r e=>by simp at e⟩
theorem Zt.snoc{l p:Addr}(h:Zt H l ts z)(hp:H p=none)(r:List Int):Zt (upd (upd H p (.tup (r.map V.int))) l (.lst (ts.map V.ref++[V.ref p]))) l (ts++[p]) (z++[r]):=by
 have wD:l≠p:=bO h.l hp;refine⟨by rw[aD,List.map_append];rfl,by simp[h.n],λi t q e1 e2=>?_⟩
 have hn:=h.n;by_cases hi:i<ts.length
 ·rw[List.getElem?_append_left hi] at e1;rw[List.getElem?_append_left (by lia)] at e2
  have ht:=h.t i t q e1 e2;rw[aI (gQ ht h.l (by intro z;cases z)),aI (bO ht hp)]
  exact ht
 ·rw[List.getElem?_append_right (by lia)] at e1
  rw[List.getElem?_append_right (by lia)] at e2
  have cO:i - ts.length=0:=by
   have:=Qc e1;simp at this;lia
  rw[cO] at e1;rw[← hn,cO] at e2;simp at e1 e2;subst e1 e2;rw[aI wD.symm,aD]
theorem Zn.start{l:Addr}:Zn (upd H l (.lst [])) l [] []:=⟨aD,rfl,λi t r e=>by simp at e⟩
end
section
variable{ta:TA}{g:TG}{tt:TT}{te:TE}{nt:Nat}{fv:List Nat}{Q:VK}{σ:St}{H:Hp}
theorem Ab(n:Int)(Pv:Addr->Nat->List V->St->Hp->Prop)(fE:∀Q:List V->Hp->Prop,Q [.int n] H->ta σ H Q)(b1 : -1000000000000<n)(b2:n<1000000000000)
  (h0:∀D,H D=none->Pv D 0 [] (iB σ nt fv) (upd H D (.lst []))) (hD:∀D i ys σ H,Pv D i ys σ H->H D=some (.lst ys)/\ys.length<sizeLine)
  (hs:∀D i ys aB H2 (N:List V->St->Hp->Prop),(∀ys σ H,Pv D (i+1) ys σ H->N ys σ H)->i<n.toNat->Pv D i ys aB H2->g (.int (i:Int)) aB H2 λcy H4=>tt cy H4 λb H5=>if b=true then te cy H5 λv H6=>H6 D=some (.lst ys)/\N (ys++[v]) cy (upd H6 D (.lst (ys++[v]))) else N ys cy H5)
  (hd:∀D ys aB H2,Pv D n.toNat ys aB H2->Q (.ref D) H2):kI (u7 ta) g tt te nt fv σ H Q:=by
 refine fE _ ⟨n,rfl,by lia,by lia,λD m_=>?_⟩
 refine⟨λi m ys aB H2=>m=n.toNat - i/\i<=n.toNat/\Pv D i ys aB H2,⟨_,rfl,Nat.zero_le _,h0 D m_⟩,?_⟩;rintro i m ys aB H2 ⟨rfl,iC,p⟩;obtain⟨d1,d2⟩:=hD D i ys aB H2 p;refine⟨d1,d2,?_⟩;by_cases cj:i<n.toNat
 ·refine .inr ⟨cj,λx H3 y=>?_⟩;obtain⟨e1,e2⟩:=y;subst e1 e2;have e2:(0:Int)+(i:Int)=i:=by lia
  rw[e2];exact hs D i ys aB _ _ (λ_ _ _ z=>NX.of cj z) cj p
 ·have e:i=n.toNat:=by lia
  subst e;exact .inl ⟨Nat.le_refl _,hd D ys aB H2 p⟩
end
structure dZ(P:Pl):Prop where
 n2:2<=P.rc.length
 n1:P.rc.length<=1000
 c:∀i:Nat,i<P.rc.length->1<=P.rc.getD i 0/\P.rc.getD i 0<=1000
 ao:1<=P.ao
 sw:SwOk P.sw P.rc.length
noncomputable def lX(P:Pl)(r c:Int):Int:=(c*(P.ao / P.rc.getD r.toNat 0)+r*P.bY) % P.ao
noncomputable def iD(P:Pl)(r c b:Int):Int:=b+(lX P r c - b) % P.ao
noncomputable def oV(P:Pl)(s q:Int×Int):Int:=iD P q.1 q.2 (s.2+P.sw.getD (s.1 - q.1).natAbs 0)
noncomputable def cT(P:Pl)(s q:Int×Int):Int×Int:=(q.1,oV P s q+P.ao / P.rc.getD q.1.toNat 0)
noncomputable def nj(P:Pl)(s q:Int×Int):List Int:=[q.1,q.2,oV P s q,(cT P s q).2]
noncomputable def aW(P:Pl):Int×Int->List (Int×Int)->Int×Int
 | s,[]=>s
 | s,q::r=>aW P (cT P s q) r
noncomputable def dh(P:Pl):Int×Int->List (Int×Int)->List (List Int)
 | _,[]=>[]
 | s,q::r=>nj P s q::dh P (cT P s q) r
theorem sO(P:Pl)(q:Int×Int):∀(xs:List (Int×Int)) (s:Int×Int),aW P s (xs++[q])=cT P (aW P s xs) q
 | [],s=>rfl
 | x::xs,s=>sO P q xs (cT P s x)
theorem sP(P:Pl)(q:Int×Int):∀(xs:List (Int×Int)) (s:Int×Int),dh P s (xs++[q])=dh P s xs++[nj P (aW P s xs) q]
 | [],s=>rfl
 | x::xs,s=>by rw[List.cons_append,dh,sP P q xs,dh];rfl
theorem kN(P:Pl):∀(xs:List (Int×Int)) (s:Int×Int),(dh P s xs).length=xs.length
 | [],s=>rfl
 | x::xs,s=>by rw[dh,List.length_cons,kN P xs,List.length_cons]
theorem Ql(P:Pl):∀(xs:List (Int×Int)) (s:Int×Int) (r:List Int),r∈dh P s xs->r.length=4
 | [],s,r,h=>by cases h
 | x::xs,s,r,h=>by
  rcases List.mem_cons.mp h with rfl | hr
  ·rfl
  ·exact Ql P xs _ r hr
theorem ab1(P:Pl)(s:Int×Int){xs:List (Int×Int)}(h:xs≠[]):∃a b,(dh P s xs).getD (xs.length - 1) [] = [(aW P s xs).1,a,b,(aW P s xs).2]:=by
 obtain⟨ys,q,rfl⟩:∃ys q,xs=ys++[q]:=⟨xs.dropLast,xs.getLast h,(List.dropLast_concat_getLast h).symm⟩;rw[sP,sO,List.getD_eq_getElem?_getD,List.getElem?_append_right (by rw[kN];simp),kN]
 exact⟨_,_,by simp[nj,cT];exact⟨rfl,rfl⟩⟩
theorem iX(P:Pl){n:Int}:∀(xs:List (Int×Int)) (s:Int×Int),0<=s.1->s.1<n->(∀q∈xs,0<=q.1/\q.1<n)->0<=(aW P s xs).1/\(aW P s xs).1<n
 | [],s,h0,h1,_=>⟨h0,h1⟩
 | x::xs,s,h0,h1,h=>iX P xs (cT P s x) (h x List.mem_cons_self).1 (h x List.mem_cons_self).2 λq hq=>h q (List.mem_cons_of_mem _ hq)
noncomputable def gg(P:Pl)(z:List (Int×Int)):Prop:=∀q∈z,0<=q.1/\q.1<P.rc.length/\0<=q.2/\q.2<=1000
noncomputable def ab2(K:PySem.W.Frag)(cs:List Addr):Sp:=λvs H Q _=>∃(C p:Addr) (P:Pl) (fp:List Addr) (r c b:Int),vs = [.ref p,.int r,.int c,.int b]/\C∈cs/\cF K C H p P fp/\dZ P/\0<=r/\r<P.rc.length/\0<=c/\c<=1000/\Q (.int (iD P r c b)) H
noncomputable def ab3(K:PySem.W.Frag)(cs:List Addr):Sp:=λvs H Q _=>∃(C p:Addr) (P:Pl) (fp:List Addr) (r b:Int) (ca:Addr) (bu:List Addr) (cz:List (Int×Int)),vs = [.ref p,.int r,.int b,.ref ca]/\C∈cs/\cF K C H p P fp/\dZ P/\0<=r/\r<P.rc.length/\
 Zn H ca bu cz/\gg P cz/\cz.length<=1000/\∀l ts H',aj H H'->H l=none->(∀t∈ts,H t=none)->Zt H' l ts (dh P (r,b) cz)->Q (.ref l) H'
noncomputable def ab4(K:PySem.W.Frag)(cs:List Addr):Sp:=λvs H Q _=>∃(C p:Addr) (P:Pl) (fp:List Addr) (r b:Int) (ca:Addr) (bu:List Addr) (cz:List (Int×Int)),vs = [.ref p,.int r,.int b,.ref ca]/\C∈cs/\cF K C H p P fp/\dZ P/\0<=r/\r<P.rc.length/\
 Zn H ca bu cz/\gg P cz/\cz.length<=1000/\∀t H',aj H H'->H t=none->H' t=some (.tup [.int (aW P (r,b) cz).1,.int (aW P (r,b) cz).2])->Q (.ref t) H'
theorem ab5{z:List (Int×Int)}(zl:ZL z){ao sk:Int}{sw:List Int}{nc:List (Int×Int)}(l1:1<=ao)(so:SwOk sw (z.map (·.1)).sum):dZ ⟨counts z,ao,sk,sw,nc⟩:=by
 have cl:=oR z λp hp=>(zl.ok.r p hp).1;have GN:=zl.sm;have c2:=zl.ok.s2;refine⟨by dsimp only;lia,by dsimp only;lia,λi hi=>?_,l1,by dsimp only;rw[cl];exact so⟩
 obtain⟨y,hy,e⟩:=oU (get_mem (wC (counts z) hi));have:=zl.ok.r y hy;dsimp only;lia
theorem Ac{P:Pl}(ok:dZ P)(r c b:Int):b<=iD P r c b/\iD P r c b<b+P.ao:=by
 have:=ok.ao;have h1:=Int.emod_nonneg (lX P r c - b) (show P.ao≠0 by lia)
 have h2:=Int.emod_lt_of_pos (lX P r c - b) (show 0<P.ao by lia)
 unfold iD;lia
theorem ab6{P:Pl}(ok:dZ P)(r c b:Int):iD P r c b % P.ao=lX P r c:=by
 have:=ok.ao;unfold iD;rw[Int.add_emod,Int.emod_emod_of_dvd _ (Int.dvd_refl _),← Int.add_emod];have e:b+(lX P r c - b)=lX P r c:=by lia
 rw[e];unfold lX;exact Int.emod_emod_of_dvd _ (Int.dvd_refl _)
theorem ab7{P:Pl}(ok:dZ P)(r c b t:Int)(hb:b<=t)(ht:t % P.ao=lX P r c):iD P r c b<=t:=by
 have hl:=ok.ao;have e:(lX P r c - b) % P.ao=(t - b) % P.ao:=by rw[← ht,Int.sub_emod,Int.emod_emod_of_dvd _ (Int.dvd_refl _),← Int.sub_emod]
 have h1:=Int.emod_add_mul_ediv (t - b) P.ao;have h2:=Int.ediv_nonneg (show 0<=t - b by lia) (show 0<=P.ao by lia)
 have h3:=Int.mul_nonneg (show 0<=P.ao by lia) h2
 unfold iD;rw[e];lia
theorem ab8{P:Pl}(ok:dZ P)(r c:Int){b b':Int}(h:b<=b'):iD P r c b<=iD P r c b':=ab7 ok r c b _ (Int.le_trans h (Ac ok r c b').1) (ab6 ok r c b')
section
variable{α:Type}{lt:α->α->Prop}
structure Ord(lt:α->α->Prop):Prop where
 as:∀ {a b},lt a b->¬ lt b a
 tr:∀ {a b c},¬ lt b a->¬ lt c b->¬ lt c a
theorem Ord.ir(o:Ord lt)(a:α):¬ lt a a:=λh=>o.as h h
noncomputable def par(i:Nat):Nat:=(i - 1) / 2
noncomputable def ab9(lt:α->α->Prop)(n k:Nat)(f:Nat->α):Prop:=∀i,1<=i->i<n->i≠k->¬ lt (f i) (f (par i))
noncomputable def ab_(lt:α->α->Prop)(n k:Nat)(f:Nat->α):Prop:=∀i,1<=i->i<n->par i≠k->¬ lt (f i) (f (par i))
noncomputable def gW(lt:α->α->Prop)(n:Nat)(f:Nat->α):Prop:=∀i,1<=i->i<n->¬ lt (f i) (f (par i))
noncomputable def put(f:Nat->α)(k:Nat)(x:α):Nat->α:=λi=>if i=k then x else f i
theorem jv(f:Nat->α)(k:Nat)(x:α):put f k x k=x:=by simp[put]
theorem eK{f:Nat->α}{k i:Nat}{x:α}(h:i≠k):put f k x i=f i:=by simp[put,h]
structure Up(lt:α->α->Prop)(n k:Nat)(f:Nat->α)(x:α):Prop where
 h:ab9 lt n k (put f k x)
 g:1<=k->∀i,i<n->1<=i->par i=k->¬ lt (f i) (f (par k))
 d:∀i,1<=i->i<n->par i=k->¬ lt (f i) x
theorem kO{i:Nat}(h:1<=i):par i<i:=by unfold par;lia
theorem Up.step(o:Ord lt){n k:Nat}{f:Nat->α}{x:α}(u:Up lt n k f x)(h1:1<=k)(hk:k<n)(hx:lt x (f (par k))):Up lt n (par k) (put f k (f (par k))) x:=by
 have pk:=kO h1;have e0:∀i,i≠k->i≠par k->put (put f k (f (par k))) (par k) x i=f i:=λi a b=>by rw[eK b,eK a]
 have ek:put (put f k (f (par k))) (par k) x k=f (par k):=by rw[eK (by lia),jv]
 have oW:∀i,1<=i->i<n->i≠k->par i≠k->¬ lt (f i) (f (par i)):=λi a b c d=>by
  have:=u.h i a b c;rwa [eK c,eK d] at this
 refine⟨λi hi hn eB=>?_,λhp i hn hi e=>?_,λi hi hn e=>?_⟩
 ·by_cases gX:i=k
  ·subst gX;rw[ek,jv];exact o.as hx
  ·rw[e0 i gX eB];by_cases h2:par i=k
   ·rw[h2,ek];exact u.g h1 i hn hi h2
   ·by_cases h3:par i=par k
    ·rw[h3,jv];have:=oW i hi hn gX h2;rw[h3] at this;exact o.tr (o.as hx) this
    ·rw[e0 _ h2 h3];exact oW i hi hn gX h2
 ·have pp:=kO hp;rw[eK (f:=f) (k:=k) (show par (par k)≠k by lia)]
  have h4:¬ lt (f (par k)) (f (par (par k))):=oW (par k) hp (by lia) (by lia) (by lia)
  by_cases gX:i=k
  ·subst gX;rw[jv];exact h4
  ·rw[eK gX];have:=oW i hi hn gX (by lia)
   rw[e] at this;exact o.tr h4 this
 ·by_cases gX:i=k
  ·subst gX;rw[jv];exact o.as hx
  ·rw[eK gX];have:=oW i hi hn gX (by lia)
   rw[e] at this;exact o.tr (o.as hx) this
theorem Up.done{n k:Nat}{f:Nat->α}{x:α}(u:Up lt n k f x)(h:1<=k->¬ lt x (f (par k))):gW lt n (put f k x):=by
 intro i hi hn;by_cases e:i=k
 ·subst e;have:=kO hi;rw[jv,eK (by lia)]
  exact h hi
 ·exact u.h i hi hn e
structure Down(lt:α->α->Prop)(n k:Nat)(f:Nat->α)(x:α):Prop where
 h:ab_ lt n k (put f k x)
 g:1<=k->∀i,i<n->1<=i->par i=k->¬ lt (f i) (f (par k))
structure oX(lt:α->α->Prop)(n k c:Nat)(f:Nat->α):Prop where
 p:c=2*k+1\/c=2*k+2
 m:c<n->∀i,1<=i->i<n->par i=k->¬ lt (f i) (f c)
 out:n<=c->∀i,1<=i->i<n->par i≠k
theorem oX.of(o:Ord lt){n k:Nat}{f:Nat->α}:(2*k+1+1<n/\lt (f (2*k+1+1)) (f (2*k+1))->oX lt n k (2*k+1+1) f)/\(¬ (2*k+1+1<n/\lt (f (2*k+1+1)) (f (2*k+1)))->oX lt n k (2*k+1) f):=by
 have two:∀i,1<=i->par i=k->i=2*k+1\/i=2*k+1+1:=λi h1 h=>by unfold par at h;lia
 constructor
 ·rintro⟨h1,h2⟩;refine⟨by lia,λ_ i hi hn e=>?_,λh i hi hn e=>?_⟩
  ·rcases two i hi e with rfl | rfl
   ·exact o.as h2
   ·exact o.ir _
  ·lia
 ·intro h;refine⟨by lia,λhc i hi hn e=>?_,λh i hi hn e=>?_⟩
  ·rcases two i hi e with rfl | rfl
   ·exact o.ir _
   ·exact λz=>h ⟨hn,z⟩
  ·rcases two i hi e with rfl | rfl <;> lia
theorem Down.step(o:Ord lt){n k c:Nat}{f:Nat->α}{x:α}(u:Down lt n k f x)(L:oX lt n k c f)(hc:c<n)(hx:lt (f c) x):Down lt n c (put f k (f c)) x:=by
 have pc:par c=k:=by unfold par;rcases L.p with e | e <;> lia
 have kc:k<c:=by rcases L.p with e | e <;> lia
 have oW:∀i,1<=i->i<n->i≠k->par i≠k->¬ lt (f i) (f (par i)):=λi a b c d=>by
  have:=u.h i a b d;rwa [eK c,eK d] at this
 refine⟨λi hi hn eB=>?_,λh1 i hn hi e=>?_⟩
 ·have pi:=kO hi;by_cases Qm:i=c
  ·subst Qm;rw[jv,pc,eK (by lia),jv]
   exact o.as hx
  ·rw[eK Qm,eK eB];by_cases gX:i=k
   ·subst gX;rw[jv,eK (by lia)]
    have:=u.g hi c hc (by lia) pc
    exact this
   ·rw[eK gX];by_cases h2:par i=k
    ·rw[h2,jv];exact L.m hc i hi hn h2
    ·rw[eK h2];exact oW i hi hn gX h2
 ·have pi:=kO hi;rw[pc,jv,eK (by lia)]
  have:=oW i hi hn (by lia) (by lia)
  rwa [e] at this
theorem Down.done(o:Ord lt){n k c:Nat}{f:Nat->α}{x:α}(u:Down lt n k f x)(L:oX lt n k c f)(h:¬ (c<n/\lt (f c) x)):gW lt n (put f k x):=by
 intro i hi hn;have pi:=kO hi;by_cases e:par i=k
 ·rw[e,jv,eK (by lia)]
  by_cases hc:c<n
  ·exact o.tr (λz=>h ⟨hc,z⟩) (L.m hc i hi hn e)
  ·exact absurd e (L.out (by lia) i hi hn)
 ·exact u.h i hi hn e
theorem gW.least(o:Ord lt){n:Nat}{f:Nat->α}(h:gW lt n f):∀i,i<n->¬ lt (f i) (f 0):=by
 intro i
 induction i using Nat.strongRecOn with
 | _ i ih =>
  intro hi;by_cases h0:i=0
  ·subst h0;exact o.ir _
  ·exact o.tr (ih (par i) (kO (by lia)) (by have:=kO (show 1<=i by lia);lia)) (h i (by lia) hi)
end
theorem Ord.of{α:Type}{lt:α->α->Prop}(ir:∀a,¬ lt a a)(tr:∀a b c,lt a b->lt b c->lt a c)(qB:∀a b,lt a b\/a=b\/lt b a):Ord lt:=by
 refine⟨λ{a b} h1 h2=>ir a (tr _ _ _ h1 h2),λ{a b c} h1 h2 h3=>?_⟩;rcases qB a b with h | h | h
 ·exact h2 (tr _ _ _ h3 h)
 ·subst h;exact h2 h3
 ·exact h1 h
theorem Ad:∀a:List Int,¬ _H.lexLt a a=true
 | []=>by simp[_H.lexLt]
 | x::a=>by simpa[_H.lexLt] using Ad a
theorem Qn:∀a b c:List Int,_H.lexLt a b=true->_H.lexLt b c=true->_H.lexLt a c=true
 | [],b,[],h1,h2=>by cases b <;> simp[_H.lexLt] at h1 h2
 | [],b,z::c,h1,h2=>by simp[_H.lexLt]
 | x::a,[],c,h1,h2=>by simp[_H.lexLt] at h1
 | x::a,y::b,[],h1,h2=>by simp[_H.lexLt] at h2
 | x::a,y::b,z::c,h1,h2=>by
  simp only[_H.lexLt] at h1 h2 ⊢;by_cases e1:x=y
  ·rw[if_pos e1] at h1;by_cases e2:y=z
   ·rw[if_pos e2] at h2;rw[if_pos (by lia)];exact Qn a b c h1 h2
   ·rw[if_neg e2] at h2;simp at h2;rw[if_neg (by lia)];simp;lia
  ·rw[if_neg e1] at h1;simp at h1;by_cases e2:y=z
   ·rw[if_neg (by lia)];simp;lia
   ·rw[if_neg e2] at h2;simp at h2;rw[if_neg (by lia)];simp;lia
theorem Qo:∀a b:List Int,_H.lexLt a b=true\/a=b\/_H.lexLt b a=true
 | [],[]=>.inr (.inl rfl)
 | [],_::_=>.inl rfl
 | _::_,[]=>.inr (.inr rfl)
 | x::a,y::b=>by
  simp only[_H.lexLt,List.cons.injEq];by_cases e:x=y
  ·subst e;simpa using Qo a b
  ·rw[if_neg e,if_neg (λz=>e z.symm)];simp;lia
noncomputable abbrev Th:=Int×List Int×Int
noncomputable def GO(a b:Th):Prop:=a.1<b.1\/(a.1=b.1/\(_H.lexLt a.2.1 b.2.1=true\/(a.2.1=b.2.1/\a.2.2<b.2.2)))
theorem Qp{α:Type}:∀ {l:List α} {k:Nat} (h:k<l.length),(l[k]::l.eraseIdx k).Perm l
 | x::l,0,_=>.refl _
 | x::l,k+1,h=>by
  have ih:=Qp (l:=l) (k:=k) (by simpa using h)
  exact(List.Perm.swap _ _ _).trans (ih.cons x)
theorem sQ{α:Type}:∀ {l:List α} {k:Nat} (h:k<l.length) (x:α),(l.set k x).Perm (x::l.eraseIdx k)
 | y::l,0,_,x=>.refl _
 | y::l,k+1,h,x=>by
  have ih:=sQ (l:=l) (k:=k) (by simpa using h) x
  exact(ih.cons y).trans (List.Perm.swap _ _ _)
theorem Qq{α:Type}{l:List α}{k p:Nat}(hk:k<l.length)(hp:p<l.length)(hn:p≠k):((l.set k l[p]).eraseIdx p).Perm (l.eraseIdx k):=by
 have h1:(l[p]::(l.set k l[p]).eraseIdx p).Perm (l.set k l[p]):=by
  have:=Qp (l:=l.set k l[p]) (k:=p) (by simpa using hp)
  rwa [List.getElem_set_ne (λz=>hn z.symm)] at this
 exact(h1.trans (sQ hk l[p])).cons_inv
theorem acd{α:Type}{l:List α}{x:α}:((l++[x]).eraseIdx l.length).Perm l:=by
 rw[List.eraseIdx_append_of_length_le (Nat.le_refl _)];simp
section
open PySem.SeqAt PySem.MeetsSeq PySem.MeetsSeq2 PySem.MeetsSeq3
open PySem.AutoSeq1 (wpAny_loadPart')
inductive qC (A:Around) (s:Shared):List (Value×Value)->List (Bool×Bool)->Prop
 | nil:qC A s [] []
 | cons {u v:Value} {e b:Bool} {r:List (Value×Value)} {ds:List (Bool×Bool)} (he:EqAt A s u v e)
   (hb:e=false->∀(prog:Program) (w:World) (E Q:Value->Shared->Prop),Q (.bool b) s->wpAny (model prog w) A (richCompare .Lt u v) Q E s) (t:qC A s r ds):qC A s ((u,v)::r) ((e,b)::ds)
noncomputable def kP:List (Bool×Bool)->Bool
 | []=>false
 | (e,b)::r=>if e then kP r else b
theorem ace(l b:Addr)(xs ys:Array Value)(c c2:Nat)(dd lT:Option Addr)(sl jE:Array (Option Value))(hz:xs.size=ys.size) :
  Meets (Builtin.«tuple.__lt__» ⟨[.ref l,.ref b],[]⟩)
   (λA R s=>s.heap.get? l=some { cls:=.type "tuple",dict:=dd,data:=.seq xs c,slots:=sl }/\s.heap.get? b=some { cls:=.type "tuple",dict:=lT,data:=.seq ys c2,slots:=jE }/\
    ∃ds,qC A.in1 s (xs.toList.zip ys.toList) ds/\R (.ok (.ret (.bool (kP ds)))) s) :=
 .of_wp λprog w A R s h=>by
  obtain⟨hp,g,d,tk,os⟩:=s;obtain⟨hl,hb,ds,hd,hR⟩:=h;have sub:=AutoSeq1.sub_tuple_tuple;wp_walk using wpAny_loadPart' hl,wpAny_loadPart' hb,wpAny_forIn_list _ (λrest st s'=>st.1=none/\s' = ⟨hp,g,d,tk,os⟩/\∃kQ,qC A.in1 s' rest kQ/\R (.ok (.ret (.bool (kP kQ)))) s') _
  case turn =>
   rintro⟨y,x⟩ rest st s' ⟨fu,rfl,kQ,eF,Ae⟩;cases eF with
   | @cons _ _ e b _ ds2 he iz t =>
    refine wpAny_bind (he prog w _ _ ?_);cases e with
    | true =>
     wp_walk;exact⟨rfl,rfl,ds2,t,by simpa[kP] using Ae⟩
    | false =>
     have FQ:=iz rfl prog w;wp_walk using FQ;exact⟨_,rfl,by simpa[kP] using Ae⟩
  case fin =>
   rintro⟨b1,b2⟩ s' ⟨fu,rfl,kQ,eF,Ae⟩;simp only at fu;subst fu;cases eF;wp_walk;exact⟨_,rfl,by simpa[Builtin.Tuple.tupleCompareSizes,hz,kP] using Ae⟩
  case h=>exact⟨rfl,rfl,ds,hd,hR⟩
end
section
variable{prog:Program}{w:World}{A:Around}{E:Value->Shared->Prop}{s:Shared}
theorem acf{l b:Addr}{xs ys:Array Value}{ds:List (Bool×Bool)}{Q:Value->Shared->Prop}(hl:IsTup s.heap l xs)(hb:IsTup s.heap b ys)(hz:xs.size=ys.size)
  (hu:A.units<cLine) (hd:qC A.in1 s (xs.toList.zip ys.toList) ds) (h:Q (.bool (kP ds)) s):wpAny (model prog w) A (richCompare .Lt (.ref l) (.ref b)) Q E s:=by
 obtain⟨⟨k1,d1,data1,sl1⟩,ho,hc,n,nq⟩:=id hl;obtain⟨⟨k2,d2,data2,jE⟩,fM,jo,n2,hd2⟩:=id hb;simp only at hc nq jo hd2;subst hc nq jo hd2;exact richCompare_meets_room (op:=.Lt) ⟨_,ho,rfl⟩ ⟨_,fM,rfl⟩ PySem.F.slot_tuple_lt PySem.F.entry_tuple_lt (PySem.F.args_tuple_lt_2 _ _) (ace l b xs ys n n2 d1 d2 sl1 jE hz)
  ⟨ho,fM,ds,hd,show Value.bool (kP ds)≠Value.notImplemented/\Q (.bool (kP ds)) s from⟨(λx=>nomatch x),h⟩⟩ hu
end
noncomputable def GP(H:Hp)(a:Addr)(t:Th):Prop:=∃p,H a=some (.tup [.int t.1,.ref p,.int t.2.2])/\H p=some (.tup (t.2.1.map V.int))
theorem Qs:∀ {ns ms:List Int},ns.map V.int=ms.map V.int->ns=ms
 | [],[],_=>rfl
 | [],_::_,h=>by cases h
 | _::_,[],h=>by cases h
 | a::r,b::q,h=>by
  rw[List.map_cons,List.map_cons] at h;injection h with h1 h2;injection h1 with h1;rw[h1,Qs h2]
noncomputable instance (a b:Th):Decidable (GO a b):=by unfold GO;infer_instance
section
variable{X:Cx}{pins:List (Addr×Obj)}{σ:St}{H:Hp}{s:Shared}
theorem Qt(I:Inv X pins σ H s){A:Around}(hu:A.units+1<cLine){p q:Addr}{ns ms:List Int}(h:H p=some (.tup (ns.map V.int)))(h':H q=some (.tup (ms.map V.int))):SeqAt.EqAt A s (.ref p) (.ref q) (decide (ns=ms)):=by
 by_cases e:p=q
 ·subst e;have:ns=ms:=by
   have z:=h.symm.trans h';injection z with z;injection z with z;exact Qs z
  rw[decide_eq_true this];exact .same _
 ·refine .of_refs e ?_;obtain⟨aC,r1,q1,_⟩:=I.tuple (aL.of (K:=X.K) h);obtain⟨fB,r2,q2,_⟩:=I.tuple (aL.of (K:=X.K) h');have l1:ns.length=aC.length:=by have:=r1.length;simpa using this
  have l2:ms.length=fB.length:=by have:=r2.length;simpa using this
  have e0:((List.range (min aC.toArray.size fB.toArray.size)).all (λj=>decide (ns[j]? = ms[j]?)) && aC.toArray.size == fB.toArray.size)=decide (ns=ms):=by
   rw[Bool.eq_iff_iff];simp only[Bool.and_eq_true,List.all_eq_true,List.mem_range,decide_eq_true_eq,beq_iff_eq,List.size_toArray];constructor
   ·rintro⟨h1,h2⟩;refine List.ext_getElem? λj=>?_
    by_cases hj:j<min aC.length fB.length
    ·exact h1 j hj
    ·rw[List.getElem?_eq_none (by lia),List.getElem?_eq_none (by lia)]
   ·rintro rfl;exact⟨λ_ _=>rfl,by lia⟩
  have fin:=SeqAt.RcAt.tuples (A:=A) (s:=s) (e:=λj=>decide (ns[j]? = ms[j]?)) q1 q2 (by lia) (λj h1 h2=>?_)
  ·rwa [e0] at fin
  ·have j1:j<ns.length:=by rw[l1];simpa using h1
   have j2:j<ms.length:=by rw[l2];simpa using h2
   obtain⟨u1,g1,w1⟩:=r1.get (show (ns.map V.int)[j]? = some (.int ns[j]) by simp[j1])
   obtain⟨u2,g2,w2⟩:=r2.get (show (ms.map V.int)[j]? = some (.int ms[j]) by simp[j2])
   have e1:aC.toArray[j] = u1:=by
    rw[List.getElem_toArray];exact Option.some.inj ((List.getElem?_eq_getElem (by simpa using h1)).symm.trans g1)
   have e2:fB.toArray[j] = u2:=by
    rw[List.getElem_toArray];exact Option.some.inj ((List.getElem?_eq_getElem (by simpa using h2)).symm.trans g2)
   obtain⟨t1,rfl⟩:=w1;obtain⟨t2,rfl⟩:=w2;rw[e1,e2];have:=SeqAt.EqAt.int_int (A:=A.in1) (s:=s) ns[j] t1 ms[j] t2;have e3:(ns[j] == ms[j])=decide (ns[j]? = ms[j]?):=by
    simp only[List.getElem?_eq_getElem j1,List.getElem?_eq_getElem j2,Option.some.injEq];rw[Bool.eq_iff_iff];simp
   rwa [e3] at this
end
section
variable{X:Cx}
theorem GQ(hu:X.A.units+16<cLine):cu X (compareOp .Eq) (λx y H Q=>∃a b xs,x = .ref a/\y = .ref b/\aA X.K H a xs/\aA X.K H b []/\Q (.bl xs.isEmpty) H):=by
 rintro pins s σ H x y v u Q I rx ry ⟨a,b,xs,rfl,rfl,ha,hb,q⟩;cases rx;cases ry;obtain⟨aC,r1,p1,z1⟩:=I.list ha;obtain⟨fB,r2,p2,z2⟩:=I.list hb;cases r2;cases r1 with
 | nil =>
  have fin:=SeqAt.RcAt.lists (A:=X.A) (s:=s) (e:=λ_=>true) p1.isList p2.isList rfl (by lia) (λj h1 h2=>absurd (show j<0 from h1) (by lia))
  exact fin X.prog X.w _ _ ⟨.bl true,H,I,rfl,q⟩
 | cons r t =>
  have fin:=SeqAt.RcAt.lists_lengths (A:=X.A) (s:=s) p1.isList p2.isList (by simp) (by lia)
  exact fin X.prog X.w _ _ ⟨.bl false,H,I,rfl,q⟩
noncomputable abbrev Zs:=List (Addr×Th)
noncomputable def zV(zs:Zs):List V:=zs.map λz=>V.ref z.1
noncomputable def Qu(H:Hp)(zs:Zs):Prop:=∀z,z∈zs->GP H z.1 z.2
noncomputable def Af:V->List V->Hp->VK->Prop:=λx vs H Q=>∃l a zs t,x = .ref l/\vs = [.ref a]/\H l=some (.lst (zV zs))/\Qu H zs/\GP H a t/\t∈zs.map (·.2)/\
 ∀(k:Nat) (h:k<zs.length),zs[k].2=t->Q .aP (upd H l (.lst (zV (zs.eraseIdx k))))
end
noncomputable def Qv(a b:Addr×Th):Prop:=GO a.2 b.2
noncomputable instance (a b:Addr×Th):Decidable (Qv a b):=by unfold Qv;infer_instance
section
variable{H H':Hp}{l a:Addr}{zs ys:Zs}{t:Th}{k:Nat}
theorem sR{n j:Nat}(h:j<n):gT n (j:Int)=some j:=by
 unfold gT;rw[if_pos (by lia),if_pos (by lia)]
 simp
theorem acg{o:HO}(h:H l=some o):upd H l o=H:=by
 funext b
 by_cases e:b=l
 ·subst e;rw[aD,h]
 ·rw[aI e]
theorem Qw{k:Nat}(h:1<=k):((k:Int) - 1) / 2=((par k:Nat):Int):=by
 unfold par;lia
theorem ach{ns:List Int}(h:1<=ns.length):cZ (ns.map V.int) (some 1) none=(ns.drop 1).map V.int:=by
 unfold cZ;have e:_H.bJ (ns.map V.int).length 0 (some 1)=1:=by
  simp only[_H.bJ];rw[if_neg (by decide),List.length_map]
  simp;lia
 rw[e,List.map_drop];exact List.take_of_length_le (by simp[_H.bJ])
theorem Qx{ns:List Int}{k:Int}(h:0<=k):cZ (ns.map V.int) none (some k)=(ns.take k.toNat).map V.int:=by
 unfold cZ;have e:_H.bJ (ns.map V.int).length 0 none=0:=rfl;have e2:_H.bJ (ns.map V.int).length (ns.map V.int).length (some k)=min k.toNat ns.length:=by
  simp only[_H.bJ];rw[if_neg (by lia),List.length_map]
 rw[e,e2,List.drop_zero,List.map_take,Nat.sub_zero];by_cases hk:k.toNat<=ns.length
 ·rw[Nat.min_eq_left hk]
 ·rw[Nat.min_eq_right (by lia),List.take_of_length_le (by simp),List.take_of_length_le (by simp;lia)]
end
structure wH(K:PySem.W.Frag)(x qual:Str)(st:Stmt)(f:Addr)(fd:FuncData):Prop where
 ex:∃(oc:Value) (od:Option Addr) (dV kV doc pm:Value) (an:Option Addr) (aO ct:Value) (iy:Array (Option Value)),
  fd=PySem.W.fnOf x qual (fV st) (eU st) (aR st) dV kV doc pm an aO ct/\K.lookup f=some ⟨oc,od,.func fd,iy⟩/\PySem.W.codeIn K aO qual=true
 kp:PySem.W.keepIn K (.ref f)=true
section
variable{P:Program}{w:World}{K:PySem.W.Frag}{mg:Str->Option Value}{base:Heap}
theorem wH.ok{x qual:Str}{st:Stmt}{f:Addr}{fd:FuncData}{N ps:List Str}{k:Nat}{sp:Sp}(F:wH K x qual st f fd)(S:bA N ps (aR st))(len:∀vs H Q E,sp vs H Q E->vs.length=ps.length)
  (qm:∀(aO:Value) (A:Around) (outer:List Env) (s:Shared) (H:Hp) (vs:List V) (Q:VK) (E:XK),cX k (A.deeper (envOfC qual (aR st) s.heap.objs.size f aO))->sp vs H Q E->
   ∃t,fQ (mT br P w K mg base N qual (aR st) f aO A outer s H E).oA (eU st) t/\t { nx:=λ_ H'=>Q .aP H',rt:=Q } (start N vs) H):aX P w K mg base br (k+1) f fd ps sp:=by
 obtain⟨oc,od,dV,kV,doc,pm,an,aO,ct,iy,rfl,lk,eS⟩:=F.ex;refine FN lk eS S len λA outer s H vs Q E hr cY=>?_;obtain⟨t,h,q⟩:=qm aO A outer s H vs Q E hr cY;exact⟨t,h.oA,q⟩
theorem Qy{x qual:Str}{st:Stmt}{f:Addr}{oc:Value}{od an:Option Addr}{iy:Array (Option Value)}{dV kV doc pm aO ct:Value}(l:K.lookup f=some ⟨oc,od,.func (PySem.W.fnOf x qual (fV st) (eU st) (aR st) dV kV doc pm an aO ct),iy⟩)
  (c:PySem.W.codeIn K aO qual=true) (k:PySem.W.keepIn K (.ref f)=true):wH K x qual st f (PySem.W.fnOf x qual (fV st) (eU st) (aR st) dV kV doc pm an aO ct):=⟨⟨oc,od,dV,kV,doc,pm,an,aO,ct,iy,rfl,l,c⟩,k⟩
end
section
variable{X:Cx}
theorem aci{xs:List Bool}{aC:List Value}(r:Vals (xs.map V.bl) aC):aC=xs.map Value.bool:=by
 induction xs generalizing aC with
 | nil=>cases r;rfl
 | cons b xs ih =>
  cases r with
  | cons r1 r2=>cases (show _=Value.bool b from r1);rw[ih r2];rfl
theorem acj(hc:X.calm=true):fS X (.builtin "all") (λxs H Q=>∃(p:Addr) (bs:List Bool),xs = [.ref p]/\aA X.K H p (bs.map V.bl)/\Q (.bl (bs.all id)) H):=by
 intro pins s σ H xs us Q I r h;obtain⟨p,bs,rfl,hq,q⟩:=h;obtain⟨u,rfl,ru⟩:=vals1 r;cases ru;obtain⟨aC,rv,pl,hz⟩:=I.list hq;have eb:=aci rv;subst eb;have oY:p<s.heap.objs.size:=by obtain⟨_,q1,_⟩:=pl.isList;exact Heap.lt_size q1
 refine call_all_walk (wpAny_pyIter_list pl.isList ?_);refine⟨s.heap.objs.size,[s.heap.objs.size,p],[s.heap.objs.size],(bs.map Value.bool).toArray.size,_,_,λi=>(bs[i]?).getD true,rfl,Walks.list (A:=X.A.in1) (I.ok.hd hc) _ p (Nat.ne_of_lt oY) (bs.map Value.bool).toArray,
  ⟨⟨_,Heap.get?_push_size _ rfl,rfl,rfl⟩,pl.isList.push _⟩,λi v s2 Q2 E2 hiv hw=>?_,λh' tk hk=>?_⟩
 ·have ack:(bs.map Value.bool)[i]? = some v:=by simpa using hiv
  obtain⟨b,eb,rfl⟩:=dM ack;simp only[eb,Option.getD_some] at hw;exact wpAny_truthy_bool hw
 ·have e:((List.range (bs.map Value.bool).toArray.size).all λi=>(bs[i]?).getD true)=bs.all id:=by
   rw[List.size_toArray,List.length_map];exact LSm.range_all bs
  rw[e];exact⟨.bl (bs.all id),H,I.kept (LSm.kept_iter hk),rfl,q⟩
noncomputable def Ag(ta:TA):TE:=λσ H Q=>ta σ H λvs H1=>∃i j:Int,vs = [.int i,.int j]/\(-1000000000000<i/\i<1000000000000/\-1000000000000<j/\j<1000000000000)/\(j - i).toNat<=1000000/\
 ∀l,H1 l=none->Q (.ref l) (upd H1 l (.lst ((List.range (j - i).toNat).map λ(k:Nat)=>V.int (i+(k:Int)))))
end
section
variable{X:Cx}
noncomputable def Ah(K:PySem.W.Frag):R2:=λx y H Q=>∃l k xs,x = .ref l/\y = .int k/\H l=some (.tup xs)/\xs≠[]/\xs.length<=1000/\1<=k/\k<=1000/\∀p H',aj H H'->H' p=some (.tup (List.replicate k.toNat xs).flatten)->Q (.ref p) H'
end
structure Ak where
 kind:Str
 first:Int
 many:Int
 marks:List Int
 at_:Int
 Ai:Int
 Qz:Option Int
 behind:List Int
 early:Bool
noncomputable def d7:Option Int->V
 | none=>.aP
 | some i=>.int i
noncomputable def nv(q:Ak)(m b:Addr):List (Str×V):=[("kind",.str q.kind),("first",.int q.first),("many",.int q.many),("marks",.ref m),("at",.int q.at_),("asker",.int q.Ai),("latest",d7 q.Qz),("behind",.ref b),("early",.bl q.early)]
structure iY(K:PySem.W.Frag)(C:Addr)(H:Hp)(p:Addr)(q:Ak)(m b dx:Addr):Prop where
 o:H p=some (.ins C dx (nv q m b))
 ms:H m=some (.tup (q.marks.map V.int))
 bh:H b=some (.tup (q.behind.map V.int))
theorem iY.same{K:PySem.W.Frag}{C:Addr}{H H':Hp}{p:Addr}{q:Ak}{m b dx:Addr}(h:iY K C H p q m b dx)(s:aj H H'):iY K C H' p q m b dx:=⟨s _ _ h.o,s _ _ h.ms,s _ _ h.bh⟩
theorem QA{K:PySem.W.Frag}{C:Addr}{H H1:Hp}{x dx m b:Addr}{q:Ak}(s:aj H H1)(nx:H1 x=none)(iZ:H1 dx=none)(eB:dx≠x)(hm:H1 m=some (.tup (q.marks.map V.int)))(hb:H1 b=some (.tup (q.behind.map V.int))) :
  aj H (upd (upd (upd H1 dx (.own x)) x (.ins C dx [])) x (.ins C dx (nv q m b)))/\H x=none/\iY K C (upd (upd (upd H1 dx (.own x)) x (.ins C dx [])) x (.ins C dx (nv q m b))) x q m b dx:=by
 have s1:=aj.put (o:=.own x) iZ;have nx1:upd H1 dx (.own x) x=none:=by rw[aI (Ne.symm eB)];exact nx
 have s2:aj H1 (upd (upd (upd H1 dx (.own x)) x (.ins C dx [])) x (.ins C dx (nv q m b))):=aj.put2 (s1.trans (aj.put nx1)) nx;exact⟨s.trans s2,s.free nx,⟨aD,s2 _ _ hm,s2 _ _ hb⟩⟩
structure lY(ns:List Int):Prop where
 up:ns.Pairwise (· < ·)
 lo:∀n∈ns,0<=n
 hi:∀n∈ns,n<=99
theorem lY.nil:lY []:=⟨.nil,(λ_ h=>nomatch h),λ_ h=>nomatch h⟩
noncomputable def wI(x:Int)(ns:List Int)(i:Nat):Int:=if i=0 then x else ns.getD (i - 1) 0
theorem lY.step{ns:List Int}(h:lY ns){i:Nat}{n:Int}(e:ns[i]? = some n):wI (-1) ns i+1<=n/\n<=99:=by
 refine⟨?_,h.hi n (get_mem e)⟩;unfold wI;split
 ·have:=h.lo n (get_mem e);lia
 ·have hi:=cN e;obtain⟨h1,e1⟩:=List.getElem?_eq_some_iff.mp e;have e2:ns.getD (i - 1) 0=ns[i - 1]:=by simp[List.getD_eq_getElem?_getD,List.getElem?_eq_getElem (show i - 1<ns.length by lia)]
  have:=List.pairwise_iff_getElem.mp h.up (i - 1) i (by lia) h1 (by lia)
  rw[e2];lia
theorem acm{x:Int}{ns:List Int}{i:Nat}{n:Int}(e:ns[i]? = some n):wI x ns (i+1)=n:=by
 simp[wI,List.getD_eq_getElem?_getD,e]
noncomputable def GR(K:PySem.W.Frag)(H:Hp)(v:V)(ns:List Int):Prop:=(v = .aP/\ns = [])\/∃a,v = .ref a/\(aA K H a (ns.map V.int)\/H a=some (.tup (ns.map V.int)))
structure Aj(first many at_ Ai:Int)(eV:Option Int):Prop where
 f0:0<=first
 f1:first<=1000000
 m0:1<=many
 m1:many<=16
 a0:0<=at_
 a1:at_<=1000000000000
 s0:0<=Ai
 s1:Ai<=20
 l:∀x,eV=some x->0<=x/\x<=10000000000000
noncomputable def acn:Sp:=λvs H Q _=>∃(n lo hi:Int) (w:Str),vs = [.int n,.int lo,.int hi,.str w]/\lo<=n/\n<=hi/\Q .aP H
noncomputable def aco(K:PySem.W.Frag):Sp:=λvs H Q _=>∃(b:Addr) (ns:List Int),vs = [.ref b]/\aL K H b (ns.map V.int)/\lY ns/\Q .aP H
noncomputable def acp(K:PySem.W.Frag):Sp:=λvs H Q _=>∃(f m a s:Int) (l:Option Int) (b:Addr) (ns:List Int),vs = [.int f,.int m,.int a,.int s,d7 l,.ref b]/\Aj f m a s l/\aL K H b (ns.map V.int)/\lY ns/\Q .aP H
noncomputable def acq(K:PySem.W.Frag):Sp:=λvs H Q _=>∃(v:V) (ns:List Int),vs = [v]/\GR K H v ns/\∀b H',aj H H'->H' b=some (.tup (ns.map V.int))->Q (.ref b) H'
noncomputable def acr(C:Addr):Sp:=λvs H Q _=>∃(p dx:Addr) (v1 v2 v3 v4 v5 v6 v7 v8 v9:V),vs = [.ref p,v1,v2,v3,v4,v5,v6,v7,v8,v9]/\H p=some (.ins C dx [])/\
 Q .aP (upd H p (.ins C dx [("kind",v1),("first",v2),("many",v3),("marks",v4),("at",v5),("asker",v6),("latest",v7),("behind",v8),("early",v9)]))
noncomputable def acs(K:PySem.W.Frag)(C:Addr):Sp:=λvs H Q _=>∃(f m a s:Int) (l:Option Int) (bv:V) (ns:List Int),vs = [.int f,.int m,.int a,.int s,d7 l,bv]/\Aj f m a s l/\GR K H bv ns/\lY ns/\
 ∀p mk b dx H',aj H H'->H p=none->iY K C H' p ⟨"read",f,m,[],a,s,l,ns,false⟩ mk b dx->Q (.ref p) H'
noncomputable def acu(K:PySem.W.Frag)(C:Addr):Sp:=λvs H Q _=>∃(f a s:Int) (ma:Addr) (ms:List Int) (l:Option Int) (bv:V) (ns:List Int) (e:Bool),vs = [.int f,.ref ma,.int a,.int s,d7 l,bv,.bl e]/\aA K H ma (ms.map V.int)/\(∀x∈ms,0<=x/\x<=1000000000)/\
 Aj f ms.length a s l/\GR K H bv ns/\lY ns/\∀p mk b dx H',aj H H'->H p=none->iY K C H' p ⟨"write",f,ms.length,ms,a,s,l,ns,e⟩ mk b dx->Q (.ref p) H'
noncomputable def wJ(x y:Ak):Bool:=decide ((x.kind = "write"\/y.kind = "write")/\x.first<y.first+y.many/\y.first<x.first+x.many)
noncomputable def acv(K:PySem.W.Frag)(C:Addr):Sp:=λvs H Q _=>∃(p r:Addr) (x y:Ak) (m b dx m' b' kL:Addr),vs = [.ref p,.ref r]/\iY K C H p x m b dx/\iY K C H r y m' b' kL/\Q (.bl (wJ x y)) H
theorem nA(n:Int):∀ms:List Int,sf (.int n) (ms.map V.int)=decide (n∈ms)
 | []=>rfl
 | m::ms=>by
  have ih:=nA n ms;unfold sf at ih ⊢;rw[List.map_cons,List.any_cons,ih,Bool.eq_iff_iff];simp only[jq,Bool.or_eq_true,beq_iff_eq,decide_eq_true_eq,List.mem_cons];constructor
  ·rintro(h | h)
   ·exact .inl h.symm
   ·exact .inr h
  ·rintro(h | h)
   ·exact .inl h.symm
   ·exact .inr h
theorem sS(ms:List Int):(ms.map V.int).all jF=true:=by simp[jF]
theorem acw{X:Cx}{K:PySem.W.Frag}(h:X.K=K):cu X (compareOp .In) (oN K false):=h▸FU
theorem QB{X:Cx}{K:PySem.W.Frag}(h:X.K=K):cu X (compareOp .NotIn) (oN K true):=h▸Pz
section
variable{K:PySem.W.Frag}{tl:TE}{g:TG}{tb:TS}{D:Ends}{σ:St}{H:Hp}
theorem rt(a:Addr)(xs:List V)(Pv:Nat->St->Hp->Prop)(kJ:∀Q:VK,Q (.ref a) H->tl σ H Q)(cS:aL K H a xs)(h0:Pv 0 σ H)(hl:∀i σ H,i<=xs.length->Pv i σ H->aL K H a xs)
  (hs:∀i x σ H (N:St->Hp->Prop),(∀σ H,Pv (i+1) σ H->N σ H)->xs[i]? = some x->Pv i σ H->g x σ H λaB H2=>tb { D with nx:=N,ct:=N,bk:=D.nx } aB H2) (hd:∀σ H,Pv xs.length σ H->D.nx σ H):jC (Fw K tl) g tb D σ H :=
 kJ _ ⟨a,rfl,⟨xs,cS⟩,Z7 Pv h0 hl (λi x σ H hx p=>hs i x σ H _ (λ_ _ z=>z) hx p) hd⟩
end
noncomputable def f2(o:Obj):Option Value:=match o.data with
 | .fields vs=>vs[2]?
 | _=>none
noncomputable def acy(h:Heap)(a:Addr)(od:Option Addr):Prop:=∃oe,h.get? a=some oe/\oe.dict=od.map (· / 2)/\(od.getD 0 % 2=0->f2 oe=some .none)
section
variable{M:Model}{A:Around}{E:Value->Shared->Prop}{s:Shared}{base:Heap}{env:Env}{l outer:List Env}{L e:Addr}{cls a0:Value}{od:Option Addr}{Q:Unit->Shared->Prop}
end
structure Cut(base B:Heap)(outer:List Env)(H H':Hp)(h:Heap):Prop where
 stays:base.StaysIn B
 k1:∀b o,h.get? b=some o->H b=none->b∉gc outer->B.get? b=some o
 k2:∀b u,H' b=some u->∃o,B.get? b=some o
 k3:∀b o,h.get? b=some o->b∉gc outer->∃o',B.get? b=some o'
noncomputable def CX1(P:Program)(w:World)(base:Heap):gS:=λouter H s E e s' =>
 ∃a C a0 H' B od,e = .ref a/\s'.os=s.os/\AllBare s'.gens/\Un (gc outer) [] H H' s.heap s'.heap/\cU P w H' s'.heap/\H' a=none/\s.heap.get? a=none/\
  Cut base B outer H H' s.heap/\Heap.FlyingW B outer a (.ref C) a0 s'.heap/\acy s'.heap a od/\E (.ref C) od H'
section
variable{P:Program}{w:World}{K:PySem.W.Frag}{mg:Str->Option Value}{base B:Heap}{N:List Str}{qual:Str}{scope:Scope}{f:Addr}{cd:Value}{A:Around}{outer:List Env}{dw sc s':Shared}{pY Hc H':Hp}{E:XK}
 {pins:List (Addr×Obj)} {σ:St} {a C:Addr} {a0:Value} {h':Heap} {od:Option Addr}
end
section
variable{X:Cx}{E:XK}{x:Str}{C:Addr}{bm:List Value}{newId akd B:String}{np gf pos:Pos}{ake:Expr}{rest:List Expr}{t:TA}
end
section
variable{X:Cx}{pins:List (Addr×Obj)}{σ:St}{H H':Hp}{s s':Shared}{a C:Addr}{h':Heap}{E:XK}
end
noncomputable def XP(P:Program)(w:World)(base:Heap)(X:Cx)(pins:List (Addr×Obj))(σ:St)(E:XK)(e:Value)(s':Shared):Prop:=∃H1 s1,Inv X pins σ H1 s1/\CX1 P w base X.stack H1 s1 E e s'
section
variable{X:Cx}{k:Nat}{f C:Addr}{fd:FuncData}{ps:List Str}{sp:Sp}{cC:List V}{ds:List Value}{E:XK}{x m:Str}{p pos apos:Pos}{e o:Expr}{es:List Expr}{ta:TE}{t:TA}
end
section
variable{X:Cx}{E:XK}{e:Expr}{te:TE}{pos:Pos}
end
section
variable{X:Cx}{pins:List (Addr×Obj)}{σ:St}{a C:Addr}{a0:Value}{H1 H':Hp}{s1 s':Shared}{B h':Heap}{od:Option Addr}
end
section
variable{X:Cx}{pins:List (Addr×Obj)}{σ:St}{H:Hp}{s:Shared}
end
end _L
namespace _L
open PySem PySem.Spec PyProof.Rows PySem.W PySem.Builtin.ObjectAttr PySem.Builtin.Getset_descriptor
section
variable{prog:Program}{w:World}{A:Around}{E:Value->Shared->Prop}{s:Shared}{K:Frag}{x D:Addr}{ox:Obj}{name:Str}
end
section
variable{X:Cx}
end
end _L
namespace _L
open PySem PySem.Spec PyProof.Rows PySem.W
noncomputable def dD{α:Type}(lt:Nat->Nat->Bool):KasT α->α
 | .ret a=>a
 | .ask i j k=>dD lt (k (lt i j))
theorem sU{α β:Type}{lt:Nat->Nat->Bool}{f:α->KasT β}:∀t:KasT α,dD lt (t.bind f)=dD lt (f (dD lt t))
 | .ret _=>rfl
 | .ask i j k=>sU (k (lt i j))
section
variable(key:Nat->Int)
noncomputable def kk(p:Array Nat)(i:Nat):Int:=key (p.getD i 0)
noncomputable def klt:Nat->Nat->Bool:=λi j=>decide (key i<key j)
noncomputable def kR(p:Array Nat)(m:Nat):Prop:=∀i j,i<j->j<m->kk key p i<kk key p j
noncomputable def wK(p:Array Nat)(m:Nat):Prop:=∀i j,i<j->j<m->kk key p j<kk key p i
noncomputable def jM(p:Array Nat):Prop:=∀i j,i<p.size->j<p.size->kk key p i=kk key p j->i=j
variable{key}{p:Array Nat}
theorem wL{i j:Nat}(c:kk key p i<kk key p j):klt key (p.getD i 0) (p.getD j 0)=true:=decide_eq_true c
theorem GS{p q:Array Nat}{i j:Nat}(h:p[i]? = q[j]?):kk key p i=kk key q j:=by
 unfold kk;rw[Array.getD_eq_getD_getElem?,Array.getD_eq_getD_getElem?,h]
theorem GU{m i:Nat}(hm:m<=p.size)(hi:i<m):kk key (kas_rev p 0 m) i=kk key p (m - 1 - i):=GS (by
 unfold kas_rev;rw[getElem?_mirror_all hm,if_pos ⟨Nat.zero_le _,hi⟩];congr 1;lia)
theorem GV:∀(f n:Nat),1<=n->n+f<=p.size->jM key p->kR key p n->n<=dD (klt key) (kas_asc p f n)/\dD (klt key) (kas_asc p f n)<=n+f/\kR key p (dD (klt key) (kas_asc p f n))/\
  (dD (klt key) (kas_asc p f n)<n+f->kk key p (dD (klt key) (kas_asc p f n))<kk key p (dD (klt key) (kas_asc p f n) - 1))
 | 0,n,_,_,_,h=>⟨Nat.le_refl _,Nat.le_refl _,h,λz=>absurd z (Nat.lt_irrefl _)⟩
 | f+1,n,h1,hz,hd,h=>by
  by_cases c:kk key p n<kk key p (n - 1)
  ·have e:dD (klt key) (kas_asc p (f+1) n)=n:=by
    show dD (klt key) (if klt key (p.getD n 0) (p.getD (n - 1) 0)=true then _ else _)=n
    rw[if_pos (wL c)];rfl
   rw[e];exact⟨Nat.le_refl _,by lia,h,λ_=>c⟩
  ·have e:dD (klt key) (kas_asc p (f+1) n)=dD (klt key) (kas_asc p f (n+1)):=by
    show dD (klt key) (if klt key (p.getD n 0) (p.getD (n - 1) 0)=true then _ else _)=_
    rw[if_neg (by unfold klt;rw[decide_eq_true_eq];exact c)]
   have hn:kk key p (n - 1)<kk key p n:=by
    have:kk key p (n - 1)≠kk key p n:=λz=>by have:=hd _ _ (by lia) (by lia) z;lia
    lia
   have h':kR key p (n+1):=λi j oZ hj=>by
    by_cases e1:j=n
    ·subst e1;by_cases e2:i=j - 1
     ·subst e2;exact hn
     ·have:=h i (j - 1) (by lia) (by lia);lia
    ·exact h i j oZ (by lia)
   obtain⟨a,b,c1,c2⟩:=GV f (n+1) (by lia) (by lia) hd h'
   rw[e];exact⟨by lia,by lia,c1,λz=>c2 (by lia)⟩
theorem QC:∀(f n:Nat),2<=n->n+f<=p.size->jM key p->wK key p n->∃m,dD (klt key) (kas_desc f p n 0)=(p,m,0)/\n<=m/\m<=n+f/\wK key p m
 | 0,n,_,_,_,h=>⟨n,rfl,Nat.le_refl _,Nat.le_refl _,h⟩
 | f+1,n,h1,hz,hd,h=>by
  by_cases c:kk key p n<kk key p (n - 1)
  ·have e:dD (klt key) (kas_desc (f+1) p n 0)=dD (klt key) (kas_desc f p (n+1) 0):=by
    show dD (klt key) (if klt key (p.getD n 0) (p.getD (n - 1) 0)=true then(if 0 > 0 then _ else _) else _)=_
    rw[if_pos (wL c),if_neg (by lia)]
   have h':wK key p (n+1):=λi j oZ hj=>by
    by_cases e1:j=n
    ·subst e1;by_cases e2:i=j - 1
     ·subst e2;exact c
     ·have:=h i (j - 1) (by lia) (by lia);lia
    ·exact h i j oZ (by lia)
   obtain⟨m,a,b,c1,c2⟩:=QC f (n+1) (by lia) (by lia) hd h'
   exact⟨m,e.trans a,by lia,by lia,c2⟩
  ·have hn:kk key p (n - 1)<kk key p n:=by
    have:kk key p (n - 1)≠kk key p n:=λz=>by have:=hd _ _ (by lia) (by lia) z;lia
    lia
   refine⟨n,?_,Nat.le_refl _,by lia,h⟩
   show dD (klt key) (if klt key (p.getD n 0) (p.getD (n - 1) 0)=true then _ else _)=_
   rw[if_neg (by unfold klt;rw[decide_eq_true_eq];exact c)]
   show dD (klt key) (if klt key (p.getD (n - 1) 0) (p.getD n 0)=true then _ else _)=_
   rw[if_pos (wL hn)];rfl
theorem acz{m:Nat}(hm:m<=p.size)(h:jM key p):jM key (kas_rev p 0 m):=λi j hi hj e=>by
 have hs:(kas_rev p 0 m).size=p.size:=mirror_size _ _ _ _;rw[hs] at hi hj;have at_:∀i,kk key (kas_rev p 0 m) i=kk key p (if i<m then m - 1 - i else i):=λi=>by
  by_cases z:i<m
  ·rw[if_pos z,GU hm z]
  ·rw[if_neg z];exact GS (by unfold kas_rev;rw[getElem?_mirror_all hm,if_neg (by lia)])
 rw[at_,at_] at e;have:=h _ _ (by split <;> lia) (by split <;> lia) e
 split at this <;> split at this <;> lia
theorem acA{n i6:Nat}(h1:1<=n)(hn:n<=i6)(hz:i6<=p.size)(hd:jM key p)(h:wK key p n) :
  ∃m q,dD (klt key) (kas_tail3 n i6 p)=(m,q)/\1<=m/\m<=i6/\q.Perm p/\jM key q/\kR key q m:=by
 have eF:=acz (Nat.le_trans hn hz) hd;have ha:kR key (kas_rev p 0 n) n:=λi j oZ hj=>by
  rw[GU (by lia) (by lia),GU (by lia) hj]
  exact h _ _ (by lia) (by lia)
 have hs:(kas_rev p 0 n).size=p.size:=mirror_size _ _ _ _;obtain⟨a,b,c,_⟩:=GV (p:=kas_rev p 0 n) (i6 - n) n h1 (by lia) eF ha
 exact⟨_,_,by unfold kas_tail3;rw[sU];rfl,by lia,by lia,mirror_perm _ _ _ _,eF,c⟩
theorem acB{i6:Nat}(h1:1<=i6)(hz:i6<=p.size)(hd:jM key p) :
  ∃m q,dD (klt key) (kas_count i6 p)=(m,q)/\1<=m/\m<=i6/\q.Perm p/\jM key q/\kR key q m:=by
 obtain⟨a,b,c,d⟩:=GV (p:=p) (i6 - 1) 1 (by lia) (by lia) hd (λi j _ _=>by lia)
 unfold kas_count;rw[sU];generalize dD (klt key) (kas_asc p (i6 - 1) 1)=n at a b c d;by_cases e:n=i6
 ·rw[if_pos (by rw[beq_iff_eq];exact e)]
  exact⟨n,p,rfl,a,by lia,Array.Perm.refl _,hd,c⟩
 ·rw[if_neg (by rw[beq_iff_eq];exact e)]
  by_cases g:n > 1
  ·rw[if_pos g];refine⟨n,p,?_,a,by lia,Array.Perm.refl _,hd,c⟩
   show dD (klt key) (if klt key (p.getD 0 0) (p.getD (n - 1) 0)=true then _ else _)=_
   rw[if_pos (wL (c _ _ (by lia) (by lia)))];rfl
  ·rw[if_neg g];have en:n=1:=by lia
   subst en;have d1:=d (by lia)
   have hde:wK key p 2:=λi j oZ hj=>by
    have e1:j=1:=by lia
    have e2:i=0:=by lia
    subst e1 e2;exact d1
   obtain⟨m,e1,e2,e3,e4⟩:=QC (p:=p) (i6 - 2) 2 (by lia) (by lia) hd hde
   unfold kas_descPart;rw[sU,show (1+1)=2 from rfl,e1];dsimp only;rw[if_neg (by lia)]
   exact acA (by lia) (by lia) hz hd e4
theorem GW{k:Nat}:∀(f l r:Nat),r - l<=f->l<=r->r<=k->k<p.size->jM key p->kR key p k->(∀i,i<l->kk key p i<kk key p k)->(∀i,r<=i->i<k->kk key p k<kk key p i)->
  ∃m,dD (klt key) (kas_place p k f l r)=m/\m<=k/\(∀i,i<m->kk key p i<kk key p k)/\(∀i,m<=i->i<k->kk key p k<kk key p i)
 | 0,l,r,hf,hlr,hr,hk,hd,ha,h1,h2=>⟨l,rfl,by lia,h1,λi a b=>h2 i (by lia) b⟩
 | f+1,l,r,hf,hlr,hr,hk,hd,ha,h1,h2=>by
  unfold kas_place;by_cases c:l ≥ r
  ·rw[if_pos c];exact⟨l,rfl,by lia,h1,λi a b=>h2 i (by lia) b⟩
  ·rw[if_neg c]
   show ∃m,dD (klt key) (if klt key (p.getD k 0) (p.getD ((l+r) / 2) 0)=true then _ else _)=m/\_
   have hm:(l+r) / 2<r:=by lia
   have hl:l<=(l+r) / 2:=by lia
   generalize (l+r) / 2=q at hm hl;by_cases d:kk key p k<kk key p q
   ·rw[if_pos (wL d)];refine GW f l q (by lia) hl (by lia) hk hd ha h1 λi a b=>?_
    by_cases e:i=q
    ·subst e;exact d
    ·have:=ha q i (by lia) b;lia
   ·rw[if_neg (by unfold klt;rw[decide_eq_true_eq];exact d)]
    have hq:kk key p q<kk key p k:=by
     have:kk key p q≠kk key p k:=λz=>by have:=hd _ _ (by lia) (by lia) z;lia
     lia
    refine GW f (q+1) r (by lia) (by lia) hr hk hd ha (λi a=>?_) h2
    by_cases e:i=q
    ·subst e;exact hq
    ·have:=ha i q (by lia) (by lia);lia
theorem Al{k l i:Nat}(hk:k<p.size)(hl:l<=k):kk key (bubble p k (k - l)) i=kk key p (if i=l then k else if l<i/\i<=k then i - 1 else i):=GS (by
 rw[getElem?_bubble hk _ (by lia),show k - (k - l)=l by lia]
 split
 ·rfl
 ·split <;> rfl)
theorem QD:∀(f:Nat) (p:Array Nat) (k:Nat),k+f=p.size->jM key p->kR key p k->∃q,dD (klt key) (kas_bin f p k)=q/\q.Perm p/\kR key q p.size
 | 0,p,k,hz,hd,ha=>⟨p,rfl,Array.Perm.refl _,by rw[← hz];exact ha⟩
 | f+1,p,k,hz,hd,ha=>by
  obtain⟨l,e,hl,h1,h2⟩:=GW (p:=p) (k:=k) k 0 k (by lia) (by lia) (Nat.le_refl _) (by lia) hd ha (λi z=>by lia) (λi a b=>by lia)
  unfold kas_bin;rw[sU,e];have hs:(bubble p k (k - l)).size=p.size:=bubble_size _ _ _;have eF:jM key (bubble p k (k - l)):=λi j hi hj z=>by
   rw[hs] at hi hj;rw[Al (by lia) hl,Al (by lia) hl] at z
   have:=hd _ _ (by split;lia;split <;> lia) (by split;lia;split <;> lia) z
   repeat' split at this
   all_goals lia
  have ha':kR key (bubble p k (k - l)) (k+1):=λi j oZ hj=>by
   rw[Al (by lia) hl,Al (by lia) hl]
   by_cases e1:i=l
   ·rw[if_pos e1,if_neg (by lia),if_pos (by lia)]
    exact h2 _ (by lia) (by lia)
   ·rw[if_neg e1];by_cases e2:j=l
    ·rw[if_neg (by lia),if_pos e2]
     exact h1 _ (by lia)
    ·rw[if_neg e2];split <;> split
     ·exact ha _ _ (by lia) (by lia)
     ·exact ha _ _ (by lia) (by lia)
     ·exact ha _ _ (by lia) (by lia)
     ·exact ha _ _ (by lia) (by lia)
  obtain⟨q,e3,e4,e5⟩:=QD f (bubble p k (k - l)) (k+1) (by lia) eF ha'
  exact⟨q,e3,e4.trans (bubble_perm _ _ _),by rw[hs] at e5;exact e5⟩
theorem acC{n:Nat}(h1:1<=n)(hi:∀i j,i<n->j<n->key i=key j->i=j):∃q,dD (klt key) (kas_sort n)=q/\q.Perm (List.toArray (List.range n))/\kR key q n:=by
 have QE:∀i,i<n->(List.toArray (List.range n)).getD i 0=i:=λi h=>by
  rw[Array.getD_eq_getD_getElem?];simp[h]
 have hd:jM key (List.toArray (List.range n)):=λi j iC gY e=>by
  have a:i<n:=by simpa using iC
  have b:j<n:=by simpa using gY
  unfold kk at e;rw[QE i a,QE j b] at e;exact hi i j a b e
 have hz:(List.toArray (List.range n)).size=n:=by simp
 obtain⟨m,q,e1,e2,e3,e4,e5,e6⟩:=acB (p:=List.toArray (List.range n)) h1 (by lia) hd
 have hq:q.size=n:=by rw[e4.size_eq,hz]
 unfold kas_sort;rw[sU,e1];by_cases c:m<n
 ·rw[if_pos c];have em:max m 1=m:=by lia
  rw[em];obtain⟨q',a,b,d⟩:=QD (n - m) q m (by lia) e5 e6
  exact⟨q',a,b.trans e4,by rw[hq] at d;exact d⟩
 ·rw[if_neg c];have:m=n:=by lia
  subst this;exact⟨q,rfl,e4,e6⟩
end
section
variable{prog:Program}{w:World}{A:Around}{E:Value->Shared->Prop}{s:Shared}
noncomputable def GX(h:Heap)(a:Addr)(d r:Int):Prop:=∃o t u n,h.get? a=some o/\o.cls = .type "tuple"/\o.data = .seq #[.int d t,.int r u] n
theorem acD{x y:Addr}{d1 r1 d2 r2:Int}{Q:Bool->Shared->Prop}(hx:GX s.heap x d1 r1)(hy:GX s.heap y d2 r2)(h:Q (decide (d1<d2\/(d1=d2/\r1<r2))) s) :
  wpAny (model prog w) A (keyLt' (tuples' true) (.ref x) (.ref y)) Q E s:=by
 obtain⟨ox,t1,u1,n1,ex,_,dx⟩:=hx;obtain⟨oy,t2,u2,n2,ey,_,dy⟩:=hy;refine kat_lt ex dx ey dy (kat_cons (wpAny_eqBool_int ?_));by_cases e:d1=d2
 ·subst e;rw[beq_self_eq_true];refine kat_yes (kat_cons (wpAny_eqBool_int ?_));by_cases e2:r1=r2
  ·subst e2;rw[beq_self_eq_true];refine kat_yes (kat_nil ?_);have z:decide (d1<d1\/(d1=d1/\r1<r1))=decide ((#[Value.int d1 t1,Value.int r1 u1]:Array Value).size<(#[Value.int d1 t2,Value.int r1 u2]:Array Value).size):=by
    rw[decide_eq_decide];simp
   rw[← z];exact h
  ·rw[beq_eq_false_iff_ne.mpr e2];refine kat_no ?_
   show wpAny _ _ (oneLt' false _ _) _ _ _;refine kat_one _ _ (lt_int ?_);have z:decide (d1<d1\/(d1=d1/\r1<r2))=decide (r1<r2):=by rw[decide_eq_decide];simp
   rw[z] at h;exact h
 ·rw[beq_eq_false_iff_ne.mpr e];refine kat_no ?_
  show wpAny _ _ (oneLt' true _ _) _ _ _;refine oneLt_int ?_;have z:decide (d1<d2\/(d1=d2/\r1<r2))=decide (d1<d2):=by rw[decide_eq_decide];simp[e]
  rw[z] at h;exact h
noncomputable def Am(h:Heap)(ks:List Value)(kv:List (Int×Int)):Prop:=ks.length=kv.length/\∀i (hi:i<kv.length),∃a,ks.getD i Value.none = .ref a/\GX h a (kv[i]).1 (kv[i]).2
noncomputable def jN(kv:List (Int×Int))(i:Nat):Int:=(kv.getD i (0,0)).1*64+(kv.getD i (0,0)).2
theorem acE{ks:List Value}{kv:List (Int×Int)}{i j:Nat}{C:Bool->Shared->Prop}(hk:Am s.heap ks kv)(hb:∀q∈kv,0<=q.2/\q.2<64)(hi:i<kv.length)(hj:j<kv.length)(h:C (klt (jN kv) i j) s) :
  kas_ask prog w A (tuples' true) ks i j C s:=by
 obtain⟨a,ea,pa⟩:=hk.2 i hi;obtain⟨b,eb,pb⟩:=hk.2 j hj;unfold kas_ask;rw[ea,eb];have h1:=hb _ (List.getElem_mem hi);have h2:=hb _ (List.getElem_mem hj);have z:klt (jN kv) i j=decide ((kv[i]).1<(kv[j]).1\/((kv[i]).1=(kv[j]).1/\(kv[i]).2<(kv[j]).2)):=by
  unfold klt jN;rw[decide_eq_decide,show kv.getD i (0,0)=kv[i] by simp[hi],show kv.getD j (0,0)=kv[j] by simp[hj]]
  constructor
  ·intro q;lia
  ·intro q;lia
 rw[z] at h;exact acD pa pb h
end
noncomputable def KB{α:Type}(n:Nat)(P:α->Prop):KasT α->Prop
 | .ret a=>P a
 | .ask i j k=>i<n/\j<n/\∀b,KB n P (k b)
theorem KB.bind{α β:Type}{n:Nat}{P:α->Prop}{R:β->Prop}{f:α->KasT β}(hf:∀a,P a->KB n R (f a)):∀t:KasT α,KB n P t->KB n R (t.bind f)
 | .ret a,h=>hf a h
 | .ask i j k,h=>⟨h.1,h.2.1,λb=>KB.bind hf (k b) (h.2.2 b)⟩
theorem QF{α:Type}{n:Nat}{P:α->Prop}{cmp:Nat->Nat->(Bool->Shared->Prop)->Shared->Prop}{lt:Nat->Nat->Bool}{s:Shared}(hc:∀i j C,i<n->j<n->C (lt i j) s->cmp i j C s) :
  ∀(t:KasT α) (Q:α->Shared->Prop),KB n P t->Q (dD lt t) s->t.kasWp cmp Q s
 | .ret _,_,_,h=>h
 | .ask i j k,Q,z,h=>hc i j _ z.1 z.2.1 (QF hc (k (lt i j)) Q (z.2.2 _) h)
noncomputable def AllLt(n:Nat)(p:Array Nat):Prop:=0<n/\∀x∈p.toList,x<n
section
variable{n:Nat}{p q:Array Nat}
theorem AllLt.at(h:AllLt n p)(i:Nat):p.getD i 0<n:=by
 rw[Array.getD_eq_getD_getElem?];cases e:p[i]? with
 | none=>exact h.1
 | some x=>exact h.2 x (List.mem_of_getElem? (by rw[← Array.getElem?_toList] at e;exact e))
theorem AllLt.perm(h:AllLt n p)(e:q.Perm p):AllLt n q:=⟨h.1,λx hx=>h.2 x (e.toList.mem_iff.mp hx)⟩
theorem AllLt.rev(h:AllLt n p)(i j:Nat):AllLt n (kas_rev p i j):=h.perm (mirror_perm _ _ _ _)
theorem GY(h:AllLt n p):∀f m,KB n (λ_=>True) (kas_asc p f m)
 | 0,_=>trivial
 | f+1,m=>⟨h.at _,h.at _,λb=>by
  show KB n _ (if b=true then _ else _)
  cases b
  ·exact GY h f (m+1)
  ·trivial⟩
theorem An:∀(f:Nat) (p:Array Nat) (m q:Nat),AllLt n p->KB n (λr=>AllLt n r.1) (kas_desc f p m q)
 | 0,p,_,_,h=>h
 | f+1,p,m,q,h=>⟨h.at _,h.at _,λb=>by
  show KB n _ (if b=true then(if q > 0 then _ else _) else _)
  cases b
  ·refine⟨h.at _,h.at _,λd=>?_⟩
   show KB n _ (if d=true then _ else _)
   cases d
   ·exact An f p _ _ h
   ·exact h
  ·rw[if_pos rfl];split
   ·exact An f _ _ _ (h.rev _ _)
   ·exact An f _ _ _ h⟩
theorem QG{m r:Nat}(h:AllLt n p):KB n (λr=>AllLt n r.2) (kas_tail3 m r p):=by
 unfold kas_tail3;refine KB.bind (P:=λ_=>True) (λa _=>?_) _ (GY (h.rev _ _) _ _)
 show AllLt n _;exact h.rev _ _
theorem QH{m r:Nat}(h:AllLt n p):KB n (λr=>AllLt n r.2) (kas_descPart m r p):=KB.bind (λa ha=>by
 split
 ·exact QG (ha.rev _ _)
 ·exact QG ha) _ (An _ _ _ _ h)
theorem acF{r:Nat}(h:AllLt n p):KB n (λr=>AllLt n r.2) (kas_count r p):=KB.bind (λm _=>by
 split
 ·exact h
 ·split
  ·refine⟨h.at _,h.at _,λb=>?_⟩
   show KB n _ (if b=true then _ else _)
   cases b
   ·exact QH (h.rev _ _)
   ·exact h
  ·exact QH h) _ (GY h _ _)
theorem GZ{k:Nat}(h:AllLt n p):∀f l r,KB n (λ_=>True) (kas_place p k f l r)
 | 0,_,_=>trivial
 | f+1,l,r=>by
  unfold kas_place;split
  ·trivial
  ·refine⟨h.at _,h.at _,λb=>?_⟩
   show KB n _ (if b=true then _ else _)
   cases b
   ·exact GZ h f _ _
   ·exact GZ h f _ _
theorem QI:∀(f:Nat) (p:Array Nat) (k:Nat),AllLt n p->KB n (AllLt n) (kas_bin f p k)
 | 0,_,_,h=>h
 | f+1,p,k,h=>KB.bind (λl _=>QI f _ _ (h.perm (bubble_perm _ _ _))) _ (GZ h _ _ _)
theorem acG(h:1<=n):KB n (AllLt n) (kas_sort n):=KB.bind (λr hr=>by
 split
 ·exact QI _ _ _ hr
 ·exact hr) _ (acF ⟨h,λx hx=>by simpa using hx⟩)
end
theorem acH{prog:Program}{w:World}{A:Around}{s:Shared}{ks:List Value}{kv:List (Int×Int)}{Q:Array Nat->Shared->Prop}(h1:1<=kv.length)(hk:Am s.heap ks kv)(hb:∀q∈kv,0<=q.2/\q.2<64)(hd:kv.Nodup)
  (h:∀p:Array Nat,p.Perm (List.toArray (List.range kv.length))->(∀i j,i<j->j<kv.length->jN kv (p.getD i 0)<jN kv (p.getD j 0))->Q p s) :
  (kas_sort kv.length).kasWp (kas_ask prog w A (tuples' true) ks) Q s:=by
 have hi:∀i j,i<kv.length->j<kv.length->jN kv i=jN kv j->i=j:=λi j a b e=>by
  unfold jN at e;rw[show kv.getD i (0,0)=kv[i] by simp[a],show kv.getD j (0,0)=kv[j] by simp[b]] at e
  have z1:=hb _ (List.getElem_mem a);have z2:=hb _ (List.getElem_mem b);have e1:(kv[i]).1=(kv[j]).1:=by lia
  have e2:(kv[i]).2=(kv[j]).2:=by lia
  exact(List.getElem_inj hd).mp (Prod.ext e1 e2)
 obtain⟨q,e,hp,ha⟩:=acC (key:=jN kv) h1 hi;exact QF (lt:=klt (jN kv)) (λi j C a b c=>acE hk hb a b c) _ _ (acG h1) (by rw[e];exact h q hp ha)
end _L
namespace _L
open PySem PySem.Spec PyProof.Rows
theorem acI{X:Cx}{st:Stmt}{h₀:ExceptHandler}{hs:List ExceptHandler}{pos:Pos}{t:TS}(hx:X.xe=λ_ _=>False)(hb:PS X st t):PS X (.Try [st] (h₀::hs) [] [] pos) t:=by
 intro pins s σ H D I h;refine wpAny_Try_except (wpAny_execs_cons (wpAny_mono (hb pins s σ H D I h) (λf s1 q=>?_) λe s' z=>?_))
 ·cases f with
  | next=>exact wpAny_execs_nil (wpAny_execs_nil q)
  | ret v=>exact q
  | brk=>exact q
  | cont=>exact q
 ·rw[hx] at z;exact False.elim z
theorem acJ{X:Cx}{K:PySem.W.Frag}{e:Expr}{f:Str}{pos:Pos}{ta:TE}(h:X.K=K)(he:PE X e ta)(hb:attributeBase e f X.env (eval e X.env)=eval e X.env):PE X (.Attribute e f pos) (rR K ta f):=h▸O8 he hb
section
variable{K:PySem.W.Frag}{C:Addr}{H H':Hp}{l:Addr}{ps:List Addr}{qs:List Ak}
structure G0(T:Int)(q:Ak):Prop where
 f0:0<=q.first
 m0:0<=q.many
 m1:q.many<=16
 fit:q.first+q.many<=T
end
noncomputable abbrev G1(qual:Str)(scope:Scope)(L f c':Addr)(cl:List (Str×Addr)):Env:=PySem.W.envX qual scope L f (.ref c') cl
noncomputable def wM(X:Cx)(A:Around)(qual:Str)(scope:Scope)(f c':Addr)(cl:List (Str×Addr))(N:List Str)(s:Shared)(H:Hp):Cx where
 prog:=X.prog
 w:=X.w
 K:=X.K
 mg:=X.mg
 base:=X.base
 A:=A.deeper (G1 qual scope s.heap.objs.size f c' cl)
 N:=N
 dw:=s
 pY:=H
 env:=G1 qual scope s.heap.objs.size f c' cl
 outer:=X.stack
 stack:=G1 qual scope s.heap.objs.size f c' cl::X.stack
 ex:=[]
 fn:=λ_=>false
 calm:=X.calm
 pn:=[]
 xe:=λ_ _=>False
structure kU(X:Cx)(scope:Scope)(cl:List (Str×Addr))(ps fs:List Str)(fv:List Nat):Prop where
 lZ:closureFor scope X.env=pure cl
 kind:scope.kind = .function
 co:scope.isCoroutine=false
 gen:scope.isGenerator=false
 wN:∀y∈scope.names,y.2≠.cell
 par:∀y∈ps,scope.names.lookup y=some .local
 sub:∀p∈cl,X.env.cells.lookup p.1=some p.2
 has:∀y∈scope.names,y.2 = .free->∃c,cl.lookup y.1=some c
 free:fv.map (λj=>X.N[j]?)=fs.map some
 fk:∀y∈fs,scope.names.lookup y=some .free/\X.env.scope.names.lookup y=some .cell
 nd:(ps++fs).Nodup
theorem QJ{α:Type}:∀ {l:List (Str×α)} {x:Str} {v:α},(l.map (·.1)).Nodup->(x,v)∈l->l.lookup x=some v
 | (y,u)::r,x,v,nd,hm=>by
  rw[List.map_cons,List.nodup_cons] at nd;rcases List.mem_cons.mp hm with e | e
  ·cases e;simp[List.lookup_cons]
  ·have:x≠y:=λz=>nd.1 (by rw[← z];exact List.mem_map.mpr ⟨_,e,rfl⟩)
   rw[List.lookup_cons,beq_eq_false_iff_ne.mpr this];exact QJ nd.2 e
section
variable{X:Cx}{pins:List (Addr×Obj)}{σ:St}{H:Hp}{s:Shared}{scope:Scope}{cl:List (Str×Addr)}{ps fs:List Str}{fv:List Nat}{A:Around}{qual:Str}{f c':Addr}
noncomputable def o7(σ:St)(vs:List V)(fv:List Nat):St:=vs.map some++fv.map λj=>(σ[j]?).getD none
theorem kU.cell(S:kU X scope cl ps fs fv){x:Str}{c:Addr}(e:cl.lookup x=some c):X.env.cells.lookup x=some c:=S.sub (x,c) (mZ e)
theorem acK{ps:List Str}{us:List Value}{i:Nat}{x:Str}{u:Value}(nd:ps.Nodup)(e1:ps[i]? = some x)(e2:us[i]? = some u):(ps.zip us).reverse.lookup x=some u:=by
 have wO:((ps.zip us).reverse.map (·.1)).Nodup:=by
  rw[List.map_reverse];refine List.pairwise_reverse.mpr (List.Pairwise.imp Ne.symm (show ((ps.zip us).map (·.1)).Nodup from ?_));have:(ps.zip us).map (·.1)=ps.take us.length:=by
   clear e1 e2 nd
   induction ps generalizing us with
   | nil=>simp
   | cons a r ih=>cases us with
    | nil=>simp
    | cons b q=>simp[ih]
  rw[this];exact nd.sublist (List.take_sublist _ _)
 have hm:(x,u)∈(ps.zip us).reverse:=by
  rw[List.mem_reverse];refine List.mem_of_getElem? (i:=i) ?_;rw[List.getElem?_zip_eq_some];exact⟨e1,e2⟩
 exact QJ wO hm
theorem kU.inv(S:kU X scope cl ps fs fv)(I:Inv X pins σ H s)(hA:A.frames=some X.stack)(hd:X.calm=true->A.handled=none){h1:Heap}{tk:Nat}{us:List Value}{vs:List V}(r:Vals vs us)(hl:vs.length=ps.length)
  (old:∀b o,s.heap.get? b=some o->h1.get? b=some o) (kH:h1.Ns s.heap.objs.size λy=>(ps.zip us).reverse.lookup y) :
  Inv (wM X A qual scope f c' cl (ps++fs) s H) [] (o7 σ vs fv) H { s with heap:=h1,toks:=tk }:=by
 have I1:Inv X pins σ H { s with heap:=h1,toks:=tk }:=I.kept old;have hlen:fv.length=fs.length:=by simpa using congrArg List.length S.free
 refine⟨⟨I.ok.mod,S.kind,rfl,rfl,Nat.le_refl _,λx y c e1 e2=>I.ok.inj x y c (S.cell e1) (S.cell e2),λx hx=>?_,λx c z _=>?_,hd,Around.frames_deeper hA,.inr ⟨rfl,rfl⟩,λb z=>absurd (show b∈([]:List Addr) from z) (by simp),I.bs,Nat.le_trans I.ok.gB I.sz,
  λb _ _ z=>absurd (show b∈([]:List Addr) from z) (by simp),λb z=>absurd (show b∈([]:List Addr) from z) (by simp),I.stack,I.Fj⟩,rfl,I.bare,Un.kept old,⟨_,kH,λi x v e1 e2 e3=>?_⟩,λx c e=>?_,I.aM.fresh (Nat.le_refl _),λx c e=>I.ki x c (S.cell e),
  λp hp=>absurd (show p∈([]:List (Addr×Obj)) from hp) (by simp),I1.aM,?_⟩
 ·have hx:scope.names.lookup x=some .cell\/scope.names.lookup x=some .free:=hx;rcases hx with z | z
  ·exact absurd rfl (S.wN _ (mZ z))
  ·exact S.has _ (mZ z) rfl
 ·cases (show false=true from z)
 ·have e1:(ps++fs)[i]? = some x:=e1;unfold o7 at e2;by_cases hi:i<ps.length
  ·rw[List.getElem?_append_left hi] at e1;rw[List.getElem?_append_left (by simp;lia),List.getElem?_map] at e2
   cases hv:vs[i]? with
   | none=>rw[hv] at e2;simp at e2
   | some v' =>
    rw[hv] at e2;simp only[Option.map_some,Option.some.injEq] at e2;subst e2;obtain⟨u,hu,ru⟩:=r.get hv;exact⟨u,ru,.inl ⟨S.par x (List.mem_of_getElem? e1),acK (List.nodup_append.mp S.nd).1 e1 hu⟩⟩
  ·rw[List.getElem?_append_right (by lia)] at e1
   rw[List.getElem?_append_right (by simp;lia)] at e2
   simp only[List.length_map,List.getElem?_map,hl] at e2;cases hj:fv[i - ps.length]? with
   | none=>rw[hj] at e2;simp at e2
   | some j =>
    rw[hj] at e2;simp only[Option.map_some,Option.some.injEq] at e2;have hN:X.N[j]? = some x:=by
     have q:=congrArg (λl=>l[i - ps.length]?) S.free;simp only[List.getElem?_map,hj,Option.map_some] at q;rw[e1] at q;exact(Option.some.inj q)
    have G2:σ[j]? = some (some v):=by
     cases z:σ[j]? with
     | none=>rw[z] at e2;simp at e2
     | some y=>rw[z] at e2;simp at e2;rw[e2]
    obtain⟨f1,f2⟩:=S.fk x (List.mem_of_getElem? e1);obtain⟨m,hn,hlk⟩:=I1.loc;obtain⟨u,ru,lk⟩:=hlk j x v hN G2 (.inr (.inl f2));refine⟨u,ru,?_⟩;rcases lk with⟨k,_⟩ | ⟨_,c,ec,hc⟩
    ·have k:X.env.scope.names.lookup x=some .local:=k;rw[f2] at k;cases k
    ·obtain⟨c2,e'⟩:=S.has _ (mZ f1) rfl;have:=S.cell e';rw[ec] at this;cases this;exact .inr ⟨.inr f1,c,e',hc⟩
 ·obtain⟨v,z⟩:=I1.cell x c (S.cell e);exact⟨v,z⟩
 ·unfold o7
  show _=(ps++fs).length;simp only[List.length_append,List.length_map];lia
theorem acL{name:Str}{params:Arguments}{body:Expr}{te:TE}{pm dU:Value}{us:List Value}{vs:List V}{Q:VK}(S:kU X scope cl ps fs fv)(I:Inv X pins σ H s)(hA:A.frames=some X.stack)(hd:X.calm=true->A.handled=none)(l6:A.depth<recursionLimit)
  (ho:s.heap.get? f=some (PySem.W.kla_obj name qual params body scope cl pm c' dU)) (eS:s.heap.CodeRec (.ref c') qual)
  (jL:bindArgs (PySem.W.kla_fn name qual params body scope cl pm (.ref c') dU) ⟨us,[]⟩=pure (ps.zip us)) (r:Vals vs us) (hl:vs.length=ps.length)
  (he:PE (wM X A qual scope f c' cl (ps++fs) s H) body te) (h:te (o7 σ vs fv) H Q) :
  wpAny (model X.prog X.w) A (call (.ref f) us) (λu s'=>∃v H',Inv X pins σ H' s'/\RelV v u/\Q v H'/\Un (gc X.stack) [] H H' s.heap s'.heap) (λ_ _=>False) s:=by
 refine wpAny_call (PySem.W.kla_callFunE (A:=A) l6 ho rfl S.co S.gen rfl eS ?_);rw[jL];refine wpAny_pure (wpAny_newFunctionEnv S.wN (λy hy=>S.par _ (List.of_mem_zip hy).1) (λh1 kH QK=>⟨(I.nolimit).fresh _ QK,?_⟩) S.kind);have old:∀b o,s.heap.get? b=some o->h1.get? b=some o:=λb o e=>QK.extBut b o (Nat.ne_of_lt (Heap.lt_size e)) (Heap.get?_push_of_some _ e);have J:=S.inv (qual:=qual) (f:=f) (c':=c') (A:=A) (tk:=s.toks+(ps.zip us).length) I hA hd r hl old kH;refine PySem.W.kla_codeExpr (wpAny_mono (he [] _ _ _ Q J h) (λu s' hq=>?_) λ_ _ z=>False.elim z);obtain⟨v,H',J',rv,q⟩:=hq;exact⟨v,H',I.OM J'.os J'.base J'.aM J'.bare (λ_ z=>nomatch z),rv,q,J'.base⟩
end
noncomputable def o8(c':Addr)(qual:Str):HO:=.ext λh=>h.CodeRec (.ref c') qual
noncomputable def cH(P:Addr)(pos:Pos)(qual:Str)(H:Hp):Prop:=∃ps,H P=some (.eO ps)/\TriplesOk ps.toList/\(codeAmong pos ps.toList=none\/∃c',codeAmong pos ps.toList=some (.ref c')/\H c' = some (o8 c' qual))
structure bx(mg:Str->Option Value)(base:Heap)(c P:Addr):Prop where
 hd:PySem.W.CodeHd base c P
 bm:∃bm ob,mg "__builtins__" = some (.ref bm)/\bm≠builtinsNs/\base.get? bm=some ob/\ob.cls = .type "module"/\ob.dict=some builtinsNs/\ob.data = .plain
theorem acM{P:Program}{w:World}{H:Hp}{h:Heap}{c':Addr}{qual:Str}(x:h.CodeRec (.ref c') qual):dB P w H h c' (o8 c' qual):=by
 refine⟨x,?_,λh1 h2 y k=>?_⟩
 ·obtain⟨c,o,vs,t,e,g,_⟩:=x;cases e;exact⟨o,g⟩
 ·obtain⟨c,o,vs,t,e,g,r⟩:=y;cases e;exact⟨c',o,vs,t,rfl,k o g,r⟩
theorem acN{P:Program}{w:World}{H:Hp}{h:Heap}{c':Addr}{qual:Str}(x:cU P w H h)(e:H c' = some (o8 c' qual)):h.CodeRec (.ref c') qual:=(x c' _ e).1
theorem QL{a b:Int}{t u:Tok}{c:Value}:∀ {l:List Value},TriplesOk l->TriplesOk (l++[.int a t,.int b u,c])
 | [],_=>trivial
 | .int _ _::.int _ _::_::r,h=>QL (l:=r) h
section
variable{X:Cx}{pins:List (Addr×Obj)}{σ:St}{H:Hp}{s:Shared}{scope:Scope}{cl:List (Str×Addr)}{M:Model}{A:Around}{E:Value->Shared->Prop}{name qual:Str}{params:Arguments}{body:Expr}{pos:Pos}{firstLine:Nat}{c P:Addr}
theorem acO{Q:Value->Shared->Prop}(B:bx X.mg X.base c P)(sV:X.env.code = .ref c)(o9:closureFor scope X.env=pure cl)(I:Inv X pins σ H s)(hT:cH P pos qual H)
  (h:∀(f c':Addr) (dU pm:Value) (H':Hp) (s':Shared),Inv X ((f,PySem.W.kla_obj name qual params body scope cl pm c' dU)::pins) σ H' s'->SameBut P H H'->cH P pos qual H'->H' c' = some (o8 c' qual)->Q (.ref f) s') :
  wpAny M A (makeFunction name qual params (.expr body) scope X.env [] [] [] pos firstLine) Q E s:=by
 obtain⟨ps,hP,tr,hc⟩:=hT;have oP:s.heap.get? P=some (PySem.W.tabObj ps):=I.aM P _ hP;have G3:s.heap.Ns mainGlobals X.mg:=I.mod.glob.keeps I.bk;obtain⟨bm,ob,b1,b2,b3,b4,b5,b6⟩:=B.bm;have hgP:mainGlobals≠P:=λq=>by
  obtain⟨o,es,ep,e,hd,_⟩:=G3;rw[q,oP] at e;cases e;cases hd
 have hbP:bm≠P:=λq=>by
  have e:=I.bk _ _ b3;rw[q,oP] at e;cases e;cases b4
 have hbG:bm≠mainGlobals:=λq=>by
  obtain⟨o,es,ep,e,hd,_⟩:=I.mod.glob;rw[q,e] at b3;cases b3;rw[hd] at b6;cases b6
 have QM:s.heap.BuiltinsAt X.mg P:=⟨bm,ob,b1,b2,hbG,hbP,I.bk _ _ b3,b4,b5,b6⟩;have nf:∀(h1:Heap) (o:Obj),s.heap.objs.size<=h1.objs.size->(h1.push o).get? h1.objs.size=some o->True:=λ_ _ _ _=>trivial;have LP:X.env.locals≠P:=λz=>by rw[← z,I.free] at hP;cases hP
 rcases hc with hc | ⟨c',hc,QN⟩
 ·refine PySem.W.kla_makeFunction (mg:=X.mg) o9 I.ok.glob G3 sV (B.hd.keeps I.bk) oP tr hc hgP QM λc' dU h1 tk hx Ao cj acP htb=>?_;have nc:H c' = none:=I.aM.fresh Ao;have cP:c'≠P:=λz=>by rw[z,hP] at nc;cases nc
  have kp:∀b o,b≠P->s.heap.get? b=some o->(h1.push (PySem.W.kla_obj name qual params body scope cl ((X.mg "__name__").getD .none) c' dU)).get? b=some o:=λb o hb e=>Heap.get?_push_of_some _ (hx b o hb e);have QO:=Heap.get?_push_of_some (PySem.W.kla_obj name qual params body scope cl ((X.mg "__name__").getD .none) c' dU) htb;have sW:∀b u,H b=some u->b≠P->upd (upd H P (.eO (ps ++ #[rawInt pos.line,rawInt pos.col,.ref c']))) c' (o8 c' qual) b=some u:=λb u e hb=>by
   rw[aI (λz=>by rw[z,nc] at e;cases e),aI hb];exact e
  have I1:Inv X pins σ (upd (upd H P (.eO (ps ++ #[rawInt pos.line,rawInt pos.col,.ref c']))) c' (o8 c' qual)) { s with heap:=h1.push (PySem.W.kla_obj name qual params body scope cl ((X.mg "__name__").getD .none) c' dU),toks:=tk }:=by
   refine I.step (g':=s.gens) (d':=s.drawn) (ch:=[]) (λ_ z=>nomatch z) (λb o _ _ _ e n=>kp b o (λz=>by rw[z,hP] at n;cases n) e) (λb o _ _ _ e n=>⟨o.slots,kp b o (λz=>by rw[z,hP] at n;cases n) e⟩) (λb o _ e n=>?_)
    (λb o _ e=>?_) (λb xs e=>sW b _ e (λz=>by rw[z,hP] at e;cases e)) (λb o u e=>sW b _ e (λz=>by rw[z,hP] at e;cases e)) (λb dO e=>?_) (λm hm=>(hm.extBut hx LP).push _) (λb v e=>?_) I.bare
   ·rw[aI (λz=>absurd (Nat.lt_of_lt_of_le (Heap.lt_size e) Ao) (by rw[z];exact Nat.lt_irrefl _)),aI (λz=>by rw[z,hP] at n;cases n)];exact n
   ·by_cases hb:b=P
    ·rw[hb];exact⟨_,QO⟩
    ·exact⟨o,kp b o hb e⟩
   ·by_cases hb:b=P
    ·subst hb;rw[hP] at e;cases e;exact⟨#[rawInt pos.line,rawInt pos.col,.ref c'],by rw[aI cP.symm,aD]⟩
    ·exact⟨#[],by rw[Array.append_empty];exact sW b _ e hb⟩
   ·by_cases QS:b=c'
    ·subst QS;rw[aD] at e;cases e;exact acM (acP.push _)
    ·rw[aI QS] at e;by_cases hb:b=P
     ·subst hb;rw[aD] at e;cases e;exact QO
     ·rw[aI hb] at e;refine(I.aM b v e).kh (λd o hd q=>kp d o ?_ q) (λd q=>sW d _ q (λz=>by rw[z,hP] at q;cases q)) (λd xs q=>sW d _ q (λz=>by rw[z,hP] at q;cases q))
      rcases hd with z | z
      ·rw[z];exact hb
      ·exact λy=>by rw[y,hP] at z;cases z
  have of:=Heap.get?_push_size h1 (o:=PySem.W.kla_obj name qual params body scope cl ((X.mg "__name__").getD .none) c' dU) rfl;have G4:s.heap.objs.size<=h1.objs.size:=by lia
  refine h h1.objs.size c' dU ((X.mg "__name__").getD .none) _ _ (I1.lJ λp hp=>?_) ?_ ⟨_,by rw[aI cP.symm,aD],?_,.inr ⟨c',?_,aD⟩⟩ aD
  ·rcases List.mem_cons.mp hp with e | hp
   ·rw[e];refine⟨of,?_,λz=>absurd (Nat.lt_of_lt_of_le I.lt (by assumption)) (by rw[← z];exact Nat.lt_irrefl _),I.uJ G4,λv z=>by cases z⟩
    show upd (upd H P _) c' _ h1.objs.size=none;rw[aI (Nat.ne_of_gt cj),aI (Nat.ne_of_gt (Nat.lt_of_lt_of_le (Heap.lt_size oP) G4))];exact I.aM.fresh G4
   ·exact I1.pin p (List.mem_append_right _ hp)
  ·intro b o e hb;exact sW b o e hb
  ·rw[Array.toList_append];exact QL tr
  ·rw[Array.toList_append];exact codeAmong_snoc _ tr hc
 ·refine PySem.W.kla_makeFunctionHit (mg:=X.mg) o9 I.ok.glob G3 sV (B.hd.keeps I.bk) oP tr hc QM λdU h1 tk hk hsz=>?_;have kp:∀b o,s.heap.get? b=some o->(h1.push (PySem.W.kla_obj name qual params body scope cl ((X.mg "__name__").getD .none) c' dU)).get? b=some o:=λb o e=>Heap.get?_push_of_some _ (hk b o e);have I1:=I.kept (t':=tk) kp;have of:=Heap.get?_push_size h1 (o:=PySem.W.kla_obj name qual params body scope cl ((X.mg "__name__").getD .none) c' dU) rfl;refine h h1.objs.size c' dU ((X.mg "__name__").getD .none) _ _ (I1.lJ λp hp=>?_) (λb o e _=>e) ⟨ps,hP,tr,.inr ⟨c',hc,QN⟩⟩ QN;rcases List.mem_cons.mp hp with e | hp
  ·rw[e];exact⟨of,I.aM.fresh hsz,λz=>absurd (Nat.lt_of_lt_of_le I.lt (by assumption)) (by rw[← z];exact Nat.lt_irrefl _),I.uJ hsz,λv z=>by cases z⟩
  ·exact I1.pin p (List.mem_append_right _ hp)
end
end _L
namespace _L
open PySem PySem.Spec PyProof.Rows PySem.W
section
variable{prog:Program}{w:World}{A:Around}{E:Value->Shared->Prop}{s:Shared}
theorem acQ{r S:Addr}{n:Nat}{t u v:Tok}{R:Result->Shared->Prop}(hh:A.handled=none)(hr:IsRange s.heap r 0 (n:Int) 1 t u v)(hn:n<64)(hS:s.heap.get? S=some { cls:=.type "list",data:=.seq #[] })
  (hR:∀(h':Heap) (tk:Nat) (acc:Array Value) (c:Nat),(∀b o,b≠S->s.heap.get? b=some o->h'.get? b=some o)->h'.get? S=some { cls:=.type "list",dict:=none,data:=.seq acc c,slots := #[] }->acc.size=n->(∀(i:Nat) (x:Value),acc[i]? = some x->∃t,x = .int (i:Int) t)->R (.ok (.ret (.ref S))) { s with heap:=h',toks:=tk }) :
  codeAny (model prog w) A (.builtin "list.__iadd__" ⟨[.ref S,.ref r],[]⟩) R s:=by
 refine codeAny_builtin PySem.F.entry_list_iadd ?_;rw[Around.under_plainId PySem.F.plain_list_iadd _];have en:Builtin.Range.rangeSize 0 (n:Int) 1=((n:Nat):Int):=by rw[rangeSize_one];split <;> lia
 refine wpAny_extend_range hh hr (small_one (by lia) (by lia) (by lia) (by lia)) en (by lia) S (.ref S) _ hS λh' tk acc c hk hS' jw=>hR h' tk acc c hk hS' jw.1 λi x e=>?_
 obtain⟨t,z⟩:=jw.2 i x e;exact⟨t,by rw[z];congr 1;lia⟩
theorem acR{r:Addr}{n:Nat}{t u v:Tok}{Q:List Value->Shared->Prop}(hh:A.handled=none)(hr:IsRange s.heap r 0 (n:Int) 1 t u v)(hn:n<64)
  (hQ:∀(h':Heap) (tk:Nat) (vs:List Value),(∀b o,s.heap.get? b=some o->h'.get? b=some o)->s.heap.objs.size<h'.objs.size->vs.length=n->(∀(i:Nat) (x:Value),vs[i]? = some x->∃t,x = .int (i:Int) t)->Q vs { s with heap:=h',toks:=tk }) :
  wpAny (model prog w) A (collect (.ref r)) Q E s:=by
 unfold collect;refine wpAny_bind (wpAny_runValue (codeAny_builtin PySem.F.entry_proto_collect ?_));rw[Around.under_plainId PySem.F.plain_proto_collect _];show wpAny _ A.in1 (newList [] >>= λl=>again (.builtin "list.__iadd__" ⟨[l,.ref r],[]⟩)) _ _ s;refine wpAny_bind (wpAny_newObj_type (wpAny_pure ⟨plainId_quiet PySem.F.plain_list_iadd _,acQ hh (Heap.get?_push_of_some _ hr) hn (Heap.get?_push_size _ rfl) λh' tk acc c hk hS jw ha=>?_⟩))
 show wpAny _ A (load s.heap.objs.size >>= _) _ _ _;refine wpAny_bind (wpAny_load hS (wpAny_pure (hQ h' tk acc.toList (λb o e=>hk b o (Nat.ne_of_lt (Heap.lt_size e)) (Heap.get?_push_of_some _ e)) (Heap.lt_size hS) (by simpa using jw) λi x e=>ha i x (by simpa using e))))
end
section
variable{X:Cx}{pins:List (Addr×Obj)}{σ:St}{H:Hp}{s:Shared}
theorem Inv.chg{h':Heap}{tk:Nat}{k:Addr}{m:Str->Option Value}(I:Inv X pins σ H s)(hm:s.heap.Ns X.env.locals m)(wQ:h'.Ns X.env.locals m)(n:H k=none)(hs:X.dw.heap.objs.size<=k)(hL:k≠X.env.locals)
  (hc:∀x c,X.env.cells.lookup x=some c->c≠k) (hp:∀p∈X.pn++pins,p.1≠k) (ho:∃o,h'.get? k=some o) (kk:∀b o,b≠X.env.locals->b≠k->s.heap.get? b=some o->h'.get? b=some o):Inv X pins σ H { s with heap:=h',toks:=tk }:=by
 have nl:∀b v,H b=some v->b≠X.env.locals:=λb v e z=>by rw[z,I.free] at e;cases e
 have nk:∀b v,H b=some v->b≠k:=λb v e z=>by rw[z,n] at e;cases e
 refine I.step (g':=s.gens) (d':=s.drawn) (ch:=[k]) (λb z=>by rw[List.mem_singleton.mp z];exact⟨.inr hs,hL,hc,hp⟩) (λb o hb _ hk e _=>kk b o hb (by simpa using hk) e) (λb o hb _ hk e _=>⟨o.slots,kk b o hb (by simpa using hk) e⟩) (λ_ _ _ _ n=>n) (λb o hk e=>?_) (λ_ _ e=>e) (λ_ _ _ e=>e)
  (λb ps e=>⟨#[],by rw[e];simp⟩) (λm' wR=>?_) (λb v e=>(I.aM b v e).kh (λc o hc e'=>kk c o ?_ ?_ e') (λ_ e=>e) (λ_ _ e=>e)) I.bare
 ·by_cases hb:b=X.env.locals
  ·obtain⟨o',_,_,z,_⟩:=wQ;exact⟨o',by rw[hb];exact z⟩
  ·exact⟨o,kk b o hb (by simpa using hk) e⟩
 ·have:m' = m:=by
   obtain⟨o1,Gx,Gy,g1,d1,k1,z1⟩:=wR;obtain⟨o2,Gz,GA,g2,d2,k2,z2⟩:=hm;rw[g1] at g2;cases g2;rw[d1] at d2;cases d2
   funext x
   rw[← z1 x,← z2 x]
  rw[this];exact wQ
 ·rcases hc with z | z
  ·rw[z];exact nl b v e
  ·exact nl c _ z
 ·rcases hc with z | z
  ·rw[z];exact nk b v e
  ·exact nk c _ z
theorem Inv.acS{h':Heap}{tk:Nat}{k D:Addr}{xs:List V}{m:Str->Option Value}(I:Inv X pins σ H s)(hm:s.heap.Ns X.env.locals m)(wQ:h'.Ns X.env.locals m)(nk:H k=none)(nD:H D=none)
  (two:∀b,b=k\/b=D->X.dw.heap.objs.size<=b/\b≠X.env.locals/\(∀x c,X.env.cells.lookup x=some c->c≠b)/\∀p∈X.pn++pins,p.1≠b)
  (kk:∀b o,b≠X.env.locals->b≠k->b≠D->s.heap.get? b=some o->h'.get? b=some o) (new:dB X.prog X.w (upd H D (.lst xs)) h' D (.lst xs)):Inv X pins σ (upd H D (.lst xs)) { s with heap:=h',toks:=tk }:=by
 have nl:∀b v,H b=some v->b≠X.env.locals:=λb v e z=>by rw[z,I.free] at e;cases e
 have n1:∀b v,H b=some v->b≠k:=λb v e z=>by rw[z,nk] at e;cases e
 have n2:∀b v,H b=some v->b≠D:=λb v e z=>by rw[z,nD] at e;cases e
 have up:∀b v,H b=some v->upd H D (.lst xs) b=some v:=λb v e=>by rw[aI (n2 b v e)];exact e
 have mem:∀b,b∉[k,D]->b≠k/\b≠D:=λb h=>⟨λz=>h (by rw[z];exact .head _),λz=>h (by rw[z];exact .tail _ (.head _))⟩
 refine I.step (g':=s.gens) (d':=s.drawn) (ch:=[k,D]) (λb z=>?_) (λb o hb _ hk e _=>kk b o hb (mem b hk).1 (mem b hk).2 e) (λb o hb _ hk e _=>⟨o.slots,kk b o hb (mem b hk).1 (mem b hk).2 e⟩) (λb o hk _ n=>by rw[aI (mem b hk).2];exact n) (λb o hk e=>?_) (λb xs e=>up b _ e) (λb o u e=>up b _ e)
  (λb ps e=>⟨#[],by rw[up b _ e];simp⟩) (λm' wR=>?_) (λb v e=>?_) I.bare
 ·have:b=k\/b=D:=by
   rcases List.mem_cons.mp z with q | q
   ·exact .inl q
   ·exact .inr (List.mem_singleton.mp q)
  obtain⟨a1,a2,a3,a4⟩:=two b this;exact⟨.inr a1,a2,a3,a4⟩
 ·by_cases hb:b=X.env.locals
  ·obtain⟨o',_,_,z,_⟩:=wQ;exact⟨o',by rw[hb];exact z⟩
  ·exact⟨o,kk b o hb (mem b hk).1 (mem b hk).2 e⟩
 ·have:m' = m:=by
   obtain⟨o1,Gx,Gy,g1,d1,k1,z1⟩:=wR;obtain⟨o2,Gz,GA,g2,d2,k2,z2⟩:=hm;rw[g1] at g2;cases g2;rw[d1] at d2;cases d2
   funext x
   rw[← z1 x,← z2 x]
  rw[this];exact wQ
 ·by_cases hb:b=D
  ·subst hb;rw[aD] at e;cases e;exact new
  ·rw[aI hb] at e;refine(I.aM b v e).kh (λc o hc e'=>?_) (λd e=>up d _ e) (λd xs e=>up d _ e);have q:∃v',H c=some v':=by
    rcases hc with z | z
    ·rw[z];exact⟨_,e⟩
    ·exact⟨_,z⟩
   obtain⟨v',q⟩:=q;exact kk c o (nl c _ q) (n1 c _ q) (n2 c _ q) e'
structure G5(X:Cx)(pins:List (Addr×Obj))(σ:St)(H1:Hp)(P:Addr)(pos:Pos)(qual:Str)(m:Str->Option Value)(kS:Addr)(kv:Nat->Int×Int)(ks:List Value)(e:Nat)(H:Hp)(s:Shared):Prop where
 I:Inv X ((kS,seqObj "list" ks.toArray e)::pins) σ H s
 ns:s.heap.Ns X.env.locals m
 sb:SameBut P H1 H
 tab:cH P pos qual H
 ky:∀(i:Nat) (hi:i<ks.length),∃a,ks[i] = .ref a/\H a=some (.tup [.int (kv i).1,.int (kv i).2])
variable{scope:Scope}{cl:List (Str×Addr)}{ps fs:List Str}{fv:List Nat}{A:Around}{qual name:Str}{f c' P kS:Addr}{params:Arguments}{body:Expr}{te:TE}{pm dU:Value}{pos:Pos}{kv:Nat->Int×Int}{n:Nat}{H1:Hp}{m:Str->Option Value}
theorem QT(S:kU X scope cl ps fs fv)(sX:ps.length=1)(he:∀s H,PE (wM X A qual scope f c' cl (ps++fs) s H) body te)(hA:A.frames=some X.stack)(hd:X.calm=true->A.handled=none)(l6:A.depth<recursionLimit)(fu:X.stack=X.env::X.outer)(o_:X.env.frame=some X.env.locals)
  (hex:X.ex = []) (hf:(f,kla_obj name qual params body scope cl pm c' dU)∈pins) (hc:H1 c' = some (o8 c' qual)) (sY:c'≠P) (jL:∀u,bindArgs (kla_fn name qual params body scope cl pm (.ref c') dU) ⟨[u],[]⟩=pure (ps.zip [u]))
  (oJ:∀(j:Nat) (H:Hp),j<n->SameBut P H1 H->cH P pos qual H->te (o7 σ [.int (j:Int)] fv) H λv H'=>∃a,v = .ref a/\H a=none/\H' = upd H a (.tup [.int (kv j).1,.int (kv j).2]))
  (lo:X.dw.heap.objs.size<=kS) (Aq:kS≠X.env.locals) (As:∀x c,X.env.cells.lookup x=some c->c≠kS) (QU:∀p∈X.pn++pins,p.1≠kS)
  {Fin:List Value->Nat->Shared->Prop} (QV:∀ks e H s,G5 X pins σ H1 P pos qual m kS kv ks e H s->ks.length=n->Fin ks e s) :
  ∀(r ks:List Value) (e:Nat) (H:Hp) (s:Shared),ks.length+r.length=n->(∀(i:Nat) (x:Value),r[i]? = some x->∃t,x = .int ((ks.length+i:Nat):Int) t)->G5 X pins σ H1 P pos qual m kS kv ks e H s->KatKeys X.prog X.w A X.base X.env.locals m kS (.ref f) Fin r ks e s
 | [],ks,e,H,s,hl,_,K=>KatKeys.nil (QV ks e H s K (by simpa using hl))
 | x::r,ks,e,H,s,hl,hi,K=>by
  rw[List.length_cons] at hl;obtain⟨t,rfl⟩:=hi 0 x rfl;have pf:=K.I.pin _ (List.mem_append_right _ (List.mem_cons_of_mem _ hf));have pk:=K.I.pin (kS,seqObj "list" ks.toArray e) (List.mem_append_right _ (List.mem_cons_self ..));have sV:s.heap.CodeRec (.ref c') qual:=acN K.I.aM (K.sb _ _ hc sY);have hx:=oJ ks.length H (by lia) K.sb K.tab
  refine KatKeys.cons (wpAny_mono (acL (us:=[.int ((ks.length+0:Nat):Int) t]) (vs:=[.int (ks.length:Int)]) S K.I hA hd l6 pf.1 sV (jL _) (.cons ⟨t,by simp⟩ .nil) (by simpa using sX.symm) (he s H) hx) (λu s' hq=>?_) λ_ _ z=>z)
  obtain⟨v,H',J,rv,⟨a,rfl,na,rfl⟩,un⟩:=hq;cases rv;have fT:s'.heap.Ns X.env.locals m:=by
   obtain⟨o,es,ep,eo,eF,r'⟩:=K.ns;have mem:X.env.locals∈gc X.stack:=by unfold gc;rw[fu,List.filterMap_cons,o_];exact List.mem_cons_self ..
   obtain⟨sl,q⟩:=un.slot _ o eo K.I.free mem (by simp)
   exact⟨_,es,ep,q,eF,r'⟩
  have bk:X.base.get? kS=none:=Heap.get?_none_of_le (Nat.le_trans K.I.ok.gB lo);have Au:=J.pin (kS,seqObj "list" ks.toArray e) (List.mem_append_right _ (List.mem_cons_self ..));refine KatBack.intro (news:=(kS,seqObj "list" ks.toArray e)::rest X.base s'.heap X.env.locals kS) (g:=λo=>(kS,o)::rest X.base s'.heap X.env.locals kS) ⟨fT,J.bk,Nat.le_trans J.ok.gB J.ok.above⟩ (news_at Aq bk Au.1) (.head yZ) λh2 c2 F2 N2=>?_;have kept:=y_ (d:=kS) J.bk F2 λp hp=>N2 p (List.mem_cons_of_mem _ hp);have nB:=(N2 _ (List.mem_cons_self ..)).1;have J1:Inv X pins σ (upd H a (.tup [.int (kv ks.length).1,.int (kv ks.length).2])) s':=J.lJ λp hp=>J.pin p (List.mem_append_right _ (List.mem_cons_of_mem _ hp));have J2:=J1.chg (tk:=s'.toks) fT F2.ns Au.2.1 lo Aq As QU ⟨_,nB⟩ λb o hb hk e=>kept b o hb hk e;have acT:∀v,(seqObj "list" (ks++[Value.ref a]).toArray c2).data≠.cell v:=λv z=>by cases z
  refine QT S sX he hA hd l6 fu o_ hex hf hc sY jL oJ lo Aq As QU QV r (ks++[.ref a]) c2 _ { s' with heap:=h2 } (by simp;lia) (λi x e=>?_) ⟨J2.lJ λp hp=>?_,F2.ns,?_,?_,λi iC=>?_⟩
  ·obtain⟨t',z⟩:=hi (i+1) x (by simpa using e)
   exact⟨t',by rw[z];congr 1;simp;lia⟩
  ·rcases List.mem_cons.mp hp with q | q
   ·rw[q];exact⟨nB,Au.2.1,Aq,Au.2.2.2.1,acT⟩
   ·exact J2.pin p (List.mem_append_right _ q)
  ·intro b o e hb;have:=K.sb b o e hb;rw[aI (λz=>by rw[z,na] at this;cases this)];exact this
  ·obtain⟨dO,e1,e2,e3⟩:=K.tab;refine⟨dO,by rw[aI (λz=>by rw[z,na] at e1;cases e1)];exact e1,e2,e3.imp id λ⟨c2,z1,z2⟩=>⟨c2,z1,by rw[aI (λz=>by rw[z,na] at z2;cases z2)];exact z2⟩⟩
  ·by_cases cj:i<ks.length
   ·obtain⟨a',z1,z2⟩:=K.ky i cj;exact⟨a',by rw[List.getElem_append_left cj];exact z1,by rw[aI (λz=>by rw[z,na] at z2;cases z2)];exact z2⟩
   ·have e:i=ks.length:=by simp at iC;lia
    subst e;exact⟨a,by simp,aD⟩
theorem QW{h:Heap}:∀ {ks:List Value} {wU:List (Int×Int)},Am h ks wU->∃fs,KatTups h ks fs/\fs.length=ks.length/\∀v∈fs,∃d t,v = .int d t
 | [],wU,_=>⟨[],trivial,rfl,λv z=>nomatch z⟩
 | k::ks,[],p=>absurd p.1 (by simp)
 | k::ks,q::wU,p=>by
  obtain⟨a,ea,o,t,u,n,e1,e2,e3⟩:=p.2 0 (by simp)
  have ea:k = .ref a:=by simpa using ea
  subst ea;obtain⟨fs,h1,h2,h3⟩:=QW (ks:=ks) (wU:=wU) ⟨by have:=p.1;simpa using this,λi hi=>by
   obtain⟨b,z1,z2⟩:=p.2 (i+1) (by simpa using hi)
   exact⟨b,by simpa using z1,by simpa using z2⟩⟩
  refine⟨.int _ t::fs,.cons e1 e2 e3 rfl h1,by simp[h2],λv hv=>?_⟩
  rcases List.mem_cons.mp hv with z | z
  ·exact⟨_,_,z⟩
  ·exact h3 v z
noncomputable def kW(kv:Nat->Int×Int)(n:Nat)(is:List Nat):Prop:=is.Perm (List.range n)/\∀i j,i<j->j<n->(kv (is.getD i 0)).1*64+(kv (is.getD i 0)).2<(kv (is.getD j 0)).1*64+(kv (is.getD j 0)).2
theorem acU{Q:VK}{rg:Addr}{t u v:Tok}(S:kU X scope cl ps fs fv)(sX:ps.length=1)(he:∀s H,PE (wM X X.A.in1.in1 qual scope f c' cl (ps++fs) s H) body te)(G6:X.calm=true)(l6:X.A.in1.in1.depth<recursionLimit)(fu:X.stack=X.env::X.outer)(o_:X.env.frame=some X.env.locals)
  (hex:X.ex = []) (I:Inv X ((f,kla_obj name qual params body scope cl pm c' dU)::pins) σ H s) (hc:H c' = some (o8 c' qual)) (sY:c'≠P) (tab:cH P pos qual H) (jL:∀u,bindArgs (kla_fn name qual params body scope cl pm (.ref c') dU) ⟨[u],[]⟩=pure (ps.zip [u]))
  (hr:IsRange s.heap rg 0 (n:Int) 1 t u v) (h2:2<=n) (ju:n<64) (hb:∀j,j<n->0<=(kv j).2/\(kv j).2<64) (G7:∀i j,i<n->j<n->kv i=kv j->i=j)
  (oJ:∀(j:Nat) (H2:Hp),j<n->SameBut P H H2->cH P pos qual H2->te (o7 σ [.int (j:Int)] fv) H2 λv H'=>∃a,v = .ref a/\H2 a=none/\H' = upd H2 a (.tup [.int (kv j).1,.int (kv j).2]))
  (q:∀(D:Addr) (is:List Nat) (H':Hp),SameBut P H H'->cH P pos qual H'->H D=none->H' D=none->kW kv n is->Q (.ref D) (upd H' D (.lst (is.map λ(i:Nat)=>V.int (i:Int))))) :
  wpAny (model X.prog X.w) X.A (call (.builtin "sorted") [.ref rg] [(Str.ofString "key",.ref f)]) (EP X pins σ Q) X.xe s:=by
 have QX:=I.ok.hd G6;refine call_function_entry_kw kind_sorted plain_sorted entry_sorted (ksk_s1 _ _) ?_;unfold Builtin.«sorted»;refine wpAny_bind (m:=checkCount "sorted" 1 1 _) (wpAny_pure ?_);refine wpAny_bind (acR (A:=X.A.in1) QX hr ju λh1 wV vs k1 sz len items=>?_);refine wpAny_bind (wpAny_newList ?_ (by rw[sizeLine_eq];lia))
 obtain⟨m,hm,akf⟩:=I.loc;have oD:(h1.push (seqObj "list" vs.toArray 0)).get? h1.objs.size=some (seqObj "list" vs.toArray 0):=Heap.get?_push_size _ rfl;have k2:∀b o,s.heap.get? b=some o->(h1.push (seqObj "list" vs.toArray 0)).get? b=some o:=λb o e=>Heap.get?_push_of_some _ (k1 b o e);have I1:=I.kept (t':=wV) k2;have Av:X.dw.heap.objs.size<=h1.objs.size:=Nat.le_trans I.sz (Nat.le_of_lt sz);have DL:h1.objs.size≠X.env.locals:=Nat.ne_of_gt (Nat.lt_trans I.lt sz);have nD:H h1.objs.size=none:=I.aM.fresh (Nat.le_of_lt sz);have old:∀b o,s.heap.get? b=some o->b<h1.objs.size:=λb o e=>Nat.lt_trans (Heap.lt_size e) sz;have bD:X.base.get? h1.objs.size=none:=Heap.get?_none_of_le (Nat.le_trans I.ok.gB Av);have qD:(h1.push (seqObj "list" vs.toArray 0)).Ns X.env.locals m:=hm.keeps k2;have above:X.base.objs.size<=X.env.locals:=Nat.le_trans I.ok.gB I.ok.above
 show wpAny _ _ _ _ _ { s with heap:=h1.push (seqObj "list" vs.toArray 0),toks:=wV };refine wpAny_bind (wpAny_holding (wpAny_call_entry_kw slot_list_sort ⟨_,oD,rfl⟩ entry_list_sort ?body (ksk_l1 _ _)))
 case body =>
  show wpAny (model X.prog X.w) X.A.in1.in1 (Builtin.«list.sort» ⟨[.ref h1.objs.size],[(Str.ofString "key",.ref f)]⟩) _ _ _;rw[ksk_t1];refine kat_keyed (s:={ s with heap:=h1.push (seqObj "list" vs.toArray 0),toks:=wV }) (h₀:=X.base) (L:=X.env.locals) (m:=m) (news:=rest X.base (h1.push (seqObj "list" vs.toArray 0)) X.env.locals h1.objs.size) ⟨qD,I1.bk,above⟩ (λp hp=>y9 p (List.mem_filter.mp hp).1) oD DL bD yZ (by lia) (by lia) λkS e1 h' F' N' l0 l1=>?_
  have acV:=y_ (d:=h1.objs.size) I1.bk F' λp hp=>N' p (List.mem_cons_of_mem _ (List.mem_cons_of_mem _ hp));have okS:=N' _ (List.mem_cons_self ..);have QY:=N' _ (List.mem_cons_of_mem _ (List.mem_cons_self ..));have G8:X.dw.heap.objs.size<=kS:=Nat.le_trans Av (Nat.le_of_lt l0);have Aw:∀x c,X.env.cells.lookup x=some c->c<h1.objs.size:=λx c e=>by
   obtain⟨v,o,z,_⟩:=I.cell x c e;exact old _ _ z
  have Ax:∀p∈X.pn++((f,kla_obj name qual params body scope cl pm c' dU)::pins),p.1<h1.objs.size:=λp hp=>old _ _ (I.pin p hp).1;have QZ:X.env.locals<h1.objs.size:=Nat.lt_trans I.lt sz;have I2:=I1.chg (tk:=wV) qD F'.ns nD Av DL (λx c e=>Nat.ne_of_lt (Aw x c e)) (λp hp=>Nat.ne_of_lt (Ax p hp)) ⟨_,QY.1⟩ acV;have nS:H kS=none:=I.aM.fresh (Nat.le_of_lt (Nat.lt_trans sz l0));have Q0:∀b,s.heap.objs.size<=b->b∉X.fs:=λb hb=>I.uJ hb;have Q3:∀(a:Array Value) (e:Nat) v,(seqObj "list" a e).data≠.cell v:=λa e v z=>by cases z
  have K0:G5 X ((h1.objs.size,seqObj "list" #[] e1)::(f,kla_obj name qual params body scope cl pm c' dU)::pins) σ H P pos qual m kS kv [] 0 H { s with heap:=h',toks:=wV }:=by
   refine⟨I2.lJ λp hp=>?_,F'.ns,λb o e _=>e,tab,λi hi=>absurd hi (by simp)⟩
   rcases List.mem_cons.mp hp with z | hp
   ·rw[z];exact⟨okS.1,nS,Nat.ne_of_gt (Nat.lt_trans QZ l0),Q0 _ (Nat.le_of_lt (Nat.lt_trans sz l0)),Q3 _ _⟩
   ·rcases List.mem_cons.mp hp with z | hp
    ·rw[z];exact⟨QY.1,nD,DL,Q0 _ (Nat.le_of_lt sz),Q3 _ _⟩
    ·exact I2.pin p (List.mem_append_right _ hp)
  have acW:∀p∈X.pn++((h1.objs.size,seqObj "list" #[] e1)::(f,kla_obj name qual params body scope cl pm c' dU)::pins),p.1≠kS:=λp hp=>by
   rcases List.mem_append.mp hp with hp | hp
   ·exact Nat.ne_of_lt (Nat.lt_trans (Ax p (List.mem_append_left _ hp)) l0)
   ·rcases List.mem_cons.mp hp with z | hp
    ·rw[z];exact Nat.ne_of_lt l0
    ·exact Nat.ne_of_lt (Nat.lt_trans (Ax p (List.mem_append_right _ hp)) l0)
  have SL:kS≠X.env.locals:=Nat.ne_of_gt (Nat.lt_trans QZ l0);refine QT (n:=n) (pins:=(h1.objs.size,seqObj "list" #[] e1)::(f,kla_obj name qual params body scope cl pm c' dU)::pins) S sX he I.ok.frames (λ_=>QX) l6 fu o_ hex (List.mem_cons_of_mem _ (List.mem_cons_self ..)) hc sY jL oJ G8 SL
   (λx c e=>Nat.ne_of_lt (Nat.lt_trans (Aw x c e) l0)) acW (λks e H3 s3 K hl=>?_) vs [] 0 H _ (by simpa using len) (λi x e=>by simpa using items i x e) K0
  have Q4:Am s3.heap ks ((List.range n).map kv):=by
   refine⟨by simp[hl],λi hi=>?_⟩
   have iC:i<ks.length:=by simp at hi;lia
   obtain⟨a,z1,z2⟩:=K.ky i iC;obtain⟨aC,r1,q1,_⟩:=K.I.tuple (aL.of (K:=X.K) z2);cases r1 with
   | cons w1 r1 =>
   cases r1 with
   | cons w2 r1 =>
   cases r1;obtain⟨t1,rfl⟩:=w1;obtain⟨t2,rfl⟩:=w2;obtain⟨o,e1,e2,n1,e3⟩:=q1;exact⟨a,by simp[iC,z1],o,t1,t2,n1,e1,e2,by simpa using e3⟩
  obtain⟨Ox,t1,t2,t3⟩:=QW Q4;refine kat_kind (T:=.type "int") t1 (by lia) (λv hv=>?_) (by decide) ?_
  ·obtain⟨d,tt,rfl⟩:=t3 v hv;exact .now
  ·rw[show (Value.type "int" != Value.type "tuple")=true by decide]
   show (kas_sort vs.length).kasWp (kas_ask X.prog X.w X.A.in1.in1 (tuples' true) ks) _ s3;rw[len,show n=((List.range n).map kv).length by simp]
   refine acH (by simp;lia) Q4 (λq' hq=>?_) ?_ λp hp acX=>?_
   ·obtain⟨j,hj,rfl⟩:=List.mem_map.mp hq;exact hb j (List.mem_range.mp hj)
   ·rw[List.nodup_iff_pairwise_ne,List.pairwise_map];exact List.Pairwise.imp_of_mem (λha iz eB heq=>eB (G7 _ _ (List.mem_range.mp ha) (List.mem_range.mp iz) heq)) List.nodup_range
   ·have bS:X.base.get? kS=none:=Heap.get?_none_of_le (Nat.le_trans I.ok.gB G8);have pk:=K.I.pin (kS,seqObj "list" ks.toArray e) (List.mem_append_right _ (List.mem_cons_self ..));have pd:=K.I.pin (h1.objs.size,seqObj "list" #[] e1) (List.mem_append_right _ (List.mem_cons_of_mem _ (List.mem_cons_self ..)));refine KatFin.intro (news:=(kS,seqObj "list" ks.toArray e)::rest X.base s3.heap X.env.locals kS) (g:=λo=>(kS,o)::rest X.base s3.heap X.env.locals kS) ⟨K.ns,K.I.bk,above⟩ (news_at SL bS pk.1) (.head yZ) λh4 c4 F4 N4=>?_;have Q5:=y_ (d:=kS) K.I.bk F4 λp hp=>N4 p (List.mem_cons_of_mem _ hp);have oD4:=Q5 _ _ DL (Nat.ne_of_lt l0) pd.1;refine KasFin.intro (news:=(h1.objs.size,seqObj "list" #[] e1)::rest X.base h4 X.env.locals h1.objs.size) (g:=λo=>(h1.objs.size,o)::rest X.base h4 X.env.locals h1.objs.size) F4 (news_at DL bD oD4) (.head yZ) λh5 c5 F5 N5=>?_;have bk4:∀b o,X.base.get? b=some o->h4.get? b=some o:=F4.keep;have acY:=y_ (d:=h1.objs.size) bk4 F5 λp hp=>N5 p (List.mem_cons_of_mem _ hp);have oD5:=(N5 _ (List.mem_cons_self ..)).1;refine⟨_,rfl,wpAny_pure ⟨_,rfl,?_⟩⟩;have G9:p.toList.Perm (List.range n):=by
     have:=hp.toList;simpa using this
    have Q6:∀i∈p.toList,i<n:=λi hi=>List.mem_range.mp (G9.mem_iff.mp hi);have isL:p.toList.length=n:=by simpa using G9.length_eq
    have gd:∀i,i<n->p.getD i 0=p.toList.getD i 0/\p.toList.getD i 0<n:=λi hi=>by
     have cO:i<p.toList.length:=by lia
     have e:p.toList.getD i 0=p.toList[i]:=by rw[List.getD_eq_getElem?_getD,List.getElem?_eq_getElem cO];rfl
     exact⟨by rw[Array.getD_eq_getD_getElem?,List.getD_eq_getElem?_getD,Array.getElem?_toList],by rw[e];exact Q6 _ (List.getElem_mem cO)⟩
    have Q7:∀k,k<n->jN ((List.range n).map kv) k=(kv k).1*64+(kv k).2:=λk hk=>by
     unfold jN;have:((List.range n).map kv).getD k (0,0)=kv k:=by simp[hk]
     rw[this]
    have asc:kW kv n p.toList:=⟨G9,λi j h1 h2=>by
     have:=acX i j h1 (by simpa using h2)
     rw[(gd i (by lia)).1,(gd j h2).1,Q7 _ (gd i (by lia)).2,Q7 _ (gd j h2).2] at this
     exact this⟩
    have vals:∀l:List Nat,(∀i∈l,i<n)->Vals (l.map λ(i:Nat)=>V.int (i:Int)) (l.map λi=>vs.getD i Value.none):=by
     intro l
     induction l with
     | nil=>intro _;exact .nil
     | cons i l ih =>
      intro jr;have hi:i<vs.length:=by rw[len];exact jr i (List.mem_cons_self ..)
      obtain⟨t5,e5⟩:=items i vs[i] (List.getElem?_eq_getElem hi);refine .cons ⟨t5,?_⟩ (ih λk hk=>jr k (List.mem_cons_of_mem _ hk));rw[← e5];simp[hi]
    refine⟨.ref h1.objs.size,_,(K.I.lJ (Fl:=pins) λp hp=>K.I.pin p (List.mem_append_right _ (List.mem_cons_of_mem _ (List.mem_cons_of_mem _ (List.mem_cons_of_mem _ hp))))).acS (tk:=s3.toks) (xs:=p.toList.map λ(i:Nat)=>V.int (i:Int)) K.ns F5.ns pk.2.1 pd.2.1 (λb kX=>?_)
     (λb o hL hS hD e=>acY b o hL hD (Q5 b o hL hS e)) ⟨by rw[List.length_map,isL,sizeLine_eq];lia,_,c5,vals p.toList Q6,oD5⟩,rfl,q _ p.toList H3 K.sb K.tab nD pd.2.1 asc⟩
    have sub:∀p∈X.pn++pins,p.1<h1.objs.size:=λp hp=>Ax p (by
     rcases List.mem_append.mp hp with z | z
     ·exact List.mem_append_left _ z
     ·exact List.mem_append_right _ (List.mem_cons_of_mem _ z))
    rcases kX with z | z
    ·rw[z];exact⟨G8,SL,λx c e=>Nat.ne_of_lt (Nat.lt_trans (Aw x c e) l0),λp hp=>Nat.ne_of_lt (Nat.lt_trans (sub p hp) l0)⟩
    ·rw[z];exact⟨Av,DL,λx c e=>Nat.ne_of_lt (Aw x c e),λp hp=>Nat.ne_of_lt (sub p hp)⟩
theorem SameBut.trans{H H1 H2:Hp}{x:Addr}(a:SameBut x H H1)(b:SameBut x H1 H2):SameBut x H H2:=λc o e h=>b c o (a c o e h) h
noncomputable def Q8(P:Addr)(pos:Pos)(qual:Str)(te:TE)(fv:List Nat)(ta:TA):TE:=λσ H Q=>ta σ H λvs H1=>∃(n:Nat) (kv:Nat->Int×Int),vs = [.int (n:Int)]/\2<=n/\n<64/\(∀j,j<n->0<=(kv j).2/\(kv j).2<64)/\(∀i j,i<n->j<n->kv i=kv j->i=j)/\cH P pos qual H1/\
 (∀(j:Nat) (H2:Hp),j<n->SameBut P H1 H2->cH P pos qual H2->te (o7 σ [.int (j:Int)] fv) H2 λv H'=>∃a,v = .ref a/\H2 a=none/\H' = upd H2 a (.tup [.int (kv j).1,.int (kv j).2]))/\
 ∀(D:Addr) (is:List Nat) (H':Hp),SameBut P H1 H'->cH P pos qual H'->H1 D=none->H' D=none->kW kv n is->Q (.ref D) (upd H' D (.lst (is.map λ(i:Nat)=>V.int (i:Int))))
theorem acZ{c:Addr}{e:Expr}{ta:TA}{p1 p2 p3 p4 kp:Pos}(hgS:Gl X "sorted")(hmS:X.mg "sorted" = none)(hgR:Gl X "range")(hmR:X.mg "range" = none)(B:bx X.mg X.base c P)(sV:X.env.code = .ref c)(S:kU X scope cl ps fs fv)(sX:ps.length=1)
  (ac0:defaultsOf params X.env=([],[])) (hq:X.env.qual ++ "<lambda>" = qual) (jL:∀c' pm dU u,bindArgs (kla_fn "<lambda>" qual params body scope cl pm (.ref c') dU) ⟨[u],[]⟩=pure (ps.zip [u]))
  (he:∀f c' s H,PE (wM X X.A.in1.in1 qual scope f c' cl (ps++fs) s H) body te) (G6:X.calm=true) (l6:X.A.in1.in1.depth<recursionLimit) (fu:X.stack=X.env::X.outer) (o_:X.env.frame=some X.env.locals) (hex:X.ex = []) (ha:PA X [e] ta)
  (hs:starEach [e] X.env = [(false,eval e X.env)]:=by rfl) (fO:starEach [.Call (.Name "range" p2) [e] [] p3] X.env = [(false,eval (.Call (.Name "range" p2) [e] [] p3) X.env)]:=by rfl) :
  PE X (.Call (.Name "sorted" p1) [.Call (.Name "range" p2) [e] [] p3] [⟨some "key",.Lambda params body scope pos,kp⟩] p4) (Q8 P pos qual te fv ta):=by
 intro pins s σ H Q I h;refine wpAny_Call_Name_kw (ou I hgS hmS boot_sorted (callWith_kw ?_));rw[fO];refine Calls.spliced_cons ?_;refine Call_ (ou I hgR hmR boot_range (PyProof.Rows.callWith_type1 (aU (ha p3 pins s σ H _ I h) λus s1 ⟨vs,H1,I1,r1,q1⟩=>?_) (by rw[hs];rfl) (by rfl)))
 obtain⟨n,kv,e,h2,ju,hb,G7,tab,oJ,q⟩:=q1;subst e;obtain⟨u,rfl,ru⟩:=vals1 r1;obtain⟨t,rfl⟩:=ru;refine call_range_1 ?_;refine Calls.spliced_nil ?_;refine kws_cons (kla_eval ac0 ?_);rw[hq];have k1:∀b o,s1.heap.get? b=some o->(s1.heap.push { cls:=.type "range",data:=.fields #[.int 0 s1.toks,.int (n:Int) t,.int 1 (s1.toks+1)] }).get? b=some o:=λb o e=>Heap.get?_push_of_some _ e;have I2:Inv X ((s1.heap.objs.size,{ cls:=.type "range",data:=.fields #[.int 0 s1.toks,.int (n:Int) t,.int 1 (s1.toks+1)] })::pins) σ H1 { s1 with heap:=s1.heap.push { cls:=.type "range",data:=.fields #[.int 0 s1.toks,.int (n:Int) t,.int 1 (s1.toks+1)] },toks:=s1.toks+1+1 }:=by
  refine(I1.kept k1).lJ λp hp=>?_;rcases List.mem_cons.mp hp with z | hp
  ·rw[z];exact⟨Heap.get?_push_size _ rfl,I1.aM.fresh (Nat.le_refl _),Nat.ne_of_gt I1.lt,I1.uJ (Nat.le_refl _),λv z=>by cases z⟩
  ·exact(I1.kept (t':=s1.toks+1+1) k1).pin p (List.mem_append_right _ hp)
 refine acO B sV S.lZ I2 tab λf c' dU pm H' s' J sb sZ hc=>kws_nil ?_;have sY:c'≠P:=by
  obtain⟨dO,z,_⟩:=sZ;exact gQ hc z (by intro y;cases y)
 refine wpAny_mono (acU (n:=n) (kv:=kv) S sX (he f c') G6 l6 fu o_ hex J hc sY sZ (jL c' pm dU) (J.pin _ (List.mem_append_right _ (List.mem_cons_of_mem _ (List.mem_cons_self ..)))).1 h2 ju hb G7 (λj H2 hj qE G_=>oJ j H2 hj (sb.trans qE) G_)
  (λD is H2 qE G_ n1 n2 ho=>q D is H2 (sb.trans qE) G_ ?_ n2 ho)) (λv rX z=>?_) (λ_ _ z=>z)
 ·cases z:H1 D with
  | none=>rfl
  | some o =>
   by_cases hD:D=P
   ·obtain⟨dO,z2,_⟩:=sZ;rw[hD,z2] at n1;cases n1
   ·rw[sb _ _ z hD] at n1;cases n1
 ·obtain⟨v',H'',K,rv,qv⟩:=z;exact⟨v',H'',K.lJ λp hp=>K.pin p (List.mem_append_right _ (List.mem_cons_of_mem _ hp)),rv,qv⟩
end
theorem ac1{P:Program}{w:World}{K:PySem.W.Frag}{mg mb:Str->Option Value}{k:Nat}{fa a:Addr}{fd:FuncData}{x:Str}{sp:Sp}{aZ:Shared}{vs:List Value}{ns:List Int}{tabs:List (Addr×Addr)}
  (KX:K.In aZ.heap) (kH:aZ.heap.Ns mainGlobals mg) (hb:aZ.heap.Ns builtinsNs mb) (Gn:∀x:Str,x≠"__name__"->mb x=bootBuiltins x) (Gp:aZ.heap.NoLimit) (hg:aZ.gens = #[])
  (ha:aZ.heap.get? a=some { cls:=.type "list",data:=.seq vs.toArray }) (hi:IntsAre vs ns) (hl:ns.length<=sizeLine) (hr:cX k callerA)
  (hT:TabsAt tabs aZ.heap) (pA:noTabs K=true) (bm:∃bm ob,mg "__builtins__" = some (.ref bm)/\bm≠builtinsNs/\aZ.heap.get? bm=some ob/\ob.cls = .type "module"/\ob.dict=some builtinsNs/\ob.data = .plain)
  (F:∀base:Heap,K.In base->base.Ns mainGlobals mg->(∀q∈tabs,bx mg base q.1 q.2)->aX P w K mg base br k fa fd [x] sp) (jL:∀(s:Shared) (u:Value),BindsTo s fd ⟨[u],[]⟩ [(x,u)])
  (cY:∀H:Hp,(∀q∈tabs,H q.2=some (.eO #[]))->aA K H a (ns.map V.int)->sp [.ref a] H (λv _=>v = .bl true) λ_ _ _=>False) :
  codeAny (model P w) callerA (.call (.ref fa) ⟨[.ref a],[]⟩) (λr s'=>r = .ok (.ret (.bool true))/\OldK aZ.heap s'.heap/\s'.os=aZ.os/\AllBare s'.gens) aZ:=by
 have rv:=wm hi;have Gr:=hi.length;have qF:∀b,b∈tabs.map (·.2)->aZ.heap.get? b=some (tabObj #[])/\isCodeTable aZ.heap b:=λb hb=>by
  obtain⟨q,hq,rfl⟩:=List.mem_map.mp hb;exact⟨(hT q hq).2,((hT q hq).1.tab (hT q hq).2).isCodeTable⟩
 have aT:a∉tabs.map (·.2):=λhb=>by
  have:=(qF a hb).1;rw[ha] at this;cases this
 have core:∀H:Hp,(∀b u,H b=some u->(b=a/\∃o xs,u = .gP o (.lst xs))\/(b∈tabs.map (·.2)/\u = .eO #[]))->(∀q∈tabs,H q.2=some (.eO #[]))->aA K H a (ns.map V.int)->cU P w H aZ.heap->(H a≠none->K.lookup a=none)->
   codeAny (model P w) callerA (.call (.ref fa) ⟨[.ref a],[]⟩) (λr s'=>r = .ok (.ret (.bool true))/\OldK aZ.heap s'.heap/\s'.os=aZ.os/\AllBare s'.gens) aZ:=by
  intro H hO Hf hS aM hK;have qy:∀ {b:Addr} {o:Obj},aZ.heap.get? b=some o->H b=none->(ig aZ.heap H).get? b=some o:=λe n=>OA e n;have free:∀ {b:Addr} {o:Obj},aZ.heap.get? b=some o->(b≠a)->o≠tabObj #[]->H b=none:=λ{b o} e n1 n2=>by
   cases q:H b with
   | none=>rfl
   | some u =>
    rcases hO b u q with⟨z,_⟩ | ⟨z,_⟩
    ·exact absurd z n1
    ·have:=(qF b z).1;rw[e] at this;exact absurd (Option.some.inj this) n2
  have Q9:∀ {b:Addr} {o:Obj},aZ.heap.get? b=some o->o.cls≠.type "list"->b≠a:=λ{b o} e n z=>by
   rw[z,ha] at e;cases e;exact n rfl
  have ac2:∀ {b:Addr} {o:Obj} {es:Array DictEntry} {ep:Nat},aZ.heap.get? b=some o->o.data = .dict es ep->b≠a:=λ{b o es ep} e d z=>by
   rw[z,ha] at e;cases e;cases d
  have mX:∀ {b:Addr} {m:Str->Option Value},aZ.heap.Ns b m->(ig aZ.heap H).Ns b m:=λ{b m} ⟨o,es,ep,e,d,r⟩=>⟨o,es,ep,qy e (free e (ac2 e d) (λz=>by rw[z] at d;cases d)),d,r⟩
  have wu:K.In (ig aZ.heap H):=λb o e=>qy (KX b o e) (by
   cases q:H b with
   | none=>rfl
   | some u =>
    rcases hO b u q with⟨z,_⟩ | ⟨z,_⟩
    ·subst z;rw[hK (by rw[q];simp)] at e;cases e
    ·have e2:=KX b o e;rw[(qF b z).1] at e2;have h2:=List.all_eq_true.mp pA (b,o) (mem_of_lookupK e);cases e2;exact absurd (show false=true from h2) Bool.false_ne_true)
  have hM:Mod K mg (ig aZ.heap H):=⟨wu,mX kH,⟨mb,mX hb,Gn⟩,let ⟨mc,h1,h2⟩:=Gp;⟨mc,mX h1,h2⟩⟩
  have hL:∀q∈tabs,bx mg (ig aZ.heap H) q.1 q.2:=λq hq=>by
   obtain⟨b,ob,b1,b2,b3,b4,b5,b6⟩:=bm;obtain⟨o,vs',file,tf,flags,tg,inF,text,tt,e1,r1,r2⟩:=(hT q hq).1;refine⟨⟨o,vs',file,tf,flags,tg,inF,text,tt,qy e1 (free e1 (Q9 e1 (by rw[r1];intro z;injection z with z;exact absurd z (by decide))) (λz=>by rw[z] at r1;cases r1)),r1,r2⟩,b,ob,b1,b2,qy b3 (free b3 (Q9 b3 (by rw[b4];intro z;injection z with z;exact absurd z (by decide))) (λz=>by rw[z] at b4;cases b4)),b4,b5,b6⟩
  have e0:oK P w K mg (ig aZ.heap H) callerA [] aZ H:=⟨rfl,hM,λb o e=>OB e,Nat.le_of_eq (Oz _ _),trivial,λb hb=>absurd (show b∈([]:List Addr) from hb) (by simp),aM,.of_eq hg⟩
  refine codeAny_mono ((F _ wu (mX kH) hL).run callerA [] aZ H ⟨[.ref a],[]⟩ [.ref a] [.ref a] _ _ hr e0 (jL aZ (.ref a)) (.cons rfl .nil) (cY H Hf hS)) λr s' h=>?_;cases r with
  | error e=>exact False.elim h
  | ok fl =>
   cases fl with
   | next=>exact False.elim h
   | brk=>exact False.elim h
   | cont=>exact False.elim h
   | ret u =>
    obtain⟨v,H',os,bare,un,zP,r',q⟩:=h;have q':v = .bl true:=q;subst q';obtain rfl:u=Value.bool true:=r';have noS:∀b:Addr,b∉gc ([]:List Env):=λb z=>absurd (show b∈([]:List Addr) from z) (by simp)
    have all:∀b o,aZ.heap.get? b=some o->asItWas aZ.heap s'.heap b o/\∃o',s'.heap.get? b=some o':=λb o e=>by
     cases q:H b with
     | none =>
      have:=un.keep b o e q (noS b) (by simp)
      exact⟨.inl this,o,this⟩
     | some u =>
      rcases hO b u q with⟨z,ob,xs,rfl⟩ | ⟨z,rfl⟩
      ·have z2:=un.lI b ob _ q;obtain⟨e1,_⟩:=aM b _ q;obtain⟨e2,_⟩:=zP b _ z2;rw[e] at e1;cases e1;exact⟨.inl e2,_,e2⟩
      ·obtain⟨more,z2⟩:=un.mK b _ q;have e1:=(qF b z).1;rw[e] at e1;cases e1;have e2:s'.heap.get? b=some { cls:=.none,data:=.fields (#[]++more)}:=zP b _ z2;exact⟨.inr (.inl ⟨(qF b z).2,rfl,#[],more,rfl,e2⟩),_,e2⟩
    exact⟨rfl,⟨λb o e=>(all b o e).1,λb o e=>(all b o e).2⟩,os,bare⟩
 have tq:∀q∈tabs,q.2∈tabs.map (·.2):=λq hq=>List.mem_map_of_mem hq;cases hk:K.lookup a with
 | some o =>
  have e:=KX a o hk;rw[ha] at e;cases e;refine core (λb=>if b∈tabs.map (·.2) then some (.eO #[]) else none) (λb u z=>?_) (λq hq=>if_pos (tq q hq)) (.inr ⟨_,vs.toArray,_,hk,rfl,rfl,rfl,by rw[List.size_toArray,Gr];exact hl,by simpa using rv⟩) (λb u z=>?_) (λz=>absurd (if_neg aT) z)
  ·by_cases hb:b∈tabs.map (·.2)
   ·have z':=(if_pos hb).symm.trans z;cases z';exact .inr ⟨hb,rfl⟩
   ·have z':=(if_neg hb).symm.trans z;cases z'
  ·by_cases hb:b∈tabs.map (·.2)
   ·have z':=(if_pos hb).symm.trans z;cases z';exact(qF b hb).1
   ·have z':=(if_neg hb).symm.trans z;cases z'
 | none =>
  refine core (λb=>if b=a then some (.gP { cls:=.type "list",data:=.seq vs.toArray } (.lst (ns.map V.int))) else if b∈tabs.map (·.2) then some (.eO #[]) else none) (λb u z=>?_) (λq hq=>?_) (.inl (.inr ⟨{ cls:=.type "list",data:=.seq vs.toArray },if_pos rfl⟩)) (λb u z=>?_) λ_=>hk
  ·by_cases hb:b=a
   ·have z':=(if_pos hb).symm.trans z;cases z';exact .inl ⟨hb,_,_,rfl⟩
   ·have z':=(if_neg hb).symm.trans z;by_cases kX:b∈tabs.map (·.2)
    ·have z2:=(if_pos kX).symm.trans z';cases z2;exact .inr ⟨kX,rfl⟩
    ·have z2:=(if_neg kX).symm.trans z';cases z2
  ·have ne:q.2≠a:=λz=>aT (by rw[← z];exact tq q hq)
   exact(if_neg ne).trans (if_pos (tq q hq))
  ·by_cases hb:b=a
   ·have z':=(if_pos hb).symm.trans z;cases z';subst hb;exact⟨ha,by rw[List.length_map];exact hl,vs,_,rv,ha⟩
   ·have z':=(if_neg hb).symm.trans z;by_cases kX:b∈tabs.map (·.2)
    ·have z2:=(if_pos kX).symm.trans z';cases z2;exact(qF b kX).1
    ·have z2:=(if_neg kX).symm.trans z';cases z2
theorem kU.of{X:Cx}{scope:Scope}{cl:List (Str×Addr)}{ps fs:List Str}{fv:List Nat}(lZ:closureFor scope X.env=pure cl)(kind:scope.kind = .function)(co:scope.isCoroutine=false)(gen:scope.isGenerator=false)
  (wN:(scope.names.all λy=>y.2 != .cell)=true) (par:(ps.all λy=>scope.names.lookup y == some .local)=true) (sub:AllP (λp:Str×Addr=>X.env.cells.lookup p.1=some p.2) cl) (has:(scope.names.all λy=>y.2 != .free || (cl.lookup y.1).isSome)=true)
  (free:fv.map (λj=>X.N[j]?)=fs.map some) (fk:(fs.all λy=>scope.names.lookup y == some .free && X.env.scope.names.lookup y == some .cell)=true) (nd:(ps++fs).Nodup):kU X scope cl ps fs fv where
 lZ:=lZ
 kind:=kind
 co:=co
 gen:=gen
 wN:=λy hy=>by have:=List.all_eq_true.mp wN y hy;simpa using this
 par:=λy hy=>by have:=List.all_eq_true.mp par y hy;simpa using this
 sub:=sub.mem
 has:=λy hy hl=>by
  have:=List.all_eq_true.mp has y hy;rw[hl] at this;exact Option.isSome_iff_exists.mp (by simpa only[bne_self_eq_false,Bool.false_or] using this)
 free:=free
 fk:=λy hy=>by have:=List.all_eq_true.mp fk y hy;simpa using this
 nd:=nd
theorem aJ.okC{P:Program}{w:World}{K:PySem.W.Frag}{mg:Str->Option Value}{base:Heap}{x qual:Str}{st:Stmt}{f:Addr}{fd:FuncData}{N ps:List Str}{k:Nat}{sp:Sp}(F:aJ K x qual st f fd)(S:bA N ps (aR st))(len:∀vs H Q E,sp vs H Q E->vs.length=ps.length)
  (qm:∀(A:Around) (outer:List Env) (s:Shared) (H:Hp) (vs:List V) (Q:VK) (E:XK),cX k (A.deeper (envOfC qual (aR st) s.heap.objs.size f fd.code))->sp vs H Q E->
   ∃t,fQ (mT br P w K mg base N qual (aR st) f fd.code A outer s H E).oA (eU st) t/\t { nx:=λ_ H'=>Q .aP H',rt:=Q } (start N vs) H):aX P w K mg base br (k+1) f fd ps sp:=by
 obtain⟨oc,od,kV,doc,pm,an,aO,ct,iy,rfl,lk,eS⟩:=F.ex;refine FN lk eS S len λA outer s H vs Q E hr cY=>?_;obtain⟨t,h,q⟩:=qm A outer s H vs Q E hr cY;exact⟨t,h.oA,q⟩
theorem ac3{l:PySem.W.OpenLaw}{n k:Nat}{q:Program}{loose:List Str}{XP:(Str->Option Value)->Heap->Prop}{YP:World->Heap->Prop}{d:DefRec}{K:Params->PySem.W.Frag}{sp:World->List (Addr×Addr)->Sp}{x:Str}
  (hn:l.most=some n) (rQ:n<=sizeLine) (qx:d.params.defaults = []) (hr:cX k callerA)
  (hY:∀(w:World) (h:Heap),YP w h->(K w.params).In h) (pA:∀w:World,noTabs (K w.params)=true)
  (F:∀(w:World) (mg:Str->Option Value) (fa:Addr) (h:Heap),YP w h->(K w.params).In h->h.Ns mainGlobals mg->mg d.name=some (.ref fa)->
   ∃(fd:FuncData) (tabs:List (Addr×Addr)),(∀(s:Shared) (u:Value),BindsTo s fd ⟨[u],[]⟩ [(x,u)])/\TabsAt tabs h/\
    ∀base:Heap,(K w.params).In base->base.Ns mainGlobals mg->(∀q∈tabs,bx mg base q.1 q.2)->aX l.prog w (K w.params) mg base br k fa fd [x] (sp w tabs))
  (cY:∀(w:World) (tabs:List (Addr×Addr)) (H:Hp) (a:Addr) (ns:List Int),ns.length<=n->(∀q∈tabs,H q.2=some (.eO #[]))->aA (K w.params) H a (ns.map V.int)->sp w tabs [.ref a] H (λv _=>v = .bl true) λ_ _ _=>False) :
  PySem.W.WalkO q loose XP YP l.row.toRowW d [] (λf vs=>PySem.call f vs):=by
 refine Gj.PZ hn qx λw dw aZ mg mb fa o pm cd doc a vs ns G Y ho hd eS hmg wk hints hlen hg=>?_;have KX:=hY w _ Y;obtain⟨fd,tabs,hb,hT,hF⟩:=F w mg fa _ Y KX G.T.g hmg;exact ac1 KX G.T.g G.T.b G.T.builtins G.T.nolimit hg wk hints (Nat.le_trans hlen rQ) hr hT (pA w) G.T.bmain hF hb λH Hf hS=>cY w tabs H a ns hlen Hf hS
noncomputable def nC(s:Stmt):Pos:=match eU s with
 | [.Return (some (.Call _ _ [⟨_,.Lambda _ _ _ pos,_⟩] _)) _]=>pos
 | _=>⟨0,0,0,0⟩
noncomputable def nF(x:Str):Str:=x ++ ".<locals>." ++ "<lambda>"
noncomputable def i8(r:Int)(j:Nat):Int×Int:=(((j:Int) - r).natAbs,j)
noncomputable def ac4(P:Addr)(pos:Pos)(qual:Str):Sp:=λvs H Q _=>∃(r:Int) (n:Nat),vs = [.int r,.int (n:Int)]/\2<=n/\n<64/\cH P pos qual H/\
 ∀(l:Addr) (is:List Nat) (H':Hp),SameBut P H H'->cH P pos qual H'->H l=none->H' l=none->kW (i8 r) n is->Q (.ref l) (upd H' l (.lst (is.map λ(i:Nat)=>V.int (i:Int))))
end _L
namespace _L
open PySem PySem.Spec PyProof.Rows
noncomputable def gZ(i:Nat):Nat:=(reduceHash (Builtin.Tuple.tupleHashOf [hashInt ((i / 60:Nat):Int),hashInt ((i % 60:Nat):Int)]) % 524291).toNat
noncomputable def Ay:Nat->Nat->Bool
 | 0,_=>true
 | n+1,acc=>(Nat.land acc (Nat.shiftLeft 1 (gZ n)) == 0) && Ay n (Nat.lor acc (Nat.shiftLeft 1 (gZ n)))
theorem Q_:∀(n acc:Nat),Ay n acc=true->(∀i,i<n->acc.testBit (gZ i)=false)/\∀i j,i<n->j<n->gZ i=gZ j->i=j
 | 0,_,_=>⟨λ_ h=>absurd h (by lia),λ_ _ h=>absurd h (by lia)⟩
 | n+1,acc,h=>by
  unfold Ay at h;rw[Bool.and_eq_true,beq_iff_eq] at h;obtain⟨h1,h2⟩:=h;have e1:acc.testBit (gZ n)=false:=by
   have z:(acc &&& 1 <<< gZ n).testBit (gZ n)=false:=by
    show Nat.testBit (Nat.land acc (Nat.shiftLeft 1 (gZ n))) _=false;rw[h1,Nat.zero_testBit]
   rw[Nat.testBit_and,Nat.testBit_shiftLeft] at z;simpa using z
  obtain⟨g1,g2⟩:=Q_ n _ h2;have e2:∀i,i<n->acc.testBit (gZ i)=false/\gZ i≠gZ n:=λi hi=>by
   have z:(acc ||| 1 <<< gZ n).testBit (gZ i)=false:=g1 i hi
   rw[Nat.testBit_or,Nat.testBit_shiftLeft] at z;rw[Bool.or_eq_false_iff] at z;refine⟨z.1,λe=>?_⟩
   have:=z.2;rw[e] at this;simp at this
  refine⟨λi hi=>?_,λi j hi hj e=>?_⟩
  ·by_cases q:i=n
   ·rw[q];exact e1
   ·exact(e2 i (by lia)).1
  ·by_cases q:i=n
   ·by_cases q':j=n
    ·lia
    ·exact absurd (by rw[← e,q]) (e2 j (by lia)).2
   ·by_cases q':j=n
    ·exact absurd (by rw[e,q']) (e2 i (by lia)).2
    ·exact g2 i j (by lia) (by lia) e
theorem ac5:Ay 3840 0=true:=by decide +kernel
theorem ac6{a b c d:Int}(a0:0<=a)(a1:a<64)(b0:0<=b)(b1:b<60)(c0:0<=c)(c1:c<64)(d0:0<=d)(d1:d<60)
  (h:reduceHash (Builtin.Tuple.tupleHashOf [hashInt a,hashInt b])=reduceHash (Builtin.Tuple.tupleHashOf [hashInt c,hashInt d])):a=c/\b=d:=by
 have e:∀ {x y:Int},0<=x->0<=y->y<60->gZ (x.toNat*60+y.toNat)=(reduceHash (Builtin.Tuple.tupleHashOf [hashInt x,hashInt y]) % 524291).toNat:=λ{x y} h0 h1 h2=>by
  unfold gZ;have q1:((x.toNat*60+y.toNat) / 60:Nat)=x.toNat:=by lia
  have q2:((x.toNat*60+y.toNat) % 60:Nat)=y.toNat:=by lia
  rw[q1,q2,Int.toNat_of_nonneg h0,Int.toNat_of_nonneg h1]
 have:=(Q_ 3840 0 ac5).2 (a.toNat*60+b.toNat) (c.toNat*60+d.toNat) (by lia) (by lia) (by rw[e a0 b0 b1,e c0 d0 d1,h])
 lia
theorem Ra{α:Type}{f:α->Int}:∀ {l:List α},(l.map f).Nodup->∀h:Int,(l.filter λx=>f x == h).length<=1
 | [],_,_=>Nat.zero_le _
 | x::l,n,h=>by
  rw[List.map_cons,List.nodup_cons] at n;by_cases q:f x=h
  ·have z:(l.filter λy=>f y == h) = []:=by
    rw[List.filter_eq_nil_iff];intro y hy e;exact n.1 (by rw[q,← (beq_iff_eq.mp e)];exact List.mem_map_of_mem hy)
   rw[List.filter_cons,if_pos (by rw[q];exact beq_self_eq_true h),z]
   exact Nat.le_refl _
  ·rw[List.filter_cons,if_neg (by rw[beq_iff_eq];exact q)]
   exact Ra n.2 h
section
variable{M:Model}{prog:Program}{w:World}{A:Around}{E:Value->Shared->Prop}{s:Shared}
theorem ac7{id:String}{d:Addr}{o:Obj}{es:Array DictEntry}{ep}{Q:Array DictEntry->Shared->Prop}(ho:s.heap.get? d=some o)(hd:o.data = .dict es ep)
  (hT:∀e∈es.toList,∃t,e.key = .ref t/\s.TypeIs (.ref t) "tuple") (hn:(es.toList.map (·.hash)).Nodup) (h:Q es s):wpAny M A (Builtin.Dict.entriesForEmpty id d) Q E s:=by
 unfold Builtin.Dict.entriesForEmpty;refine wpAny_bind (wpAny_dictEntries ho hd ?_);refine wpAny_bind ?_;rw[← Array.forIn_toList];refine wpAny_forIn_list _ (λrest _ s'=>s' = s/\∀e∈rest,e∈es.toList) _ ?_ ?_ _ _ ⟨rfl,λe he=>he⟩
 ·rintro e rest b s' ⟨rfl,hr⟩;obtain⟨t,ek,Hg⟩:=hT e (hr e (by simp))
  rw[ek];unfold Builtin.Dict.quietEq;refine wpAny_bind (wpAny_bind (wpAny_specialOf Hg PySem.F.slot_tuple_eq.lookup (wpAny_pure ?_)));have hz:¬ (es.filter (·.hash == e.hash)).size > 1:=by
   have:=Ra hn e.hash;have e2:(es.filter (·.hash == e.hash)).size=(es.toList.filter (·.hash == e.hash)).length:=by rw[← Array.length_toList,Array.toList_filter]
   lia
  have q:(some (Value.builtin "tuple.__eq__") == some (Value.builtin "object.__eq__"))=false:=by decide +kernel
  rw[q];simp only[Bool.not_false,if_true,if_neg hz];exact wpAny_pure ⟨rfl,λe he=>hr e (List.mem_cons_of_mem _ he)⟩
 ·rintro b s' ⟨rfl,_⟩;exact wpAny_pure h
theorem ac8{nm:String}{d o:Addr}{knd:HeapKind prog w (List Key)}{xs:List (List Key×Addr×Value)}{Q:Unit->Shared->Prop}(dP:d≠o)(Hh:(o == sysModules)=false)
  (hd:s.heap.DictOfH knd d []) (ho:s.heap.DictOfH knd o xs) (hT:∀x∈xs,s.TypeIs (.ref x.2.1) "tuple") (hn:(xs.map λx=>knd.hash x.1).Nodup) (hsz:xs.length<=sizeLine)
  (hQ:∀h',(∃o' kq mL,h'.get? d=some o'/\o'.ExactDict/\o'.data = .dict kq mL/\kq.toList=xs.map (entryOfKey knd))->Heap.SameBut d s.heap h'->Q () { s with heap:=h' }) :
  wpAny (model prog w) A (Builtin.Dict.mergeDict nm d o) Q E s:=by
 obtain⟨od,esd,Rb,l8,eS,kY,hpd,_⟩:=id hd;obtain⟨oo,l9,Rc,l_,Rf,s_,mh,Hi,qo⟩:=id ho;have ac9:esd = #[]:=Array.toList_eq_nil_iff.mp hpd;subst ac9;unfold Builtin.Dict.mergeDict;rw[if_neg (by simpa using dP)]
 unfold Builtin.Dict.showsAll;rw[if_neg (by rw[Hh];exact Bool.false_ne_true)]
 refine wpAny_bind (wpAny_pure ?_);refine wpAny_bind (wpAny_dictEntries l_ s_ ?_);dsimp only;cases hx:xs with
 | nil =>
  rw[hx] at mh;have h0:l9 = #[]:=Array.toList_eq_nil_iff.mp mh;subst h0;rw[if_neg (by simp)]
  refine wpAny_bind (wpAny_dictEpoch l_ s_ ?_);refine wpAny_bind (wpAny_dictEntries l_ s_ ?_);refine wpAny_bind ?_;rw[Std.Legacy.Range.forIn_eq_forIn_range']
  show wpAny _ _ (forIn [] _ _) _ _ _;rw[List.forIn_nil];refine wpAny_pure (wpAny_pure (hQ s.heap ⟨od,#[],Rb,l8,eS,kY,by rw[hx];rfl⟩ (Heap.SameBut.refl _ _)))
 | cons x rest =>
  have eB:l9.toList≠[]:=by rw[mh,hx];exact List.cons_ne_nil _ _
  have zN:(decide (l9.size<=8) && l9.all λe=>(keyPart e.key).isSome)=false:=by
   rw[Bool.and_eq_false_iff];refine .inr ?_;rw[← Array.all_toList,mh,hx]
   rfl
  rw[zN];refine wpAny_bind (wpAny_dictEntries l8 kY ?_);rw[if_pos (by rfl)]
  refine wpAny_bind (ac7 l_ s_ (λe he=>?_) ?_ ?_)
  ·rw[mh] at he;obtain⟨y,hy,rfl⟩:=List.mem_map.mp he;exact⟨y.2.1,rfl,hT y hy⟩
  ·rw[mh,List.map_map];exact hn
  have Hj:l9.isEmpty=false:=by
   cases q:l9.isEmpty with
   | false=>rfl
   | true=>exact absurd (by rw[Array.isEmpty_iff.mp q]) eB
  rw[if_pos (by rw[Hj];rfl)]
  have hto:l9.size<=sizeLine+1:=by
   have:l9.size=xs.length:=by rw[← Array.length_toList,mh,List.length_map]
   lia
  exact wpAny_bind (wpAny_updateDictKeysTo l8 kY (wpAny_pure (hQ _ ⟨_,_,Rb+1,Heap.get?_update_self _ l8 (Obj.isFreed_of_dict (Obj.data_mapDictKeys kY _)),eS.mapDictKeys _,Obj.data_mapDictKeys kY _,mh⟩ (Heap.SameBut.update ..))) hto)
end
section
variable{prog:Program}{w:World}{A:Around}{E:Value->Shared->Prop}{s:Shared}
theorem ac_{o:Addr}{xs:List (List Key×Addr×Value)}{Q:Value->Shared->Prop}(Hh:(o == sysModules)=false)(ho:s.heap.DictOfH (tupleKind (dI prog w)) o xs)(hsz:xs.length<=sizeLine)
  (hn:(xs.map λx=>(tupleKind (dI prog w)).hash x.1).Nodup)
  (h:∀h',(∃o' kq mL,h'.get? s.heap.objs.size=some o'/\o'.ExactDict/\o'.data = .dict kq mL/\kq.toList=xs.map (entryOfKey (tupleKind (dI prog w))))->Heap.SameBut s.heap.objs.size (s.heap.push { cls:=.type "dict",data:=.dict #[] }) h'->Q (.ref s.heap.objs.size) { s with heap:=h' }) :
  wpAny (model prog w) A (call (.type "dict") [.ref o]) Q E s:=by
 refine callType_codes (Q₁:=λobj aZ=>obj = .ref s.heap.objs.size/\aZ = { s with heap:=s.heap.push { cls:=.type "dict",data:=.dict #[] }}) PySem.F.kt_called_dict (PySem.F.kt_typeCall_dict_1 _) PySem.F.entry_dict_init (kt_code_dict_new _ ⟨rfl,rfl⟩) ?_;rintro obj aZ ⟨rfl,rfl⟩;have vR:(s.heap.push { cls:=.type "dict",data:=.dict #[] }).DictOfH (tupleKind (dI prog w)) s.heap.objs.size []:=Heap.DictOfH.new s.heap;obtain⟨oo,l9,Rc,l_,Rf,s_,mh,Hi,qo⟩:=id ho;have Hg:∀x∈xs,({ s with heap:=s.heap.push { cls:=.type "dict",data:=.dict #[] }}:Shared).TypeIs (.ref x.2.1) "tuple" := λx hx=>by
  obtain⟨o1,aC,n,g1,c1,_⟩:=(show IsTupleKey (dI prog w) s.heap x.1 x.2.1 from Hi x hx);exact⟨o1,Heap.get?_push_of_some _ g1,c1⟩
 have kZ:∀x∈xs,(tupleKind (dI prog w)).is (s.heap.push { cls:=.type "dict",data:=.dict #[] }) x.1 x.2.1:=λx hx=>by
  obtain⟨o1,aC,n,g1,c1⟩:=(show IsTupleKey (dI prog w) s.heap x.1 x.2.1 from Hi x hx);exact⟨o1,aC,n,Heap.get?_push_of_some _ g1,c1⟩
 have iu:(s.heap.push { cls:=.type "dict",data:=.dict #[] }).DictOfH (tupleKind (dI prog w)) o xs:=⟨oo,l9,Rc,Heap.get?_push_of_some _ l_,Rf,s_,mh,kZ,qo⟩;have dP:s.heap.objs.size≠o:=λe=>absurd (Heap.lt_size l_) (by rw[e];exact Nat.lt_irrefl _)
 refine⟨vR.typeIs,PySem.F.args_dict_init_2 _ _,?_⟩;unfold Builtin.«dict.__init__»;refine wpAny_bind ?_;unfold Builtin.Dict.selfAndRest;refine wpAny_bind (wpAny_notOrdered_dict vR.typeIs ?_)
 show wpAny _ _ (pure (s.heap.objs.size,[Value.ref o])) _ _ _;refine wpAny_pure ?_
 show wpAny _ _ (Builtin.Dict.updateFrom "dict.__init__" s.heap.objs.size (.ref o) [] .none) _ _ _;unfold Builtin.Dict.updateFrom;refine wpAny_bind (wpAny_typeOf iu.typeIs ?_);rw[if_neg (by decide)]
 refine wpAny_bind ?_;unfold Builtin.Dict.merge;refine wpAny_bind ?_;unfold Builtin.Dict.readDirectly;refine wpAny_bind (wpAny_isInstance iu.typeIs isSubtype_dict_dict ?_);simp only[Bool.not_true,Bool.false_eq_true,if_false];refine wpAny_bind (wpAny_specialOf iu.typeIs PySem.F.slot_dict_iter.lookup (wpAny_pure ?_));simp only[beq_self_eq_true,if_true];refine wpAny_bind (wpAny_pure ?_);refine ac8 (xs:=xs) (knd:=tupleKind (dI prog w)) dP Hh vR iu Hg hn hsz λh' eF gG=>?_
 show wpAny _ _ (Builtin.Dict.addKeywords s.heap.objs.size [] >>= _) _ _ _;exact wpAny_bind (wpAny_pure (wpAny_pure ⟨rfl,h h' eF gG⟩))
end
noncomputable def Az(ks:List (List Key)):Prop:=∀(P:Program) (w:World),(ks.map (tupleKeyHash (dI P w))).Nodup
theorem KT.keys{H:Hp}{az:List (List Key×V)}{xs:List (List Key×Addr×Value)}(h:KT H az xs):xs.map (·.1)=az.map (·.1):=by
 induction h with
 | nil=>rfl
 | cons hq _ ih=>rw[List.map_cons,List.map_cons,ih,hq.1]
theorem KT.len{H:Hp}{az:List (List Key×V)}{xs:List (List Key×Addr×Value)}(h:KT H az xs):xs.length=az.length:=by
 have:=congrArg List.length h.keys;simpa using this
section
variable{X:Cx}
theorem ada:fS X (.type "dict") (λxs H Q=>∃a az,xs = [.ref a]/\H a=some (.dT az)/\Az (az.map (·.1))/\∀p,H p=none->Q (.ref p) (upd H p (.dT az))):=by
 intro pins s σ H xs us Q I r h;obtain⟨a,az,rfl,ha,tu,q⟩:=h;obtain⟨u,rfl,ru⟩:=vals1 r;cases ru;obtain⟨z,hs,ks,kt,dd⟩:=Gg I.aM ha;obtain⟨o,es,ep,h1,h2,h3,h4,h5,h6⟩:=id dd;refine ac_ (xs:=ks) hs dd (by rw[kt.len];exact z) (by have:=tu X.prog X.w;rw[← kt.keys,List.map_map] at this;exact this) λh' sF gG=>?_
 obtain⟨o',kq,mL,g1,g2,g3,g4⟩:=sF;have fr:H s.heap.objs.size=none:=I.aM.fresh (Nat.le_refl _);have kt':∀ob,KT (upd H s.heap.objs.size ob) az ks:=λob=>by
  clear q ha tu z h4 h5 h6 g4 dd
  induction kt with
  | nil=>exact .nil
  | cons hq _ ih =>
   refine .cons ⟨hq.1,?_,hq.2.2⟩ ih;rw[aI (bO hq.2.1 fr)];exact hq.2.1
 refine⟨.ref s.heap.objs.size,upd H s.heap.objs.size (.dT az),?_,rfl,q _ fr⟩;refine I.laid (a:=s.heap.objs.size) (o:=.dT az) (t':=s.toks) (λb q hq=>?_) (Nat.le_refl _) ?_
 ·exact(gG.2 b (Nat.ne_of_lt (Heap.lt_size hq))).trans (Heap.get?_push_of_some _ hq)
 ·exact⟨z,beq_eq_false_iff_ne.mpr (Ne.symm (Nat.ne_of_lt I.big)),ks,kt' _,o',kq,mL,g1,g2,g3,g4,h6⟩
end
theorem Rg(P:Program)(w:World)(p:Int×Int):tupleKeyHash (dI P w) (kT p)=reduceHash (Builtin.Tuple.tupleHashOf [hashInt p.1,hashInt p.2]):=by
 have e:(kT p).map (dI P w).hash = [hashInt p.1,hashInt p.2]:=rfl;unfold tupleKeyHash;rw[e]
theorem adb{z:List (Int×Int)}(h:∀p∈z,0<=p.1/\p.1<64/\0<=p.2/\p.2<60)(nd:z.Nodup):Az (z.map kT):=by
 intro P w;rw[List.map_map]
 induction z with
 | nil=>exact List.nodup_nil
 | cons x z ih =>
  rw[List.nodup_cons] at nd;rw[List.map_cons,List.nodup_cons];refine⟨λhm=>?_,ih (λp hp=>h p (List.mem_cons_of_mem _ hp)) nd.2⟩;obtain⟨y,hy,e⟩:=List.mem_map.mp hm;have hx:=h x (by simp)
  have sr:=h y (List.mem_cons_of_mem _ hy);rw[Function.comp_apply,Function.comp_apply,Rg,Rg] at e;obtain⟨e1,e2⟩:=ac6 sr.1 sr.2.1 sr.2.2.1 sr.2.2.2 hx.1 hx.2.1 hx.2.2.1 hx.2.2.2 e;exact nd.1 (by rw[show x=y from Prod.ext e1.symm e2.symm];exact hy)
noncomputable def jO(h:Heap)(d:Addr)(es:Array DictEntry)(ep:Nat):Prop:=∃o,h.get? d=some o/\o.ExactDict/\o.data = .dict es ep
section
variable{prog:Program}{w:World}{A:Around}{E:Value->Shared->Prop}{s:Shared}{d it:Addr}{es:Array DictEntry}{ep i:Nat}
theorem jO.type(m:jO s.heap d es ep):s.TypeIs (.ref d) "dict" := let ⟨o,h1,h2,_⟩:=m;⟨o,h1,h2.1⟩
theorem jO.lt{h:Heap}(m:jO h d es ep):d<h.objs.size:=let ⟨_,h1,_⟩:=m;Heap.lt_size h1
theorem jO.keep{h h':Heap}(m:jO h d es ep)(k:∀o,h.get? d=some o->h'.get? d=some o):jO h' d es ep:=let ⟨o,h1,r⟩:=m;⟨o,k o h1,r⟩
theorem ade{Q:Value->Shared->Prop}(hd:(d == sysModules)=false)(m:jO s.heap d es ep)
  (q:Q (.ref s.heap.objs.size) { s with heap:=s.heap.push { cls:=.type "dict_keyiterator",data:=.fields #[.ref d,.int 0 0,.int es.size 0,.int ep 0] }}):wpAny (model prog w) A (pyIter (.ref d)) Q E s:=by
 obtain⟨o,h1,h2,h3⟩:=id m;refine wpAny_pyIter_slot m.type PySem.F.slot_dict_iter (wpAny_call_entry PySem.F.slot_dict_iter m.type PySem.F.entry_dict_iter ?_ (PySem.F.args_dict_iter_1 _));unfold Builtin.«dict.__iter__» Builtin.Dict.dictSlotNone;refine wpAny_bind (wpAny_bind (wpAny_notOrdered_dict m.type (show wpAny _ _ (pure (Value.ref d)) _ _ s from wpAny_pure ?_)))
 show wpAny _ _ (Builtin.Dict.showsAll d >>= _) _ _ s;unfold Builtin.Dict.showsAll;rw[if_neg (by rw[hd];exact Bool.false_ne_true)]
 refine wpAny_bind (wpAny_pure (wpAny_bind (wpAny_dictEntries h1 h3 (wpAny_bind (wpAny_dictEpoch h1 h3 ?_)))));refine wpAny_bind (wpAny_newObj_type (wpAny_pure ⟨_,rfl, "dict_keyiterator",_,⟨_,Heap.get?_push_size _ rfl,rfl⟩,PySem.F.slot_dict_keyiterator_next.lookup,?_⟩));simpa[rawInt] using q
theorem adf{Q:Option Value->Shared->Prop}(hit:s.heap.IsKeyIter it d i es.size ep)(m:jO s.heap d es ep)(hi:i<es.size)
  (q:∀h',h'.IsKeyIter it d (i+1) es.size ep->Heap.SameBut it s.heap h'->Q (some es[i].key) { s with heap:=h' }):wpAny (model prog w) A (pyNext (.ref it)) Q E s:=by
 obtain⟨o,ho,hc,hd⟩:=id hit;obtain⟨od,l8,_,kY⟩:=id m;unfold pyNext;refine wpAny_bind (wpAny_attempt (wpAny_callSpecial?_slot (name:=Str.ofString "__next__") hit.typeIs PySem.F.slot_dict_keyiterator_next
  (wpAny_call_entry PySem.F.slot_dict_keyiterator_next hit.typeIs PySem.F.entry_dict_keyiterator_next ?_ (PySem.F.args_dict_keyiterator_next_1 _))))
 refine wpAny_bind (wpAny_pure (wpAny_bind (wpAny_bind ?_)))
 first | refine wpAny_bind (wpAny_typeNameOfWhole_keyiter hit.typeIs (wpAny_pure ?_)) | refine wpAny_bind (wpAny_typeNameOf_keyiter hit.typeIs (wpAny_pure ?_))
 refine wpAny_bind (wpAny_fieldsOf ho hd ?_);simp only[show Builtin.Dict_items.ownsTuple "dict_keyiterator" = false by decide,Bool.false_eq_true,if_false]
 show wpAny _ _ (if (Value.ref d == Value.none)=true then _ else _) _ _ s
 rw[if_neg (show ¬ ((Value.ref d == Value.none)=true) from Bool.false_ne_true)];refine wpAny_bind (wpAny_pure (wpAny_bind (wpAny_dictEntries l8 kY ?_)));rw[if_neg (by simp)]
 refine wpAny_bind (wpAny_pure (wpAny_bind (wpAny_dictEpoch l8 kY ?_)));rw[if_neg (by simp)]
 refine wpAny_pure ?_;simp only[show ¬ ((i:Int)<0) from by lia,if_false,Int.toNat_natCast,Array.getElem?_eq_getElem hi]
 refine wpAny_bind ?_
 first | refine wpAny_bind (wpAny_typeNameOfWhole_keyiter hit.typeIs (wpAny_pure ?_)) | refine wpAny_bind (wpAny_typeNameOf_keyiter hit.typeIs (wpAny_pure ?_))
 refine wpAny_bind (wpAny_isOneOf_keyiter hit.typeIs ?_)
 show wpAny _ _ (setField (.ref it) 1 (rawInt ((i:Int)+1)) >>= _) _ _ s;refine wpAny_bind (wpAny_setField ho hd (by simp) ?_)
 have qz:(s.heap.update it (Obj.mapFields (·.setIfInBounds 1 (rawInt ((i:Int)+1))))).IsKeyIter it d (i+1) es.size ep :=
  ⟨_,Heap.get?_update_self _ ho (Obj.isFreed_of_fields (Obj.data_mapFields hd _)),(Obj.cls_mapFields ..).trans hc,by rw[Obj.data_mapFields hd];simp[rawInt]⟩
 refine wpAny_bind (wpAny_holding (wpAny_bind (wpAny_isOneOf_keyiter (s:={ s with heap:=s.heap.update it (Obj.mapFields (·.setIfInBounds 1 (rawInt ((i:Int)+1))))}) qz.typeIs ?_)))
 show wpAny _ _ (pure es[i].key) _ _ _;exact wpAny_pure (wpAny_pure ⟨_,rfl,wpAny_pure (q _ qz (Heap.SameBut.update ..))⟩)
theorem adg{Q:Option Value->Shared->Prop}(hh:A.handled=none)(hit:s.heap.IsKeyIter it d es.size es.size ep)(m:jO s.heap d es ep)(q:∀h',Heap.ExtBut it s.heap h'->Q none { s with heap:=h' }):wpAny (model prog w) A (pyNext (.ref it)) Q E s:=by
 obtain⟨o,ho,hc,hd⟩:=id hit;obtain⟨od,l8,_,kY⟩:=id m;unfold pyNext;refine wpAny_bind (wpAny_attempt (wpAny_callSpecial?_slot (name:=Str.ofString "__next__") hit.typeIs PySem.F.slot_dict_keyiterator_next
  (wpAny_call_entry PySem.F.slot_dict_keyiterator_next hit.typeIs PySem.F.entry_dict_keyiterator_next ?_ (PySem.F.args_dict_keyiterator_next_1 _))))
 refine wpAny_bind (wpAny_pure (wpAny_bind (wpAny_bind ?_)))
 first | refine wpAny_bind (wpAny_typeNameOfWhole_keyiter hit.typeIs (wpAny_pure ?_)) | refine wpAny_bind (wpAny_typeNameOf_keyiter hit.typeIs (wpAny_pure ?_))
 refine wpAny_bind (wpAny_fieldsOf ho hd ?_);simp only[show Builtin.Dict_items.ownsTuple "dict_keyiterator" = false by decide,Bool.false_eq_true,if_false]
 show wpAny _ _ (if (Value.ref d == Value.none)=true then _ else _) _ _ s
 rw[if_neg (show ¬ ((Value.ref d == Value.none)=true) from Bool.false_ne_true)];refine wpAny_bind (wpAny_pure (wpAny_bind (wpAny_dictEntries l8 kY ?_)));rw[if_neg (by simp)]
 refine wpAny_bind (wpAny_pure (wpAny_bind (wpAny_dictEpoch l8 kY ?_)));rw[if_neg (by simp)]
 refine wpAny_pure ?_;simp only[show ¬ ((es.size:Int)<0) from by lia,if_false,Int.toNat_natCast,Array.getElem?_eq_none (Nat.le_refl es.size)]
 refine wpAny_bind ?_
 first | refine wpAny_bind (wpAny_typeNameOfWhole_keyiter hit.typeIs (wpAny_pure ?_)) | refine wpAny_bind (wpAny_typeNameOf_keyiter hit.typeIs (wpAny_pure ?_))
 show wpAny _ _ (setField (.ref it) 0 .none >>= _) _ _ s;refine wpAny_bind (wpAny_setField ho hd (by simp) ?_)
 show wpAny _ _ (newExc (.type "StopIteration") [] >>= _) _ _ _;refine wpAny_bind ?_;simp only[newExc,newTuple];refine wpAny_bind (wpAny_newObj_type ?_ (by size_fits))
 refine wpAny_bind (m:=firstArgMember _ _) (wpAny_of_eq (a:=Value.none) (by first | rfl | (simp only[firstArgMember];rfl)) ?_)
 refine wpAny_newObj_type ?_ (by size_fits)
 simp only[raiseNew];refine wpAny_bind (wpAny_handled ?_);rw[show A.in1.handled=none from hh];refine wpAny_bind (wpAny_pure (wpAny_throw ?_));refine wpAny_bind (wpAny_isInstance (T := "StopIteration") (b:=true) ⟨_,Heap.get?_push_size _ rfl,rfl⟩ isSubtype_stop ?_);exact wpAny_pure (q _ (((Heap.SameBut.update ..).extBut.push _).push _))
theorem adh(hh:A.handled=none)(I:Addr)(eB:d≠I):Walks prog w A I [I,d] [I] es.size (λi v=>∃e,es[i]? = some e/\v=e.key) (λi h=>h.IsKeyIter I d i es.size ep/\jO h d es ep) where
 sub:=λb hb=>by simp at hb;simp[hb]
 frame:=λ_ _ _ st hk=>⟨st.1.at λo e=>hk I (by simp) o e,st.2.keep λo e=>hk d (by simp) o e⟩
 item:=λi s Q E hi st hQ=>adf st.1 st.2 hi λh' qz gG=>hQ _ h' s.toks ⟨_,Array.getElem?_eq_getElem hi,rfl⟩ ⟨qz,st.2.keep λo e=>gG.extBut d o eB e⟩ λb o hb e=>gG.extBut b o (λh=>hb (by simp[h])) e
 done:=λs Q E st hQ=>adg hh st.1 st.2 λh' zS=>hQ h' s.toks λb o hb e=>zS b o (λh=>hb (by simp[h])) e
 self:=λ_ _ _ _ st hQ=>wpAny_pyIter_keyiter st.1 hQ
theorem adi(lo:(d == sysModules)=false):PySem.W.KdlSrc prog w "dict" d d es.size (λi v=>∃e,es[i]? = some e/\v=e.key) (λh=>jO h d es ep) where
 type:=λ_ hm=>hm.type
 there:=λ_ hm=>⟨hm.lt,hm.lt⟩
 keep:=λ_ _ hm hk=>hm.keep λo e=>hk d (.inl rfl) o e
 notList:=by decide
 notTuple:=by decide
 hint:=λ_ _ _ _ hm hq=>PySem.W.kdl_hint_dict hm.type hq
 iter:=λ_ _ hh hm=>⟨_,_,(λ_ _ hq=>ade lo hm hq),adh hh _ (Nat.ne_of_lt hm.lt),⟨⟨_,Heap.get?_push_size _ rfl,rfl,rfl⟩,hm.keep λ_ e=>Heap.get?_push_of_some _ e⟩⟩
end
section
variable{X:Cx}
noncomputable def AA(H:Hp)(az:List (List Key×V))(ts:List Addr):Prop:=ts.length=az.length/\∀(i:Nat) (t:Addr) (kv:List Key×V),ts[i]? = some t->az[i]? = some kv->H t=some (.tup (kv.1.map kV))
theorem KT.at{H:Hp}{az:List (List Key×V)}{xs:List (List Key×Addr×Value)}(h:KT H az xs):∀(i:Nat) (x:List Key×Addr×Value) (kv:List Key×V),xs[i]? = some x->az[i]? = some kv->H x.2.1=some (.tup (kv.1.map kV)):=by
 induction h with
 | nil=>intro i x kv e;cases e
 | @cons p q ps qs hq _ ih =>
  intro i x kv e1 e2;cases i with
  | zero =>
   rw[List.getElem?_cons_zero] at e1 e2;cases e1;cases e2;exact hq.2.1
  | succ i =>
   rw[List.getElem?_cons_succ] at e1 e2;exact ih i x kv e1 e2
theorem adk(hc:X.calm=true):fS X (.type "list") (λxs H Q=>∃a az,xs = [.ref a]/\H a=some (.dT az)/\∀l ts,H l=none->AA H az ts->Q (.ref l) (upd H l (.lst (ts.map V.ref)))):=by
 intro pins s σ H xs us Q I r h;obtain⟨a,az,rfl,ha,q⟩:=h;obtain⟨u,rfl,ru⟩:=vals1 r;cases ru;obtain⟨z,hs,ks,kt,dd⟩:=Gg I.aM ha;obtain⟨o,es,ep,h1,h2,h3,h4,h5,h6⟩:=id dd;have Hl:es.size=ks.length:=by rw[← Array.length_toList,h4,List.length_map]
 refine PySem.W.kdl_call (adi (es:=es) (ep:=ep) hs) (I.ok.hd hc) ⟨o,h1,h2,h3⟩ (by rw[Hl,kt.len];exact z) λh' tk acc c' keep hl jw=>?_
 have fr:H s.heap.objs.size=none:=I.aM.fresh (Nat.le_refl _);have al:acc.toList=ks.map λx=>Value.ref x.2.1:=by
  refine List.ext_getElem? λi=>?_
  by_cases hi:i<ks.length
  ·have cO:i<acc.size:=by rw[jw.1,Hl];exact hi
   obtain⟨e,e1,e2⟩:=jw.2 i acc[i] (Array.getElem?_eq_getElem cO);have e3:es.toList[i]? = some e:=by rw[Array.getElem?_toList];exact e1
   rw[h4,List.getElem?_map,List.getElem?_eq_getElem hi] at e3;rw[Array.getElem?_toList,Array.getElem?_eq_getElem cO,List.getElem?_map,List.getElem?_eq_getElem hi,e2,← Option.some.inj e3]
   rfl
  ·rw[List.getElem?_eq_none (by rw[Array.length_toList,jw.1,Hl];lia),List.getElem?_eq_none (by rw[List.length_map];lia)]
 have ka:AA H az (ks.map λx=>x.2.1):=⟨by rw[List.length_map];exact kt.len,λi t kv e1 e2=>by
  obtain⟨x,ex,rfl⟩:=dM e1;exact kt.at i x kv ex e2⟩
 refine⟨.ref s.heap.objs.size,upd H s.heap.objs.size (.lst ((ks.map λx=>x.2.1).map V.ref)),?_,rfl,q _ _ fr ka⟩;refine I.laid (a:=s.heap.objs.size) (o:=.lst ((ks.map λx=>x.2.1).map V.ref)) (t':=tk) (λb o hb=>keep b o hb) (Nat.le_refl _) ?_;refine⟨by rw[List.length_map,List.length_map,kt.len];exact z,acc.toList,c',?_,by rw[Array.toArray_toList];exact hl⟩
 rw[al];clear al jw;generalize ks=ks
 induction ks with
 | nil=>exact .nil
 | cons x ks ih=>exact .cons rfl ih
end
noncomputable def iE(rc:List Int)(s:Int)(o:Nat):List (Int×Int):=(List.range s.toNat).map λ(j:Nat)=>((o:Int),rc.getD o 0 - s+(j:Int))
noncomputable def iF(rc:List Int)(s:Int)(us:List (Int×Int))(is:List Nat):Option (Int×Int):=(is.flatMap (iE rc s)).find? λc=>decide (c∉us)
structure Kp(P:Addr)(pos:Pos)(qual:Str)(H H':Hp):Prop where
 b:SameBut P H H'
 t:cH P pos qual H'
theorem cH.same{P:Addr}{pos:Pos}{qual:Str}{H H':Hp}(h:cH P pos qual H)(s:aj H H'):cH P pos qual H':=by
 obtain⟨ps,e,k,c⟩:=h;refine⟨ps,s _ _ e,k,?_⟩;rcases c with c | ⟨c',c1,c2⟩
 ·exact .inl c
 ·exact .inr ⟨c',c1,s _ _ c2⟩
section
variable{P:Addr}{pos:Pos}{qual:Str}{H H1 H2:Hp}
theorem Kp.step(k:Kp P pos qual H H1)(s:aj H1 H2):Kp P pos qual H H2:=⟨k.b.step s,k.t.same s⟩
theorem Kp.trans(k:Kp P pos qual H H1)(k2:Kp P pos qual H1 H2):Kp P pos qual H H2:=⟨k.b.trans k2.b,k2.t⟩
theorem Kp.of(t:cH P pos qual H)(s:aj H H1):Kp P pos qual H H1:=⟨.of s,t.same s⟩
theorem cH.ne(t:cH P pos qual H){a:Addr}{o:HO}(e:H a=some o)(n:∀ps,o≠.eO ps):a≠P:=λz=>by
 obtain⟨ps,e',_⟩:=t;rw[z,e'] at e;exact n ps (Option.some.inj e).symm
theorem Kp.get(k:Kp P pos qual H H1)(t:cH P pos qual H){a:Addr}{o:HO}(e:H a=some o)(n:∀ps,o≠.eO ps:=by intro _ z;cases z):H1 a=some o:=k.b _ _ e (t.ne e n)
theorem Kp.free(k:Kp P pos qual H H1){a:Addr}(n:H1 a=none):H a=none:=by
 cases e:H a with
 | none=>rfl
 | some o =>
  by_cases z:a=P
  ·obtain⟨ps,e',_⟩:=k.t;rw[z,e'] at n;cases n
  ·rw[k.b _ _ e z] at n;cases n
theorem Kp.seq{K:PySem.W.Frag}{a:Addr}{xs:List V}(k:Kp P pos qual H H1)(t:cH P pos qual H)(h:aA K H a xs):aA K H1 a xs:=by
 rcases h with(h | ⟨o,h⟩) | h
 ·exact .inl (.inl (k.get t h))
 ·exact .inl (.inr ⟨o,k.get t h⟩)
 ·exact .inr h
end
theorem cH.put{P:Addr}{pos:Pos}{qual:Str}{H:Hp}{a:Addr}{o ob:HO}(t:cH P pos qual H)(e:H a=some ob)(n1:∀ps,ob≠.eO ps:=by intro _ z;cases z)(n2:∀φ,ob≠.ext φ:=by intro _ z;cases z):cH P pos qual (upd H a o):=by
 obtain⟨ps,e',k,c⟩:=t;refine⟨ps,?_,k,?_⟩
 ·rw[aI (λz=>n1 ps (by rw[z,e] at e';exact Option.some.inj e'))];exact e'
 ·rcases c with c | ⟨c',c1,c2⟩
  ·exact .inl c
  ·refine .inr ⟨c',c1,?_⟩;rw[aI (λz=>n2 _ (by rw[z,e] at c2;exact Option.some.inj c2))];exact c2
theorem cH.keep{P:Addr}{pos:Pos}{qual:Str}{H H':Hp}{x:Addr}{ob:HO}(t:cH P pos qual H)(h:∀b,b≠x->H' b=H b)(e:H x=some ob)(n1:∀ps,ob≠.eO ps:=by intro _ z;cases z)(n2:∀φ,ob≠.ext φ:=by intro _ z;cases z):cH P pos qual H':=by
 obtain⟨ps,e',k,c⟩:=t;refine⟨ps,?_,k,?_⟩
 ·rw[h _ (λz=>n1 ps (by rw[z,e] at e';exact Option.some.inj e'))];exact e'
 ·rcases c with c | ⟨c',c1,c2⟩
  ·exact .inl c
  ·refine .inr ⟨c',c1,?_⟩;rw[h _ (λz=>n2 _ (by rw[z,e] at c2;exact Option.some.inj c2))];exact c2
theorem Kp.put{P:Addr}{pos:Pos}{qual:Str}{H H1:Hp}{a:Addr}{o ob:HO}(k:Kp P pos qual H H1)(n:H a=none)(e:H1 a=some ob)(n1:∀ps,ob≠.eO ps:=by intro _ z;cases z)(n2:∀φ,ob≠.ext φ:=by intro _ z;cases z):Kp P pos qual H (upd H1 a o) :=
 ⟨λb u q h=>by rw[aI (bO q n)];exact k.b b u q h,k.t.put e n1 n2⟩
theorem adl{rc:List Int}{s:Int}{us:List (Int×Int)}{is:List Nat}{o:Int×Int}(h:iF rc s us is=some o):o∉us:=by
 have:=List.find?_some h;simpa using this
theorem adm{rc:List Int}{s:Int}{us:List (Int×Int)}{is:List Nat}{i o:Nat}(h:∀c∈(is.take i).flatMap (iE rc s),c∈us)(e:is[i]? = some o)(h2:∀c∈iE rc s o,c∈us) :
  ∀c∈(is.take (i+1)).flatMap (iE rc s),c∈us:=by
 intro c hc;rw[take_succ_get e,List.flatMap_append,List.mem_append] at hc;rcases hc with hc | hc
 ·exact h c hc
 ·exact h2 c (by simpa using hc)
theorem adn{rc:List Int}{s:Int}{us:List (Int×Int)}{is:List Nat}(h:∀c∈is.flatMap (iE rc s),c∈us):iF rc s us is=none:=by
 unfold iF;rw[List.find?_eq_none];intro c hc;simpa using h c hc
theorem ado{rc:List Int}{s:Int}{us:List (Int×Int)}{is:List Nat}{i o j:Nat}(h:∀c∈(is.take i).flatMap (iE rc s),c∈us)(e:is[i]? = some o)(hj:j<s.toNat)
  (h2:∀j',j' < j->((o:Int),rc.getD o 0 - s+(j':Int))∈us) (h3:((o:Int),rc.getD o 0 - s+(j:Int))∉us):iF rc s us is=some ((o:Int),rc.getD o 0 - s+(j:Int)):=by
 have hi:=cN e;have e1:is=is.take i++o::is.drop (i+1):=by
  have:is.drop i=o::is.drop (i+1):=by
   rw[List.drop_eq_getElem_cons hi];rw[List.getElem?_eq_getElem hi] at e;rw[Option.some.inj e]
  rw[← this,List.take_append_drop]
 have e2:iE rc s o=(List.range j).map (λ(j:Nat)=>((o:Int),rc.getD o 0 - s+(j:Int)))++((o:Int),rc.getD o 0 - s+(j:Int))::((List.range s.toNat).drop (j+1)).map λ(j:Nat)=>((o:Int),rc.getD o 0 - s+(j:Int)):=by
  unfold iE;have:List.range s.toNat=List.range j++j::(List.range s.toNat).drop (j+1):=by
   have q:(List.range s.toNat).drop j=j::(List.range s.toNat).drop (j+1):=by
    rw[List.drop_eq_getElem_cons (by simpa using hj)]
    rw[List.getElem_range]
   have q2:(List.range s.toNat).take j=List.range j:=by
    rw[List.take_range,Nat.min_eq_left (by lia)]
   rw[← q,← q2,List.take_append_drop]
  conv=>lhs;rw[this]
  rw[List.map_append,List.map_cons]
 unfold iF;rw[e1,List.flatMap_append,List.flatMap_cons,e2,List.find?_append,List.find?_eq_none.mpr (λc hc=>by simpa using h c hc),Option.none_or,List.append_assoc,List.find?_append,
  List.find?_eq_none.mpr (λc hc=>by
   obtain⟨j',gY,rfl⟩:=List.mem_map.mp hc;simpa using h2 j' (List.mem_range.mp gY)),Option.none_or,List.cons_append,List.find?_cons_of_pos (by simpa using h3)]
noncomputable def adp(K:PySem.W.Frag)(P:Addr)(pos:Pos)(qual:Str):Sp:=λvs H Q _=>∃(ra ud:Addr) (r s:Int) (rc:List Int) (us:List (Int×Int)),vs = [.ref ra,.int s,.int r,.ref ud]/\aA K H ra (rc.map V.int)/\2<=rc.length/\rc.length<64/\0<=s/\s<=1000/\(∀c∈rc,s<=c/\c<=1000)/\
 H ud=some (.dT (cG us))/\cH P pos qual H/\∀(is:List Nat) (H':Hp),kW (i8 r) rc.length is->Kp P pos qual H H'->
  (iF rc s us is=none->Q .aP H')/\∀c t,iF rc s us is=some c->H t=none->H' t=some (.tup [.int c.1,.int c.2])->Q (.ref t) H'
inductive jP (rc:List Int) (s:Int) (z:List (Int×Int)) (us:List (Int×Int)):List Nat->List (Nat×(Int×Int)×(Int×Int))->Prop
 | nil:jP rc s z us [] []
 | snoc {ns:List Nat} {ms:List (Nat×(Int×Int)×(Int×Int))} {n:Nat} {c o:Int×Int} (h:jP rc s z us ns ms) (hc:z[n]? = some c) {is:List Nat} (ho:kW (i8 c.1) rc.length is)
   (hf:iF rc s (us++ms.map λm=>m.2.2) is=some o):jP rc s z us (ns++[n]) (ms++[(n,c,o)])
theorem jP.len{rc:List Int}{s:Int}{z us:List (Int×Int)}{ns:List Nat}{ms:List (Nat×(Int×Int)×(Int×Int))}(h:jP rc s z us ns ms):ms.length=ns.length:=by
 induction h with
 | nil=>rfl
 | snoc _ _ _ _ ih=>simp[ih]
structure g8(H:Hp)(l:Addr)(ts us os:List Addr)(ms:List (Nat×(Int×Int)×(Int×Int))):Prop where
 l:H l=some (.lst (us.map V.ref))
 n:us.length=ms.length
 no:os.length=ms.length
 t:∀(i:Nat) (u:Addr) (m:Nat×(Int×Int)×(Int×Int)),us[i]? = some u->ms[i]? = some m->∃tc to,os[i]? = some to/\H u=some (.tup [.int (m.1:Int),.ref tc,.ref to])/\ts[m.1]? = some tc/\H tc=some (.tup [.int m.2.1.1,.int m.2.1.2])/\H to=some (.tup [.int m.2.2.1,.int m.2.2.2])
theorem g8.but{P:Addr}{pos:Pos}{qual:Str}{H H':Hp}{l:Addr}{ts us os:List Addr}{ms:List (Nat×(Int×Int)×(Int×Int))}(h:g8 H l ts us os ms)(t:cH P pos qual H)(k:Kp P pos qual H H'):g8 H' l ts us os ms :=
 ⟨k.get t h.l,h.n,h.no,λi u m e1 e2=>let ⟨tc,to,x,a,b,c,d⟩:=h.t i u m e1 e2;⟨tc,to,x,k.get t a,b,k.get t c,k.get t d⟩⟩
theorem g8.same{H H':Hp}{l:Addr}{ts us os:List Addr}{ms:List (Nat×(Int×Int)×(Int×Int))}(h:g8 H l ts us os ms)(k:aj H H'):g8 H' l ts us os ms :=
 ⟨k _ _ h.l,h.n,h.no,λi u m e1 e2=>let ⟨tc,to,x,a,b,c,d⟩:=h.t i u m e1 e2;⟨tc,to,x,k _ _ a,b,k _ _ c,k _ _ d⟩⟩
theorem g8.other{H:Hp}{l x:Addr}{o:HO}{ts us os:List Addr}{ms:List (Nat×(Int×Int)×(Int×Int))}(h:g8 H l ts us os ms)(hx:∃az,H x=some (.dT az)):g8 (upd H x o) l ts us os ms:=by
 obtain⟨az,hx⟩:=hx;have ne:∀ {a:Addr} {o':HO},H a=some o'->(∀az,o'≠.dT az)->a≠x:=λe n z=>n az (by rw[z,hx] at e;exact(Option.some.inj e).symm)
 refine⟨by rw[aI (ne h.l (by intro _ z;cases z))];exact h.l,h.n,h.no,λi u m e1 e2=>?_⟩
 obtain⟨tc,to,x,a,b,c,d⟩:=h.t i u m e1 e2;exact⟨tc,to,x,by rw[aI (ne a (by intro _ z;cases z))];exact a,b,by rw[aI (ne c (by intro _ z;cases z))];exact c,by rw[aI (ne d (by intro _ z;cases z))];exact d⟩
theorem g8.snoc{H:Hp}{l:Addr}{ts us os:List Addr}{ms:List (Nat×(Int×Int)×(Int×Int))}(h:g8 H l ts us os ms){u tc to:Addr}{m:Nat×(Int×Int)×(Int×Int)}(hu:H u=some (.tup [.int (m.1:Int),.ref tc,.ref to]))(ht:ts[m.1]? = some tc)
  (hc:H tc=some (.tup [.int m.2.1.1,.int m.2.1.2])) (ho:H to=some (.tup [.int m.2.2.1,.int m.2.2.2])):g8 (upd H l (.lst (us.map V.ref++[V.ref u]))) l ts (us++[u]) (os++[to]) (ms++[m]):=by
 have ne:∀ {a:Addr} {xs:List V},H a=some (.tup xs)->a≠l:=λe q=>by rw[q,h.l] at e;cases e
 refine⟨by rw[aD,List.map_append];rfl,by simp[h.n],by simp[h.no],λi u' m' e1 e2=>?_⟩
 by_cases hi:i<us.length
 ·rw[List.getElem?_append_left hi] at e1;rw[List.getElem?_append_left (by rw[← h.n];exact hi)] at e2
  obtain⟨tc',to',x,a,b,c,d⟩:=h.t i u' m' e1 e2;exact⟨tc',to',by rw[List.getElem?_append_left (cN x)];exact x,by rw[aI (ne a)];exact a,b,by rw[aI (ne c)];exact c,by rw[aI (ne d)];exact d⟩
 ·rw[List.getElem?_append_right (by lia)] at e1
  rw[List.getElem?_append_right (by rw[← h.n];lia),← h.n] at e2
  have hj:i - us.length=0:=by
   have:=(List.getElem?_eq_some_iff.mp e1).1;simp at this;lia
  rw[hj] at e1 e2;cases e1;cases e2;exact⟨tc,to,by rw[List.getElem?_append_right (by rw[h.no,← h.n];lia),h.no,← h.n,hj];rfl,by rw[aI (ne hu)];exact hu,ht,by rw[aI (ne hc)];exact hc,by rw[aI (ne ho)];exact ho⟩
noncomputable def d8(bz:List (Int×Int)):Nat->List (Int×Int)->List Nat
 | _,[]=>[]
 | i,q::z=>if q∈bz then i::d8 bz (i+1) z else d8 bz (i+1) z
theorem AB(bz:List (Int×Int)):∀(z:List (Int×Int)) (i:Nat),iV (cG bz) i z=(d8 bz i z).map λ(n:Nat)=>(n:Int)
 | [],i=>rfl
 | q::z,i=>by
  rw[iV,d8];by_cases h:q∈bz
  ·rw[GK h,if_pos (show (some (V.bl true)).isSome=true from rfl),if_pos h,List.map_cons,AB bz z]
  ·rw[wG h,if_neg (by simp),if_neg h,AB bz z]
theorem Rh{bz:List (Int×Int)}:∀ {z:List (Int×Int)} {i n:Nat},n∈d8 bz i z->i<=n/\∃c,z[n - i]? = some c/\c∈bz
 | [],i,n,h=>by cases h
 | q::z,i,n,h=>by
  rw[d8] at h;have tl:n∈d8 bz (i+1) z->i<=n/\∃c,(q::z)[n - i]? = some c/\c∈bz:=λh=>by
   obtain⟨h1,c,h2,h3⟩:=Rh h;refine⟨by lia,c,?_,h3⟩
   rw[show n - i=(n - (i+1))+1 by lia,List.getElem?_cons_succ]
   exact h2
  split at h
  ·rename_i hq;rcases List.mem_cons.mp h with rfl | h
   ·exact⟨Nat.le_refl _,q,by simp,hq⟩
   ·exact tl h
  ·exact tl h
theorem adq(bz z:List (Int×Int)):(d8 bz 0 z).length<=z.length:=by
 have:=GJ (cG bz) z 0;rw[AB,List.length_map] at this;exact this
theorem Ri(us:List (Int×Int)){o:Int×Int}(h:o∉us):putK (cG us) (kT o) (.bl true)=cG (us++[o]):=by
 rw[PN _ (wG h)];simp[cG]
noncomputable def ads(K:PySem.W.Frag)(P:Addr)(pos:Pos)(qual:Str):Sp:=λvs H Q _=>∃(ra na d:Addr) (s:Int) (rc:List Int) (ts:List Addr) (z bz:List (Int×Int)),vs = [.ref ra,.int s,.ref na,.ref d]/\aA K H ra (rc.map V.int)/\2<=rc.length/\rc.length<64/\0<=s/\s<=1000/\(∀c∈rc,s<=c/\c<=1000)/\
 Zn H na ts z/\z.length<=1000000/\H d=some (.dT (cG bz))/\Az (bz.map kT)/\bz.length<=1000/\cH P pos qual H/\
 (∀(os:List (Int×Int)) (r:Int) (is:List Nat),os.length<(d8 bz 0 z).length->kW (i8 r) rc.length is->iF rc s (bz++os) is≠none)/\
 ∀l us os ms H',Kp P pos qual H H'->H l=none->(∀t∈os,H t=none)->jP rc s z bz (d8 bz 0 z) ms->g8 H' l ts us os ms->Q (.ref l) H'
theorem adt{n j:Nat}(h:j<n):gT n (j:Int)=some j:=by
 unfold gT;rw[if_pos (by lia),if_pos (by lia)]
 simp
noncomputable def mj(nc:List (Int×Int))(ms:List (Nat×(Int×Int)×(Int×Int))):List (Int×Int):=ms.foldl (λa m=>a.set m.1 m.2.2) nc
theorem adu(nc:List (Int×Int))(ms:List (Nat×(Int×Int)×(Int×Int)))(m:Nat×(Int×Int)×(Int×Int)):mj nc (ms++[m])=(mj nc ms).set m.1 m.2.2:=by
 unfold mj;rw[List.foldl_append];rfl
theorem AD(nc:List (Int×Int))(ms:List (Nat×(Int×Int)×(Int×Int))):(mj nc ms).length=nc.length:=by
 unfold mj
 induction ms generalizing nc with
 | nil=>rfl
 | cons m ms ih=>rw[List.foldl_cons,ih,List.length_set]
theorem Zn.setAt{H:Hp}{l t:Addr}{ts:List Addr}{z:List (Int×Int)}(h:Zn H l ts z){k:Nat}{c:Int×Int}(ht:H t=some (.tup [.int c.1,.int c.2])):Zn (upd H l (.lst ((ts.set k t).map V.ref))) l (ts.set k t) (z.set k c):=by
 have ne:∀ {a:Addr} {xs:List V},H a=some (.tup xs)->a≠l:=λe q=>by rw[q,h.l] at e;cases e
 refine⟨aD,by simp[h.n],λi t' p e1 e2=>?_⟩
 rw[List.getElem?_set] at e1 e2;by_cases hk:k=i
 ·subst hk;rw[if_pos rfl] at e1 e2;have hl:k<ts.length:=by
   by_cases q:k<ts.length
   ·exact q
   ·rw[if_neg q] at e1;cases e1
  rw[if_pos hl] at e1;rw[if_pos (by rw[← h.n];exact hl)] at e2
  cases e1;cases e2;rw[aI (ne ht)];exact ht
 ·rw[if_neg hk] at e1 e2;have:=h.t i t' p e1 e2;rw[aI (ne this)];exact this
noncomputable def adv(K:PySem.W.Frag)(C P:Addr)(pos:Pos)(qual:Str):Sp:=λvs H Q _=>∃(p dx za sa ba:Addr) (bq iW:List Addr) (z bz:List (Int×Int)) (ao bY s:Int) (sw:List Int),vs = [.ref p,.ref za,.int ao,.int bY,.ref sa,.int s,.ref ba]/\CP K C/\bQ K C "moves"/\H p=some (.ins C dx [])/\Zn H za bq z/\qA z/\
 1<=ao/\ao<=1000000000/\0<=bY/\bY<ao/\(∀p∈z,ao % p.2=0)/\aA K H sa (sw.map V.int)/\SwOk sw (z.map (·.1)).sum/\Zn H ba iW bz/\bz.length<=1000/\bz.Nodup/\(∀q∈bz,0<=q.1/\q.1<(counts z).length/\0<=q.2/\q.2<(counts z).getD q.1.toNat 0)/\
 (counts z).length<64/\0<=s/\(∀c∈counts z,s<c)/\cH P pos qual H/\
 (∀(os:List (Int×Int)) (r:Int) (is:List Nat),os.length<(d8 bz 0 (e8 (counts z) s)).length->kW (i8 r) (counts z).length is->iF (counts z) s (bz++os) is≠none)/\
 ∀H' fp mv ts us os ms,(∀b o,H b=some o->b≠p->b≠P->H' b=some o)->cH P pos qual H'->(∀b∈mv::fp,H b=none)->jP (counts z) s (e8 (counts z) s) bz (d8 bz 0 (e8 (counts z) s)) ms->
  GL K C H' p ⟨counts z,ao,bY,sw,mj (e8 (counts z) s) ms⟩ fp mv (us.map V.ref)->g8 H' mv ts us os ms->Q .aP H'
theorem Ho{α:Type}[DecidableEq α]:∀ {l l':List α},l.Nodup->(∀x∈l,x∈l')->l.length<=l'.length
 | [],_,_,_=>Nat.zero_le _
 | x::l,l',n,h=>by
  rw[List.nodup_cons] at n;have hx:=h x (by simp)
  have:=Ho (l:=l) (l':=l'.erase x) n.2 λy hy=>(List.mem_erase_of_ne (λ(e:y=x)=>n.1 (by rw[← e];exact hy))).mpr (h y (List.mem_cons_of_mem _ hy))
  rw[List.length_erase_of_mem hx] at this;have:=List.length_pos_of_mem hx;simp only[List.length_cons];lia
theorem Hq(bz:List (Int×Int)):∀(z:List (Int×Int)) (i:Nat),(d8 bz i z).length=(z.filter λc=>decide (c∈bz)).length
 | [],_=>rfl
 | q::z,i=>by
  rw[d8,List.filter_cons];by_cases h:q∈bz
  ·rw[if_pos h,if_pos (decide_eq_true h),List.length_cons,List.length_cons,Hq bz z]
  ·rw[if_neg h,if_neg (by simpa using h),Hq bz z]
theorem Hr{s:Int}:∀(rc:List Int) (r:Nat) (c:Int×Int),c∈dY s r rc->∃j:Nat,j<rc.length/\c.1=((r+j:Nat):Int)/\0<=c.2/\c.2<rc.getD j 0 - s
 | [],r,c,h=>by cases h
 | x::rc,r,c,h=>by
  rw[dY,List.mem_append] at h;rcases h with h | h
  ·obtain⟨k,hk,rfl⟩:=List.mem_map.mp h;have:=List.mem_range.mp hk;exact⟨0,by simp,by simp,by show 0<=(k:Int);lia,by show (k:Int)<x - s;lia⟩
  ·obtain⟨j,h1,h2,h3,h4⟩:=Hr rc (r+1) c h;exact⟨j+1,by simpa using h1,by rw[h2];congr 1;lia,h3,by simpa using h4⟩
theorem Rj(rc:List Int)(s:Int):∀is:List Nat,(is.flatMap (iE rc s)).length=is.length*s.toNat
 | []=>by simp
 | o::is=>by
  rw[List.flatMap_cons,List.length_append,Rj rc s is,List.length_cons,Nat.succ_mul];unfold iE;simp;lia
theorem Hs{rc:List Int}{s:Int}{is:List Nat}{c:Int×Int}(h:c∈is.flatMap (iE rc s)):∃o∈is,c.1=(o:Int)/\rc.getD o 0 - s<=c.2/\c.2<rc.getD o 0 - s+s.toNat:=by
 obtain⟨o,ho,hc⟩:=List.mem_flatMap.mp h;obtain⟨j,hj,rfl⟩:=List.mem_map.mp hc;have:=List.mem_range.mp hj;exact⟨o,ho,rfl,by show _<=rc.getD o 0 - s+(j:Int);lia,by show rc.getD o 0 - s+(j:Int)<_;lia⟩
theorem Rk(rc:List Int)(s:Int):∀ {is:List Nat},is.Nodup->(is.flatMap (iE rc s)).Nodup
 | [],_=>by simp
 | o::is,n=>by
  rw[List.nodup_cons] at n;rw[List.flatMap_cons,List.nodup_append];refine⟨?_,Rk rc s n.2,λa ha b hb e=>?_⟩
  ·unfold iE;rw[List.nodup_iff_pairwise_ne,List.pairwise_map];refine List.Pairwise.imp ?_ (List.nodup_iff_pairwise_ne.mp List.nodup_range);intro a b h e;have:=congrArg Prod.snd e;simp only at this;lia
  ·obtain⟨j,hj,rfl⟩:=List.mem_map.mp ha;obtain⟨o',iu,e1,_⟩:=Hs hb;rw[← e] at e1;have e1:(o:Int)=(o':Int):=e1;have:o=o':=by lia
   exact n.1 (this▸iu)
theorem adw{rc:List Int}{s:Int}{bz:List (Int×Int)}(hs:0<=s)(hb:bz.length<=s.toNat*rc.length)(os:List (Int×Int))(r:Int)(is:List Nat)
  (ho:os.length<(d8 bz 0 (e8 rc s)).length) (ord:kW (i8 r) rc.length is):iF rc s (bz++os) is≠none:=by
 intro h;unfold iF at h;rw[List.find?_eq_none] at h;have nd:is.Nodup:=ord.1.nodup_iff.mpr List.nodup_range;have il:is.length=rc.length:=by rw[ord.1.length_eq,List.length_range]
 have K1:=Rj rc s is;have K2:=Rk rc s nd;have c1:=Ho (l':=(bz.filter λc => !decide (c∈e8 rc s))++os) K2 λc hc=>by
  have:=h c hc;have hm:c∈bz++os:=by
   by_cases q:c∈bz++os
   ·exact q
   ·exact absurd (decide_eq_true q) this
  rw[List.mem_append] at hm ⊢;rcases hm with hm | hm
  ·refine .inl (List.mem_filter.mpr ⟨hm,?_⟩);rw[Bool.not_eq_true',decide_eq_false_iff_not];intro hz;obtain⟨o,iu,e1,e2,_⟩:=Hs hc;obtain⟨j,j1,j2,j3,j4⟩:=Hr rc 0 c hz;have:o=j:=by lia
   rw[this] at e2;lia
  ·exact .inr hm
 have c2:=Ho (l:=(e8 rc s).filter λc=>decide (c∈bz)) (l':=bz.filter λc=>decide (c∈e8 rc s)) ((Qk rc 0).filter _) λc hc=>by
  obtain⟨h1,h2⟩:=List.mem_filter.mp hc;exact List.mem_filter.mpr ⟨by simpa using h2,by simpa using h1⟩
 have c3:(bz.filter λc=>decide (c∈e8 rc s)).length+(bz.filter λc => !decide (c∈e8 rc s)).length=bz.length:=by
  clear h ho hb c1 c2
  induction bz with
  | nil=>rfl
  | cons x bz ih =>
   rw[List.filter_cons,List.filter_cons];by_cases q:x∈e8 rc s
   ·rw[if_pos (decide_eq_true q),if_neg (by simpa using q)];simp only[List.length_cons];lia
   ·rw[if_neg (by simpa using q),if_pos (by simpa using q)];simp only[List.length_cons];lia
 rw[Hq] at ho;rw[List.length_append] at c1;rw[K1,il,Nat.mul_comm] at c1;lia
theorem ady(us:List (Int×Int)){o:Int×Int}(h:o∈us):putK (cG us) (kT o) (.bl true)=cG us:=by
 unfold putK;rw[sy,GK h,if_pos (show (some (V.bl true)).isSome=true from rfl)];unfold cG;rw[List.map_map];refine List.map_congr_left λx _=>?_
 show (if kT x=kT o then(kT x,V.bl true) else(kT x,V.bl true))=_
 split <;> rfl
theorem AA.zn{H:Hp}{l:Addr}{ts:List Addr}{bz:List (Int×Int)}(h:AA H (cG bz) ts)(nl:H l=none):Zn (upd H l (.lst (ts.map V.ref))) l ts bz:=by
 refine⟨aD,by rw[h.1,cG,List.length_map],λi t p e1 e2=>?_⟩
 have e3:(cG bz)[i]? = some (kT p,V.bl true):=by unfold cG;rw[List.getElem?_map,e2];rfl
 have:=h.2 i t _ e1 e3;rw[aI (bO this nl)];exact this
noncomputable def AE(K:PySem.W.Frag)(tabs:List (Addr×Addr)):Sp:=λvs H Q _=>∃(a:Addr) (ns:List Int),vs = [.ref a]/\aA K H a (ns.map V.int)/\ns.length<=63/\(∀q∈tabs,H q.2=some (.eO #[]))/\∀H',Q (.bl true) H'
theorem walk_lawT{l:PySem.W.OpenLaw}{k:Nat}{q:Program}{loose:List Str}{XP:(Str->Option Value)->Heap->Prop}{YP:World->Heap->Prop}{d:DefRec}{K:Params->PySem.W.Frag}{x:Str}
  (hn:l.most=some 63) (qx:d.params.defaults = []) (hr:cX k callerA) (hY:∀(w:World) (h:Heap),YP w h->(K w.params).In h) (pA:∀w:World,PySem.W.noTabs (K w.params)=true)
  (F:∀(w:World) (mg:Str->Option Value) (fa:Addr) (h:Heap),YP w h->(K w.params).In h->h.Ns mainGlobals mg->mg d.name=some (.ref fa)->
   ∃(fd:FuncData) (tabs:List (Addr×Addr)),(∀(s:Shared) (u:Value),BindsTo s fd ⟨[u],[]⟩ [(x,u)])/\PySem.W.TabsAt tabs h/\
    ∀base:Heap,(K w.params).In base->base.Ns mainGlobals mg->(∀q∈tabs,bx mg base q.1 q.2)->aX l.prog w (K w.params) mg base br k fa fd [x] (AE (K w.params) tabs)) :
  PySem.W.WalkO q loose XP YP l.row.toRowW d [] (λf vs=>PySem.call f vs) :=
 ac3 (n:=63) (sp:=λw tabs=>AE (K w.params) tabs) hn (by decide) qx hr hY pA F (λ_ tabs H a ns hl hT hS=>⟨a,ns,rfl,hS,hl,hT,λ_=>rfl⟩)
noncomputable abbrev Us:=List (Addr×List Int)
noncomputable def uV(zs:Us):List V:=zs.map λz=>V.ref z.1
noncomputable def AF(H:Hp)(zs:Us):Prop:=∀z,z∈zs->H z.1=some (.tup (z.2.map V.int))
section
variable{X:Cx}{pins:List (Addr×Obj)}{σ:St}{H:Hp}{s:Shared}
end
section
variable{X:Cx}
noncomputable def AG(K:PySem.W.Frag)(neg:Bool):R2:=λx y H Q=>∃(a p:Addr) (c:List Int) (zs:Us),x = .ref a/\y = .ref p/\H a=some (.tup (c.map V.int))/\aA K H p (uV zs)/\AF H zs/\
 Q (.bl (if neg then !decide (c∈zs.map (·.2)) else decide (c∈zs.map (·.2)))) H
noncomputable def AH:V->List V->Hp->VK->Prop:=λx vs H Q=>∃(l a:Addr) (zs:Us) (c:List Int),x = .ref l/\vs = [.ref a]/\H l=some (.lst (uV zs))/\AF H zs/\H a=some (.tup (c.map V.int))/\c∈zs.map (·.2)/\
 ∀(k:Nat) (h:k<zs.length),zs[k].2=c->(∀m (hm:m<zs.length),m<k->zs[m].2≠c)->Q .aP (upd H l (.lst (uV (zs.eraseIdx k))))
end
theorem jP.at{rc:List Int}{s:Int}{z us:List (Int×Int)}{ns:List Nat}{ms:List (Nat×(Int×Int)×(Int×Int))}(h:jP rc s z us ns ms):∀(k:Nat) (m:Nat×(Int×Int)×(Int×Int)),ms[k]? = some m->
  ns[k]? = some m.1/\z[m.1]? = some m.2.1/\∃is,kW (i8 m.2.1.1) rc.length is/\iF rc s (us++(ms.take k).map λm=>m.2.2) is=some m.2.2:=by
 induction h with
 | nil=>intro k m e;simp at e
 | @snoc ns ms n c o h hc is ho hf ih =>
  intro k m e;have ln:=h.len;by_cases hk:k<ms.length
  ·rw[List.getElem?_append_left hk] at e;obtain⟨a,b,is',c1,d⟩:=ih k m e;refine⟨by rw[List.getElem?_append_left (by lia)];exact a,b,is',c1,?_⟩
   rw[List.take_append_of_le_length (by lia)];exact d
  ·rw[List.getElem?_append_right (by lia)] at e
   have hj:k - ms.length=0:=by
    have:=(List.getElem?_eq_some_iff.mp e).1;simp at this;lia
   rw[hj] at e;cases e;have kZ:k=ms.length:=by lia
   subst kZ;refine⟨by rw[List.getElem?_append_right (by lia),ln];simp,hc,is,ho,?_⟩
   rw[List.take_append_of_le_length (by lia),List.take_length];exact hf
theorem Rl(bz:List (Int×Int)):∀(z:List (Int×Int)) (i k n:Nat),(d8 bz i z)[k]? = some n->(z.filter λc=>decide (c∈bz))[k]? = z[n - i]?/\i<=n
 | [],i,k,n,h=>by simp[d8] at h
 | q::z,i,k,n,h=>by
  have tl:∀k,(d8 bz (i+1) z)[k]? = some n->(z.filter λc=>decide (c∈bz))[k]? = (q::z)[n - i]?/\i<=n:=λk h=>by
   obtain⟨h1,h2⟩:=Rl bz z (i+1) k n h;refine⟨?_,by lia⟩
   rw[h1,show n - i=(n - (i+1))+1 by lia,List.getElem?_cons_succ]
  rw[d8] at h;rw[List.filter_cons];by_cases hq:q∈bz
  ·rw[if_pos hq] at h;rw[if_pos (decide_eq_true hq)];cases k with
   | zero =>
    rw[List.getElem?_cons_zero] at h;cases h;exact⟨by simp,Nat.le_refl _⟩
   | succ k =>
    rw[List.getElem?_cons_succ] at h ⊢;exact tl k h
  ·rw[if_neg hq] at h;rw[if_neg (by simpa using hq)]
   exact tl k h
theorem adz{rc:List Int}{s:Int}{z bz:List (Int×Int)}{ms:List (Nat×(Int×Int)×(Int×Int))}(h:jP rc s z bz (d8 bz 0 z) ms){k:Nat}(hk:k<ms.length) :
  (z.filter λc=>decide (c∈bz))[k]? = some ms[k].2.1/\∃is,kW (i8 ms[k].2.1.1) rc.length is/\iF rc s (bz++(ms.take k).map λm=>m.2.2) is=some ms[k].2.2:=by
 obtain⟨a,b,is,c,d⟩:=h.at k ms[k] (List.getElem?_eq_getElem hk);obtain⟨e,_⟩:=Rl bz z 0 k _ a;exact⟨by rw[e,Nat.sub_zero];exact b,is,c,d⟩
noncomputable def zU:List Addr->List (Int×Int)->Us:=λts z=>(ts.zip z).map λp=>(p.1,[p.2.1,p.2.2])
section
variable{K:PySem.W.Frag}{tl:TE}{g:TG}{tt:TT}{te:TE}{nt:Nat}{fv:List Nat}{Q:VK}{σ:St}{H:Hp}
theorem Zn.push{l t:Addr}{ts:List Addr}{z:List (Int×Int)}{c:Int×Int}(h:Zn H l ts z)(ht:H t=some (.tup [.int c.1,.int c.2])):Zn (upd H l (.lst (ts.map V.ref++[V.ref t]))) l (ts++[t]) (z++[c]):=by
 have ne:∀ {a:Addr} {xs:List V},H a=some (.tup xs)->a≠l:=λe q=>by rw[q,h.l] at e;cases e
 refine⟨by rw[aD,List.map_append];rfl,by simp[h.n],λi t' p e1 e2=>?_⟩
 by_cases hi:i<ts.length
 ·rw[List.getElem?_append_left hi] at e1;rw[List.getElem?_append_left (by rw[← h.n];exact hi)] at e2
  have:=h.t i t' p e1 e2;rw[aI (ne this)];exact this
 ·rw[List.getElem?_append_right (by lia)] at e1
  rw[List.getElem?_append_right (by rw[← h.n];lia),← h.n] at e2
  have hj:i - ts.length=0:=by
   have:=(List.getElem?_eq_some_iff.mp e1).1;simp at this;lia
  rw[hj] at e1 e2;cases e1;cases e2;rw[aI (ne ht)];exact ht
end
theorem Rm{s:Int}(hs:0<=s):∀(rc:List Int) (r:Nat),(∀c∈rc,c<=60)->(dY s r rc).length<=rc.length*60
 | [],_,_=>Nat.zero_le _
 | c::rc,r,h=>by
  have ih:=Rm hs rc (r+1) λx hx=>h x (List.mem_cons_of_mem _ hx);have:=h c List.mem_cons_self;rw[dY,List.length_append,List.length_map,List.length_range,List.length_cons];lia
section
variable{X:Cx}
theorem Ht:fS X (.type "int") (λxs H Q=>∃b,xs = [.bl b]/\Q (.int (if b then 1 else 0)) H):=by
 intro pins s σ H xs us Q I r h;obtain⟨b,rfl,q⟩:=h;obtain⟨u,rfl,ru⟩:=vals1 r;cases (show u=Value.bool b from ru);exact call_int_bool ⟨.int _,H,I.tok _,⟨_,rfl⟩,q⟩
theorem adA{pins:List (Addr×Obj)}{σ:St}{H:Hp}{s:Shared}{h':Heap}{tk:Nat}{m:Str->Option Value}(I:Inv X pins σ H s)(F:Fr X.base X.env.locals s.heap m)(F':Fr X.base X.env.locals h' m)(N':News X.base X.env.locals h' (uG X.base s.heap X.env.locals)):Inv X pins σ H { s with heap:=h',toks:=tk }:=by
 have kk:∀b o,b≠X.env.locals->s.heap.get? b=some o->h'.get? b=some o:=λb o hb e=>by
  cases q:X.base.get? b with
  | some z =>
   have:=F.keep b z q;rw[e] at this;cases this;exact F'.keep b _ q
  | none=>exact(N' (b,o) (Fg hb q e)).1
 have nl:∀b v,H b=some v->b≠X.env.locals:=λb v e z=>by rw[z,I.free] at e;cases e
 refine I.step (g':=s.gens) (d':=s.drawn) (ch:=[]) (λ_ z=>nomatch z) (λb o hb _ _ e _=>kk b o hb e) (λb o hb _ _ e _=>⟨o.slots,kk b o hb e⟩) (λ_ _ _ _ n=>n) (λb o _ e=>?_) (λ_ _ e=>e) (λ_ _ _ e=>e)
  (λb ps e=>⟨#[],by rw[e];simp⟩) (λm' hm=>?_) (λb v e=>(I.aM b v e).kh (λc o hc e'=>kk c o ?_ e') (λ_ e=>e) (λ_ _ e=>e)) I.bare
 ·by_cases hb:b=X.env.locals
  ·obtain⟨o',_,_,z,_⟩:=F'.ns;exact⟨o',by rw[hb];exact z⟩
  ·exact⟨o,kk b o hb e⟩
 ·have:m' = m:=by
   obtain⟨o1,Gx,Gy,g1,d1,k1,z1⟩:=hm;obtain⟨o2,Gz,GA,g2,d2,k2,z2⟩:=F.ns;rw[g1] at g2;cases g2;rw[d1] at d2;cases d2
   funext x
   rw[← z1 x,← z2 x]
  rw[this];exact F'.ns
 ·rcases hc with z | z
  ·rw[z];exact nl b v e
  ·exact nl c _ z
theorem adB(hc:X.calm=true):fS X (.builtin "max") (λxs H Q=>∃(p:Addr) (ns:List Int),xs = [.ref p]/\aA X.K H p (ns.map V.int)/\0<ns.length/\∀M,M∈ns->(∀a,a∈ns->a<=M)->Q (.int M) H):=by
 intro pins s σ H xs us Q I r h;obtain⟨p,ns,rfl,hq,h0,q⟩:=h;obtain⟨u,rfl,ru⟩:=vals1 r;cases ru;obtain⟨aC,rv,pl,hz⟩:=I.list hq;obtain⟨m,F⟩:=I.fr;refine max_list_N (I.ok.hd hc) F (y9 (h:=s.heap)) pl.isList (intsAre_of rv) h0 λh' M t tk F' N' h1 h2=>?_;exact⟨.int M,H,adA I F F' N',⟨t,rfl⟩,q M h1 h2⟩
end
theorem Rn{α:Type}:∀r:List α,(List.range r.length).filterMap (λk=>r[k]?)=r
 | []=>rfl
 | x::r=>by
  rw[List.length_cons,List.range_succ_eq_map,List.filterMap_cons]
  show x::_=_;rw[List.filterMap_map];exact congrArg (x :: ·) (Rn r)
theorem Ro{α β:Type}{f g:α->Option β}:∀ {l:List α},(∀x∈l,f x=g x)->l.filterMap f=l.filterMap g
 | [],_=>rfl
 | x::l,h=>by
  rw[List.filterMap_cons,List.filterMap_cons,h x List.mem_cons_self,Ro λy hy=>h y (List.mem_cons_of_mem _ hy)]
theorem adC(aC:List Value):slicePick aC.toArray none none (some (-1))=aC.reverse.toArray:=by
 have e:sliceBounds none none (some (-1)) aC.toArray.size=((aC.length:Int) - 1,-1,-1):=by simp[sliceBounds]
 have e2:sliceRange ((aC.length:Int) - 1) (-1) (-1)=(List.range aC.length).map λk=>aC.length - 1 - k:=by
  unfold sliceRange;have c:(if (aC.length:Int) - 1 > -1 then((aC.length:Int) - 1 - -1 - -1 - 1) / (- -1) else 0).toNat=aC.length:=by
   rw[show (- -1:Int)=1 by decide,Int.ediv_one]
   split <;> lia
  simp only[show ¬ ((-1:Int) > 0) by decide,if_false]
  rw[c];refine List.map_congr_left λk hk=>?_;have:=List.mem_range.mp hk;lia
 unfold slicePick;rw[e]
 show (List.filterMap _ (sliceRange ((aC.length:Int) - 1) (-1) (-1))).toArray=_;rw[e2,List.filterMap_map];have e3:=Rn aC.reverse;rw[List.length_reverse] at e3;refine congrArg List.toArray (Eq.trans ?_ e3);refine Ro λk hk=>?_;have:=List.mem_range.mp hk;rw[List.getElem?_reverse this];simp
section
variable{X:Cx}{e st:Expr}{te ts:TE}{pos p2:Pos}
noncomputable def wW(K:PySem.W.Frag)(te ts:TE):TE:=λσ H Q=>te σ H λx H1=>ts σ H1 λk H2=>∃a xs,x = .ref a/\k = .int (-1)/\aA K H2 a xs/\∀p,H2 p=none->Q (.ref p) (upd H2 p (.lst xs.reverse))
theorem adD(he:PE X e te)(hs:PE X st ts):PE X (.Subscript e (.Slice none none (some st) p2) pos) (wW X.K te ts):=by
 intro pins s σ H Q I h;refine Subscript_ (aU (he pins s σ H _ I h) λv s1 ⟨x,H1,I1,r1,q1⟩=>?_);refine wpAny_Slice ?_;rw[evalPart_none];refine wpAny_pure (wpAny_pure ?_);rw[evalPart_some];refine aU (hs pins s1 σ H1 _ I1 q1) λvk s3 ⟨k,H3,I3,r3,zz⟩=>?_;obtain⟨a,xs,ex,ek,hx,q⟩:=zz;subst ex ek;cases r1;obtain⟨t,rfl⟩:=r3;have I4:Inv X pins σ H3 { s3 with heap:=s3.heap.push { cls:=.type "slice",data:=.fields #[.none,.none,.int (-1) t] }}:=I3.kept (t':=s3.toks) λb ob q=>Heap.get?_push_of_some _ q;obtain⟨aC,r,ht,hz⟩:=I4.list hx;have hlen:=r.length
 show wpAny (model X.prog X.w) X.A (subscriptTail e (.Slice none none (some st) p2) (.ref a) (.ref s3.heap.objs.size)) (EP X pins σ Q) X.xe { s3 with heap:=s3.heap.push { cls:=.type "slice",data:=.fields #[.none,.none,.int (-1) t] }};refine tail_any (ops:=[.ref a,.ref s3.heap.objs.size]) (ht.isList.typeIs) (slot_list_getitem.lookup) ?_ (by with_unfolding_all rfl)
 refine wpAny_getItem_list_slice ht.isList (Heap.IsSliceOf.new ..) .none .none (.int _ _) (by simp) ?_ (by rw[List.size_toArray] <;> lia)
 rw[adC];refine⟨.ref _,_,I4.laid (t':=s3.toks) (o:=.lst xs.reverse) (λb ob q=>Heap.get?_push_of_some _ q) (Nat.le_refl _) ?_,rfl,q _ (I4.aM.fresh (Nat.le_refl _))⟩;exact⟨by rw[List.length_reverse];exact hz,_,0,r.reverse,Heap.get?_push_size _ rfl⟩
end
structure nG(xs:List Int)(n:Nat):Prop where
 n:xs.length=n
 b:∀x∈xs,0<=x/\x<2147483647
theorem nG.at{xs:List Int}{n:Nat}(h:nG xs n)(i:Nat):0<=xs.getD i 0/\xs.getD i 0<2147483647:=by
 by_cases hi:i<xs.length
 ·rw[show xs.getD i 0=xs[i] by simp[hi]];exact h.b _ (List.getElem_mem hi)
 ·rw[show xs.getD i 0=0 by simp;rw[List.getElem?_eq_none (by lia)];rfl];lia
theorem nG.md{xs:List Int}{n:Nat}(h:nG xs n)(i:Nat){k:Int}(hk:0<k):0<=xs.getD i 0 % k/\xs.getD i 0 % k<k:=⟨Int.emod_nonneg _ (by lia),Int.emod_lt_of_pos _ hk⟩
noncomputable def adE:Sp:=λvs H Q _=>∃(c m:Int),vs = [.int c,.int m]/\0<=m/\m<=100/\∀(l:Addr) (ns:List Int) (H':Hp),aj H H'->H l=none->H' l=some (.lst (ns.map V.int))->nG ns m.toNat->Q (.ref l) H'
noncomputable def sumF(f:Nat->Int):Nat->Int
 | 0=>0
 | i+1=>sumF f i+f i
theorem Rp{f:Nat->Int}(hd:∀i,f (i+1)<=f i)(a:Nat):∀b,f (a+b)<=f b
 | b=>by
  induction a with
  | zero=>rw[Nat.zero_add];exact Int.le_refl _
  | succ a ih=>rw[show a+1+b=a+b+1 by lia];exact Int.le_trans (hd _) ih
theorem Rq{f:Nat->Int}(hd:∀i,f (i+1)<=f i)(a:Nat):∀b,sumF f (a+b)<=sumF f a+sumF f b
 | 0=>by simp[sumF]
 | b+1=>by
  have ih:=Rq hd a b;have:=Rp hd a b;rw[← Nat.add_assoc,sumF,sumF];lia
theorem Rr{f:Nat->Int}(h1:1<=f 0)(hd:∀i,0<=f i/\f (i+1)<=f i):∀i:Nat,(1<=i->1<=sumF f i)/\0<=sumF f i/\sumF f i<=f 0*(i:Int)
 | 0=>by simp[sumF]
 | i+1=>by
  have ih:=Rr h1 hd i;have h2:=(hd i).1;have h3:f i<=f 0:=Rp (λi=>(hd i).2) i 0;have e:f 0*((i+1:Nat):Int)=f 0*(i:Int)+f 0:=by
   rw[show ((i+1:Nat):Int)=(i:Int)+1 by lia,Int.mul_add,Int.mul_one]
  refine⟨λ_=>?_,?_,?_⟩
  ·rw[sumF];by_cases hi:i=0
   ·subst hi;simp only[sumF];lia
   ·have:=ih.1 (by lia);lia
  ·rw[sumF];lia
  ·rw[sumF,e];lia
theorem Rt{f:Nat->Int}(h1:1<=f 0)(h7:f 0<=10000000)(hd:∀i,0<=f i/\f (i+1)<=f i){n:Nat}(h2:2<=n)(akg:n<=100):SwOk ((List.range n).map (sumF f)) (n:Int):=by
 refine⟨by simp,by lia,by rw[range_getD (by lia)];rfl,λi Ru hi=>?_,λi Ru hi=>?_,λa b ha hb z_=>?_⟩
 ·rw[List.length_map,List.length_range] at hi;rw[range_getD hi];have:=Rr h1 hd i;have e:f 0*(i:Int)<=10000000*(i:Int):=Int.mul_le_mul_of_nonneg_right h7 (by lia)
  have:=this.1 Ru;lia
 ·rw[List.length_map,List.length_range] at hi;rw[range_getD hi,range_getD (by lia)]
  obtain⟨j,rfl⟩:∃j,i=j+1:=⟨i - 1,by lia⟩
  have:=(hd j).1;rw[sumF];show sumF f j<=_;lia
 ·rw[List.length_map,List.length_range] at z_;rw[range_getD z_,range_getD (by lia),range_getD (by lia)]
  exact Rq (λi=>(hd i).2) a b
noncomputable def fJ(xs:List Int)(s0:Int):Nat->Int
 | 0=>s0
 | i+1=>fJ xs s0 i - xs.getD (12+(1+(i:Int)) % 10).toNat 0 % (fJ xs s0 i+1)
theorem AI(xs:List Int){s0:Int}(h:1<=s0):∀i,0<=fJ xs s0 i/\fJ xs s0 (i+1)<=fJ xs s0 i:=by
 have h0:∀i,0<=fJ xs s0 i:=λi=>by
  induction i with
  | zero=>simp only[fJ];lia
  | succ i ih =>
   rw[fJ];have:=Int.emod_lt_of_pos (xs.getD (12+(1+(i:Int)) % 10).toNat 0) (show 0<fJ xs s0 i+1 by lia)
   lia
 intro i;refine⟨h0 i,?_⟩;have:=h0 i;rw[fJ];have:=Int.emod_nonneg (xs.getD (12+(1+(i:Int)) % 10).toNat 0) (show fJ xs s0 i+1≠0 by lia)
 lia
noncomputable def adF(K:PySem.W.Frag):Sp:=λvs H Q _=>∃(xa:Addr) (xs:List Int) (m:Int),vs = [.ref xa,.int m]/\H xa=some (.lst (xs.map V.int))/\nG xs 24/\2<=m/\m<=60/\
 ∀l sw H',aj H H'->H l=none->H' l=some (.lst (sw.map V.int))->SwOk sw m->Q (.ref l) H'
structure gI(H:Hp)(t:Addr)(z:List (Int×Int))(ao sk:Int)(sw:List Int)(za:Addr)(bq:List Addr)(ca sa:Addr):Prop where
 o:H t=some (.tup [.ref za,.ref ca,.int ao,.int sk,.ref sa])
 zn:Zn H za bq z
 c:H ca=some (.lst ((counts z).map V.int))
 s:H sa=some (.lst (sw.map V.int))
structure gJ(z:List (Int×Int))(ao sk:Int)(sw:List Int):Prop where
 zl:ZL z
 l1:1<=ao
 l2:ao<=1000000000
 l3:∀p∈z,ao % p.2=0
 k0:0<=sk
 k1:sk<ao
 so:SwOk sw (z.map (·.1)).sum
theorem gI.same{H H':Hp}{t:Addr}{z:List (Int×Int)}{ao sk:Int}{sw:List Int}{za:Addr}{bq:List Addr}{ca sa:Addr}(h:gI H t z ao sk sw za bq ca sa)(s:aj H H'):gI H' t z ao sk sw za bq ca sa :=
 ⟨s _ _ h.o,h.zn.same s,s _ _ h.c,s _ _ h.s⟩
noncomputable def adG(K:PySem.W.Frag):Sp:=λvs H Q _=>∃(c m:Int),vs = [.int c,.int m]/\∀t z ao sk sw za bq ca sa H',aj H H'->H t=none->gI H' t z ao sk sw za bq ca sa->gJ z ao sk sw->Q (.ref t) H'
noncomputable def bC(z:List (Int×Int))(ao sk:Int)(sw:List Int)(nc:List (Int×Int)):Pl:=⟨counts z,ao,sk,sw,nc⟩
theorem gJ.pl{z:List (Int×Int)}{ao sk:Int}{sw:List Int}(h:gJ z ao sk sw)(nc:List (Int×Int)):dZ (bC z ao sk sw nc):=ab5 h.zl h.l1 h.so
theorem adH(P:Pl)(r c b:Int):b+(c*(P.ao / P.rc.getD r.toNat 0)+r*P.bY - b) % P.ao=iD P r c b:=by
 unfold iD lX;rw[Int.sub_emod ((c*(P.ao / P.rc.getD r.toNat 0)+r*P.bY) % P.ao),Int.emod_emod_of_dvd _ (Int.dvd_refl _),← Int.sub_emod]
noncomputable def adI(K:PySem.W.Frag):Sp:=λvs H Q _=>∃(t:Addr) (z:List (Int×Int)) (ao sk:Int) (sw:List Int) (za:Addr) (bq:List Addr) (ca sa:Addr) (r b:Int) (cl:Addr) (bu:List Addr) (cz:List (Int×Int)),vs = [.ref t,.int r,.int b,.ref cl]/\
 gI H t z ao sk sw za bq ca sa/\gJ z ao sk sw/\0<=r/\r<(counts z).length/\Zn H cl bu cz/\gg (bC z ao sk sw []) cz/\cz.length<=1000/\
 ∀l ts H',aj H H'->H l=none->(∀t∈ts,H t=none)->Zt H' l ts (dh (bC z ao sk sw []) (r,b) cz)->Q (.ref l) H'
noncomputable def adJ(K:PySem.W.Frag):Sp:=λvs H Q _=>∃(t:Addr) (z:List (Int×Int)) (ao sk:Int) (sw:List Int) (za:Addr) (bq:List Addr) (ca sa:Addr) (r b:Int) (cl:Addr) (bu:List Addr) (cz:List (Int×Int)),vs = [.ref t,.int r,.int b,.ref cl]/\
 gI H t z ao sk sw za bq ca sa/\gJ z ao sk sw/\0<=r/\r<(counts z).length/\Zn H cl bu cz/\gg (bC z ao sk sw []) cz/\cz.length<=1000/\
 ∀u H',aj H H'->H u=none->H' u=some (.tup [.int (aW (bC z ao sk sw []) (r,b) cz).1,.int (aW (bC z ao sk sw []) (r,b) cz).2])->Q (.ref u) H'
theorem Rv(P:Pl):∀(xs:List (Int×Int)) (s:Int×Int) {i:Nat},i<xs.length->∃x y,(dh P s xs).getD i [] = [(aW P s (xs.take (i+1))).1,x,y,(aW P s (xs.take (i+1))).2]
 | [],_,i,h=>by simp at h
 | q::xs,s,0,_=>⟨q.2,oV P s q,by simp[dh,nj,aW,cT]⟩
 | q::xs,s,i+1,h=>by
  obtain⟨x,y,e⟩:=Rv P xs (cT P s q) (i:=i) (by simpa using h)
  refine⟨x,y,?_⟩;rw[dh,List.getD_cons_succ,e,List.take_succ_cons,aW]
structure ZP(z:List (Int×Int)):Prop where
 r:∀p∈z,1<=p.1/\p.1<=3/\1<=p.2/\p.2<=8
 s2:2<=(z.map (·.1)).sum
theorem Rw:∀ {z:List (Int×Int)},(∀p∈z,1<=p.1/\p.1<=3)->0<=(z.map (·.1)).sum/\(z.map (·.1)).sum<=3*(z.length:Int)
 | [],_=>by simp
 | p::z,h=>by
  have ih:=Rw λq hq=>h q (List.mem_cons_of_mem _ hq);have:=h p List.mem_cons_self;rw[List.map_cons,List.sum_cons,List.length_cons];lia
theorem ZP.snoc{z:List (Int×Int)}(h:ZP z){p:Int×Int}(hp:1<=p.1/\p.1<=3/\1<=p.2/\p.2<=8):ZP (z++[p]):=by
 refine⟨λq hq=>?_,?_⟩
 ·rcases List.mem_append.mp hq with hq | hq
  ·exact h.r q hq
  ·rw[List.mem_singleton.mp hq];exact hp
 ·have:=h.s2;rw[List.map_append,List.sum_append];simp;lia
theorem ZP.zl{z:List (Int×Int)}(h:ZP z)(h1:1<=z.length)(h3:z.length<=3):ZL z:=by
 have s:=Rw λp hp=>⟨(h.r p hp).1,(h.r p hp).2.1⟩;have s2:=h.s2;refine⟨⟨h1,by lia,λp hp=>?_,s2,by lia⟩,?_,by lia⟩
 ·have:=h.r p hp;lia
 ·have b:=(Aa (m:=8) (by decide) z λp hp=>(h.r p hp).2.2).2
  have:=Qg (m:=8) (by decide) (show z.length<=5 by lia)
  have e:(8:Int) ^ 5=32768:=by decide
  lia
theorem adK{z:List (Int×Int)}{i:Nat}{p:Int×Int}(h:z[i]? = some p):counts (z.take (i+1))=counts (z.take i)++List.replicate p.1.toNat p.2:=by
 rw[take_succ_get h];simp[counts]
theorem Rx{z:List (Int×Int)}(zl:ZL z){x:Int}(h0:0<=x)(h1:x<900\/x<1000000000 / dN z):1<=dN z*(1+x)/\dN z*(1+x)<=1000000000/\∀p∈z,dN z*(1+x) % p.2=0:=by
 have hb:=Aa (m:=60) (by decide) z λp hp=>(zl.ok.r p hp).2.2
 have hp:=zl.pr;have hm:∃m,1+x<=m/\dN z*m<=1000000000:=by
  rcases h1 with h1 | h1
  ·exact⟨900,by lia,by lia⟩
  ·exact⟨1000000000 / dN z,by lia,Int.mul_ediv_self_le (by lia)⟩
 obtain⟨m,m1,m2⟩:=hm;refine⟨?_,?_,λp hp=>Int.emod_eq_zero_of_dvd (Int.dvd_trans (Qf hp) (Int.dvd_mul_right _ _))⟩
 ·have:=Int.mul_le_mul hb.1 (show 1<=1+x by lia) (by decide) (by lia);lia
 ·have:=Int.mul_le_mul (Int.le_refl (dN z)) m1 (by lia) (by lia);lia
theorem Zn.one{H:Hp}{l t:Addr}{c:Int×Int}(h:H t=some (.tup [.int c.1,.int c.2]))(nl:H l=none):Zn (upd H l (.lst [.ref t])) l [t] [c]:=by
 refine⟨aD,rfl,λi t' p e1 e2=>?_⟩;cases i with
 | zero =>
  simp at e1 e2;subst e1 e2;rw[aI (bO h nl)];exact h
 | succ i=>simp at e1
theorem Ry(v:Int):∀k:Nat,(List.replicate k [V.int v]).flatten=(List.replicate k v).map V.int
 | 0=>rfl
 | k+1=>by rw[List.replicate_succ,List.flatten_cons,Ry v k,List.replicate_succ,List.map_cons];rfl
structure qG(rc:List Int)(nc:List (Int×Int)):Prop where
 n2:2<=nc.length
 n1:nc.length<=1000
 c:∀q∈nc,0<=q.1/\q.1<rc.length/\0<=q.2/\q.2<rc.getD q.1.toNat 0
theorem Rz{c:Int×Int}:∀(ms:List (Nat×(Int×Int)×(Int×Int))) (nc:List (Int×Int)),c∈mj nc ms->c∈nc\/∃m∈ms,c=m.2.2
 | [],nc,h=>.inl h
 | m::ms,nc,h=>by
  have h:c∈mj (nc.set m.1 m.2.2) ms:=h;rcases Rz ms _ h with h | ⟨m',hm,e⟩
  ·rcases List.mem_or_eq_of_mem_set h with h | h
   ·exact .inl h
   ·exact .inr ⟨m,List.mem_cons_self,h⟩
  ·exact .inr ⟨m',List.mem_cons_of_mem _ hm,e⟩
theorem RA{rc:List Int}{s:Int}{bz:List (Int×Int)}{ms:List (Nat×(Int×Int)×(Int×Int))}(h2:2<=rc.length)(RB:rc.length<=15)(tw:∀c∈rc,s<c/\c<=60)(hs:0<=s)(L:jP rc s (e8 rc s) bz (d8 bz 0 (e8 rc s)) ms):qG rc (mj (e8 rc s) ms):=by
 have gd:∀i:Nat,i<rc.length->rc.getD i 0∈rc:=λi hi=>by rw[show rc.getD i 0=rc[i] by simp[hi]];exact List.getElem_mem hi
 have ge:∀(rc:List Int) (r:Nat),(∀c∈rc,s<c)->rc.length<=(dY s r rc).length:=by
  intro rc
  induction rc with
  | nil=>intro r _;exact Nat.zero_le _
  | cons c rc ih =>
   intro r h;have:=ih (r+1) λx hx=>h x (List.mem_cons_of_mem _ hx);have:=h c List.mem_cons_self;rw[dY,List.length_append,List.length_map,List.length_range,List.length_cons];lia
 have lo:=ge rc 0 λc hc=>(tw c hc).1;have hi:=Rm hs rc 0 λc hc=>(tw c hc).2;refine⟨by rw[AD];exact Nat.le_trans h2 lo,by rw[AD];exact Nat.le_trans hi (by lia),λq hq=>?_⟩
 rcases Rz ms _ hq with hq | ⟨m,hm,rfl⟩
 ·obtain⟨j,j1,j2,j3,j4⟩:=Hr rc 0 q hq;rw[show q.1.toNat=j by lia]
  lia
 ·obtain⟨k,hk,rfl⟩:=List.mem_iff_getElem.mp hm;obtain⟨_,is,ord,ff⟩:=adz L hk;unfold iF at ff;obtain⟨_,as,bs,e,_⟩:=List.find?_eq_some_iff_append.mp ff;have wR:ms[k].2.2∈is.flatMap (iE rc s):=by rw[e];simp
  obtain⟨o,ho,o1,o2,o3⟩:=Hs wR;have ol:=List.mem_range.mp (ord.1.mem_iff.mp ho);have:=tw _ (gd o ol);rw[show ms[k].2.2.1.toNat=o by lia]
  lia
theorem adL{rc:List Int}(h2:2<=rc.length)(RB:rc.length<=15)(tw:∀c∈rc,0<c/\c<=60):qG rc (e8 rc 0):=by
 have:=RA (s:=0) (bz:=[]) (ms:=[]) h2 RB tw (Int.le_refl _) (by
  have e:∀(z:List (Int×Int)) (i:Nat),d8 [] i z = []:=by
   intro z
   induction z with
   | nil=>intro i;rfl
   | cons q z ih=>intro i;simp[d8,ih]
  rw[e];exact .nil)
 exact this
noncomputable def adM(K:PySem.W.Frag)(cs:List Addr)(P:Addr)(pos:Pos)(qual:Str):Sp:=λvs H Q _=>∃(t:Addr) (z:List (Int×Int)) (ao sk:Int) (sw:List Int) (za:Addr) (bq:List Addr) (ca sa:Addr) (c:Int),vs = [.ref t,.int c]/\
 gI H t z ao sk sw za bq ca sa/\gJ z ao sk sw/\cH P pos qual H/\
 ∀C p nc fp H',(∀b o,H b=some o->b≠P->H' b=some o)->C∈cs->cF K C H' p (bC z ao sk sw nc) fp->qG (counts z) nc->Q (.ref p) H'
theorem gI.but{H H':Hp}{P:Addr}{pos:Pos}{qual:Str}{t:Addr}{z:List (Int×Int)}{ao sk:Int}{sw:List Int}{za:Addr}{bq:List Addr}{ca sa:Addr}(h:gI H t z ao sk sw za bq ca sa)(T:cH P pos qual H)(k:∀b o,H b=some o->b≠P->H' b=some o):gI H' t z ao sk sw za bq ca sa:=by
 have g:∀ {a:Addr} {o:HO},H a=some o->(∀ps,o≠.eO ps)->H' a=some o:=λe n=>k _ _ e (T.ne e n);exact⟨g h.o (λ_ z=>nomatch z),⟨g h.zn.l (λ_ z=>nomatch z),h.zn.n,λi t p e1 e2=>g (h.zn.t i t p e1 e2) (λ_ z=>nomatch z)⟩,g h.c (λ_ z=>nomatch z),g h.s (λ_ z=>nomatch z)⟩
noncomputable def eW(nc:List (Int×Int))(f m:Int):List (Int×Int):=(nc.drop f.toNat).take m.toNat
theorem RC{nc:List (Int×Int)}{f m:Int}{c:Int×Int}(h:c∈eW nc f m):c∈nc:=List.mem_of_mem_drop (List.mem_of_mem_take h)
theorem RD{nc:List (Int×Int)}{f m:Int}(h0:0<=f)(h1:0<=m)(h:f+m<=nc.length):(eW nc f m).length=m.toNat:=by
 unfold eW;rw[List.length_take,List.length_drop];lia
theorem Hu{nc:List (Int×Int)}{f:Int}{i:Nat}{c:Int×Int}(h0:0<=f)(h:nc[(f+(i:Int)).toNat]? = some c):(nc.drop f.toNat).take (i+1)=(nc.drop f.toNat).take i++[c]:=by
 refine take_succ_get ?_;rw[List.getElem?_drop,show f.toNat+i=(f+(i:Int)).toNat by lia];exact h
noncomputable def adN(K:PySem.W.Frag)(cs:List Addr)(CA:Addr):Sp:=λvs H Q _=>∃(C p ap:Addr) (P:Pl) (fp:List Addr) (q:Ak) (m b dx:Addr),vs = [.ref p,.ref ap]/\C∈cs/\cF K C H p P fp/\iY K CA H ap q m b dx/\G0 P.nc.length q/\P.nc.length<=1000000/\
 ∀l ts H',aj H H'->H l=none->Zn H' l ts (eW P.nc q.first q.many)->Q (.ref l) H'
noncomputable def adO(K:PySem.W.Frag)(cs:List Addr)(CA:Addr):Sp:=λvs H Q _=>∃(C p ap:Addr) (k:Int) (P:Pl) (fp:List Addr) (q:Ak) (m b dx:Addr),vs = [.ref p,.int k,.ref ap]/\C∈cs/\cF K C H p P fp/\iY K CA H ap q m b dx/\G0 P.nc.length q/\P.nc.length<=1000000/\
 ∀l ts H',aj H H'->H l=none->Zn H' l ts (eW P.nc q.first q.many)->Q (.ref l) H'
structure Dr where
 n:Int
 q:Ak
 c:List (Int×Int)
noncomputable def nH(n:Int)(ap l:Addr):List (Str×V):=[("number",.int n),("ask",.ref ap),("cells",.ref l)]
structure iG(K:PySem.W.Frag)(CA CD:Addr)(H:Hp)(p:Addr)(d:Dr)(dx ap l:Addr)(ts:List Addr)(m b bU:Addr):Prop where
 o:H p=some (.ins CD dx (nH d.n ap l))
 a:iY K CA H ap d.q m b bU
 c:Zn H l ts d.c
theorem iG.same{K:PySem.W.Frag}{CA CD:Addr}{H H':Hp}{p:Addr}{d:Dr}{dx ap l:Addr}{ts:List Addr}{m b bU:Addr}(h:iG K CA CD H p d dx ap l ts m b bU)(s:aj H H'):iG K CA CD H' p d dx ap l ts m b bU:=⟨s _ _ h.o,h.a.same s,h.c.same s⟩
noncomputable def adP(K:PySem.W.Frag)(cs:List Addr)(CA CD:Addr):Sp:=λvs H Q _=>∃(C p pl ap dx:Addr) (n:Int) (P:Pl) (fp:List Addr) (q:Ak) (m b bU:Addr),vs = [.ref p,.ref pl,.int n,.ref ap]/\H p=some (.ins CD dx [])/\C∈cs/\cF K C H pl P fp/\p≠pl/\p∉fp/\iY K CA H ap q m b bU/\G0 P.nc.length q/\P.nc.length<=1000000/\
 ∀l ts H',H l=none->SameBut p H H'->iG K CA CD H' p ⟨n,q,eW P.nc q.first q.many⟩ dx ap l ts m b bU->Q .aP H'
structure Kn where
 n:Int
 f:Int
 m:Int
 w:Bool
 bh:List Int
 eV:Option Int
 c:List (Int×Int)
structure fX(H:Hp)(t:Addr)(k:Kn)(b cl:Addr)(bu:List Addr):Prop where
 o:H t=some (.tup [.int k.n,.int k.f,.int k.m,.bl k.w,.ref b,d7 k.eV,.ref cl])
 b:H b=some (.tup (k.bh.map V.int))
 c:Zn H cl bu k.c
theorem fX.same{H H':Hp}{t:Addr}{k:Kn}{b cl:Addr}{bu:List Addr}(h:fX H t k b cl bu)(s:aj H H'):fX H' t k b cl bu:=⟨s _ _ h.o,s _ _ h.b,h.c.same s⟩
structure d9(H:Hp)(l:Addr)(ts:List Addr)(ks:List Kn):Prop where
 l:H l=some (.lst (ts.map V.ref))
 n:ts.length=ks.length
 t:∀(i:Nat) (t:Addr) (k:Kn),ts[i]? = some t->ks[i]? = some k->∃b cl bu,fX H t k b cl bu
theorem d9.same{H H':Hp}{l:Addr}{ts:List Addr}{ks:List Kn}(h:d9 H l ts ks)(s:aj H H'):d9 H' l ts ks :=
 ⟨s _ _ h.l,h.n,λi t k e1 e2=>let ⟨b,cl,bu,a⟩:=h.t i t k e1 e2;⟨b,cl,bu,a.same s⟩⟩
theorem d9.at{H:Hp}{l:Addr}{ts:List Addr}{ks:List Kn}(h:d9 H l ts ks){i:Nat}(hi:i<ks.length):∃t b cl bu,(ts.map V.ref)[i]? = some (.ref t)/\fX H t ks[i] b cl bu:=by
 have ht:i<ts.length:=by rw[h.n];exact hi
 obtain⟨b,cl,bu,a⟩:=h.t i ts[i] ks[i] (List.getElem?_eq_getElem ht) (List.getElem?_eq_getElem hi);exact⟨ts[i],b,cl,bu,by simp[ht],a⟩
theorem d9.sq{K:PySem.W.Frag}{H:Hp}{l:Addr}{ts:List Addr}{ks:List Kn}(h:d9 H l ts ks):aA K H l (ts.map V.ref):=aA.of h.l
theorem fX.eG{H:Hp}{l t:Addr}{xs ys:List V}{k:Kn}{b cl:Addr}{bu:List Addr}(hl:H l=some (.lst xs))(hc:cl≠l)(h:fX H t k b cl bu):fX (upd H l (.lst ys)) t k b cl bu:=by
 have ne:∀ {a:Addr} {us:List V},H a=some (.tup us)->a≠l:=λe z=>by rw[z,hl] at e;cases e
 refine⟨(aI (ne h.o)).trans h.o,(aI (ne h.b)).trans h.b,h.c.keep (aI hc) λt ht=>?_⟩;obtain⟨i,hi,et⟩:=List.mem_iff_getElem.mp ht;have cO:i<k.c.length:=by rw[← h.c.n];exact hi
 have:=h.c.t i t _ (by rw[← et];exact List.getElem?_eq_getElem hi) (List.getElem?_eq_getElem cO)
 exact aI (ne this)
structure jQ(H0 H:Hp)(l:Addr)(ts:List Addr)(ks:List Kn):Prop where
 hl:H l=some (.lst (ts.map V.ref))
 n:ts.length=ks.length
 nl:H0 l=none
 t:∀(i:Nat) (t:Addr) (k:Kn),ts[i]? = some t->ks[i]? = some k->∃b cl bu,cl≠l/\fX H t k b cl bu
theorem jQ.tD{H0 H:Hp}{l:Addr}{ts:List Addr}{ks:List Kn}(h:jQ H0 H l ts ks):d9 H l ts ks:=⟨h.hl,h.n,λi t k e1 e2=>let ⟨b,cl,bu,_,a⟩:=h.t i t k e1 e2;⟨b,cl,bu,a⟩⟩
theorem jQ.same{H0 H H':Hp}{l:Addr}{ts:List Addr}{ks:List Kn}(h:jQ H0 H l ts ks)(s:aj H H'):jQ H0 H' l ts ks :=
 ⟨s _ _ h.hl,h.n,h.nl,λi t k e1 e2=>let ⟨b,cl,bu,n,a⟩:=h.t i t k e1 e2;⟨b,cl,bu,n,a.same s⟩⟩
theorem jQ.snoc{H0 H:Hp}{l:Addr}{ts:List Addr}{ks:List Kn}(h:jQ H0 H l ts ks){t:Addr}{k:Kn}{b cl:Addr}{bu:List Addr}(hk:fX H t k b cl bu)(hc:cl≠l):jQ H0 (upd H l (.lst (ts.map V.ref++[.ref t]))) l (ts++[t]) (ks++[k]):=by
 refine⟨by rw[aD,List.map_append];rfl,by simp[h.n],h.nl,λi t' k' e1 e2=>?_⟩
 have hn:=h.n;by_cases hi:i<ts.length
 ·rw[List.getElem?_append_left hi] at e1;rw[List.getElem?_append_left (by lia)] at e2
  obtain⟨b',e_,wX,n',a'⟩:=h.t i t' k' e1 e2;exact⟨b',e_,wX,n',a'.eG h.hl n'⟩
 ·rw[List.getElem?_append_right (by lia)] at e1
  rw[List.getElem?_append_right (by lia)] at e2
  have cO:i - ts.length=0:=by
   have:=(List.getElem?_eq_some_iff.mp e1).1;simp at this;lia
  rw[cO] at e1;rw[← hn,cO] at e2;simp at e1 e2;subst e1 e2;exact⟨b,cl,bu,hc,hk.eG h.hl hc⟩
structure qH(nc:List (Int×Int))(k:Kn):Prop where
 f0:0<=k.f
 m0:1<=k.m
 m1:k.m<=16
 fit:k.f+k.m<=nc.length
 c:k.c=eW nc k.f k.m
 r:lY k.bh
 l:∀x,k.eV=some x->0<=x/\x<=10000000000000
structure qI(nc:List (Int×Int))(ks:List Kn):Prop where
 ok:∀k∈ks,qH nc k
 up:ks.Pairwise λa b=>a.n<b.n
 n7:ks.length<=7
noncomputable def RE(k:Kn)(q:Ak):Prop:=q.first=k.f/\q.many=k.m/\q.behind=k.bh/\q.kind=(if k.w then "write" else "read")/\q.Qz=k.eV
noncomputable def adQ(K:PySem.W.Frag)(C:Addr):Sp:=λvs H Q _=>∃(t:Addr) (k:Kn) (b cl:Addr) (bu:List Addr) (c:Int) (nc:List (Int×Int)),vs = [.ref t,.int c]/\fX H t k b cl bu/\qH nc k/\nc.length<=1000000/\
 ∀q p mk bb dx H',RE k q->aj H H'->H p=none->iY K C H' p q mk bb dx->Q (.ref p) H'
noncomputable def adR:Sp:=λvs H Q _=>∃n:Int,vs = [.int n]/\Q (.bl true) H
noncomputable def eL(P:Pl)(cz:List (Int×Int)):Int:=(cz.map λq=>P.ao / P.rc.getD q.1.toNat 0).sum
noncomputable def adS(K:PySem.W.Frag)(cs:List Addr)(CA CD:Addr):Sp:=λvs H Q _=>∃(C p dp:Addr) (P:Pl) (fp:List Addr) (d:Dr) (dx ap l:Addr) (ts:List Addr) (m b bU:Addr),vs = [.ref p,.ref dp]/\C∈cs/\cF K C H p P fp/\dZ P/\iG K CA CD H dp d dx ap l ts m b bU/\gg P d.c/\d.c.length<=1000/\∀H',aj H H'->Q (.int (eL P d.c)) H'
structure gh(K:PySem.W.Frag)(CA CD:Addr)(H:Hp)(l:Addr)(ps:List Addr)(ds:List Dr):Prop where
 l:H l=some (.lst (ps.map V.ref))
 n:ps.length=ds.length
 t:∀(i:Nat) (p:Addr) (d:Dr),ps[i]? = some p->ds[i]? = some d->∃dx ap l ts m b bU,iG K CA CD H p d dx ap l ts m b bU
theorem gh.same{K:PySem.W.Frag}{CA CD:Addr}{H H':Hp}{l:Addr}{ps:List Addr}{ds:List Dr}(h:gh K CA CD H l ps ds)(s:aj H H'):gh K CA CD H' l ps ds :=
 ⟨s _ _ h.l,h.n,λi p d e1 e2=>let ⟨dx,ap,l,ts,m,b,bU,a⟩:=h.t i p d e1 e2;⟨dx,ap,l,ts,m,b,bU,a.same s⟩⟩
noncomputable def pB(P:Pl)(r b:Int)(cs:List (List (Int×Int))):Int:=cs.foldl (λx c=>max x (aW P (r,b) c).2) (b+(cs.map (eL P)).sum)
noncomputable def adT(K:PySem.W.Frag)(cs:List Addr)(CA CD:Addr):Sp:=λvs H Q _=>∃(C p dl:Addr) (P:Pl) (fp:List Addr) (r b:Int) (ps:List Addr) (ds:List Dr),vs = [.ref p,.int r,.int b,.ref dl]/\C∈cs/\cF K C H p P fp/\dZ P/\0<=r/\r<P.rc.length/\gh K CA CD H dl ps ds/\ds.length<=100/\(∀d∈ds,gg P d.c/\d.c.length<=1000)/\
 ∀H',aj H H'->Q (.int (pB P r b (ds.map (·.c)))) H'
theorem adU{cs:List (List (Int×Int))}{f:List (Int×Int)->Int}:∀ {x M:Int},(M=x\/M∈cs.map f)->x<=M->(∀y∈cs.map f,y<=M)->cs.foldl (λx c=>max x (f c)) x=M:=by
 induction cs with
 | nil=>intro x M h _ _;rcases h with h | h;exact h.symm;cases h
 | cons c cs ih =>
  intro x M h h1 h2;rw[List.foldl_cons];have hc:=h2 (f c) (by simp)
  refine ih ?_ (by lia) λy hy=>h2 y (by simp only[List.map_cons,List.mem_cons];exact .inr hy)
  rcases h with h | h
  ·left;lia
  ·rw[List.map_cons,List.mem_cons] at h;rcases h with h | h
   ·left;lia
   ·exact .inr h
theorem RG{sw:List Int}{n:Int}(so:SwOk sw n)(i:Nat):0<=sw.getD i 0/\sw.getD i 0<=1000000000:=by
 by_cases hi:i<sw.length
 ·by_cases h0:i=0
  ·subst h0;rw[so.z];lia
  ·have:=so.pos i (by lia) hi;lia
 ·rw[show sw.getD i 0=0 by simp;rw[List.getElem?_eq_none (by lia)];rfl];lia
theorem RH{P:Pl}(ok:dZ P)(l2:P.ao<=1000000000)(s q:Int×Int)(q0:0<=q.1)(q1:q.1<P.rc.length):s.2+1<=(cT P s q).2/\(cT P s q).2<=s.2+3000000000\/P.ao / P.rc.getD q.1.toNat 0=0/\s.2<=(cT P s q).2/\(cT P s q).2<=s.2+3000000000:=by
 have l1:=ok.ao;have c:=ok.c q.1.toNat (by lia)
 have b:=Ac ok q.1 q.2 (s.2+P.sw.getD (s.1 - q.1).natAbs 0);have w:=RG ok.sw (s.1 - q.1).natAbs;have d0:0<=P.ao / P.rc.getD q.1.toNat 0:=Int.ediv_nonneg (by lia) (by lia)
 have d1:P.ao / P.rc.getD q.1.toNat 0<=P.ao:=Int.ediv_le_self _ (by lia)
 have e:(cT P s q).2=iD P q.1 q.2 (s.2+P.sw.getD (s.1 - q.1).natAbs 0)+P.ao / P.rc.getD q.1.toNat 0:=rfl;rw[e];by_cases z:P.ao / P.rc.getD q.1.toNat 0=0
 ·right;lia
 ·left;lia
theorem AJ{P:Pl}(ok:dZ P)(l2:P.ao<=1000000000):∀(cz:List (Int×Int)) (s:Int×Int),gg P cz->s.2<=(aW P s cz).2/\(aW P s cz).2<=s.2+3000000000*(cz.length:Int)
 | [],s,_=>by simp[aW]
 | q::cz,s,h=>by
  obtain⟨q0,q1,_⟩:=h q List.mem_cons_self;have ih:=AJ ok l2 cz (cT P s q) λx hx=>h x (List.mem_cons_of_mem _ hx);have b:=RH ok l2 s q q0 q1;rw[aW,List.length_cons];lia
noncomputable def Hv(ks gi:List Kn):Prop:=gi.length=ks.length/\∀(i:Nat) (k:Kn),ks[i]? = some k->∃x,0<=x/\x<=10000000000000/\gi[i]? = some { k with eV:=some x }
theorem Hv.ok{nc:List (Int×Int)}{ks gi:List Kn}(r:Hv ks gi)(h:qI nc ks):qI nc gi:=by
 have g:∀(i:Nat) (hi:i<gi.length),∃(hj:i<ks.length) (x:Int),0<=x/\x<=10000000000000/\gi[i] = { ks[i] with eV:=some x }:=λi hi=>by
  have hj:i<ks.length:=by rw[← r.1];exact hi
  obtain⟨x,x0,x1,e⟩:=r.2 i ks[i] (List.getElem?_eq_getElem hj);rw[List.getElem?_eq_getElem hi] at e;exact⟨hj,x,x0,x1,Option.some.inj e⟩
 refine⟨λk hk=>?_,?_,by rw[r.1];exact h.n7⟩
 ·obtain⟨i,hi,rfl⟩:=List.mem_iff_getElem.mp hk;obtain⟨hj,x,x0,x1,e⟩:=g i hi;have o:=h.ok ks[i] (List.getElem_mem hj);rw[e];exact⟨o.f0,o.m0,o.m1,o.fit,o.c,o.r,λy hy=>by cases hy;exact⟨x0,x1⟩⟩
 ·rw[List.pairwise_iff_getElem];intro i j hi hj oZ;obtain⟨iC,_,_,_,e1⟩:=g i hi;obtain⟨gY,_,_,_,e2⟩:=g j hj;rw[e1,e2];exact List.pairwise_iff_getElem.mp h.up i j iC gY oZ
noncomputable def adV(K:PySem.W.Frag):Sp:=λvs H Q _=>∃(t sp kl:Addr) (z:List (Int×Int)) (ao sk:Int) (sw:List Int) (za:Addr) (bq:List Addr) (ca sa:Addr) (r b:Int) (bN:List Addr) (ks:List Kn),vs = [.ref t,.ref sp,.ref kl]/\
 gI H t z ao sk sw za bq ca sa/\gJ z ao sk sw/\H sp=some (.tup [.int r,.int b])/\0<=r/\r<(counts z).length/\0<=b/\b<=2000000000000/\d9 H kl bN ks/\(∀k∈ks,gg (bC z ao sk sw []) k.c/\k.c.length<=16)/\ks.length<=10/\
 ∀l ts gi H',aj H H'->H l=none->d9 H' l ts gi->Hv ks gi->Q (.ref l) H'
theorem adW(a b c d e f g:V):cZ [a,b,c,d,e,f,g] none (some 5) = [a,b,c,d,e]:=rfl
theorem adX(a b c d e f g:V):cZ [a,b,c,d,e,f,g] (some 6) none = [g]:=rfl
theorem Hw(q:Int×Int):∀(z:List (Int×Int)) (i:Nat) (acc:List (List Key×V)),(q∉z->cM (gH i z acc) (kT q)=cM acc (kT q))/\(q∈z->∃j:Nat,z[j]? = some q/\cM (gH i z acc) (kT q)=some (.int ((i+j:Nat):Int)))
 | [],i,acc=>⟨λ_=>rfl,λh=>by cases h⟩
 | x::z,i,acc=>by
  obtain⟨h1,h2⟩:=Hw q z (i+1) (putK acc (kT x) (.int i));constructor
  ·intro h;rw[gH,h1 λw=>h (List.mem_cons_of_mem _ w),Gd,if_neg];intro e;exact h (GH e▸List.mem_cons_self)
  ·intro h;rw[gH];by_cases hz:q∈z
   ·obtain⟨j,e1,e2⟩:=h2 hz;exact⟨j+1,by simpa using e1,by rw[e2];congr 2;lia⟩
   ·have:q=x:=(List.mem_cons.mp h).resolve_right hz;subst this;exact⟨0,by simp,by rw[h1 hz,Gd,if_pos rfl];rfl⟩
theorem RI{z:List (Int×Int)}{q:Int×Int}(h:q∈z):∃j:Nat,z[j]? = some q/\cM (ng z) (kT q)=some (.int (j:Int)):=by
 obtain⟨j,e1,e2⟩:=(Hw q z 0 []).2 h;exact⟨j,e1,by rw[Nat.zero_add] at e2;exact e2⟩
theorem adY{z:List (Int×Int)}{q:Int×Int}(h:q∉z):cM (ng z) (kT q)=none:=(Hw q z 0 []).1 h
theorem adZ{nc:List (Int×Int)}{j:Nat}{q:Int×Int}(h:nc[j]? = some q):eW nc (j:Int) 1 = [q]:=by
 have:=Hu (nc:=nc) (f:=(j:Int)) (i:=0) (c:=q) (by lia) (by simpa using h)
 simpa[eW] using this
structure tE(rc:List Int)(nc:List (Int×Int))(r:Int)(xs:List Int):Prop where
 i:∀x∈xs,(r,x)∈nc/\0<=x/\x<rc.getD r.toNat 0
 n:xs.length<=100
theorem tE.sub{rc:List Int}{nc:List (Int×Int)}{r:Int}{xs ys:List Int}(h:tE rc nc r xs)(s:∀y∈ys,y∈xs)(n:ys.length<=xs.length):tE rc nc r ys:=⟨λy hy=>h.i y (s y hy),Nat.le_trans n h.n⟩
theorem ad0{ns:List Int}{k:Int}(h:0<=k):cZ (ns.map V.int) (some k) none=(ns.drop k.toNat).map V.int:=by
 unfold cZ;have e:_H.bJ (ns.map V.int).length 0 (some k)=min k.toNat ns.length:=by
  simp only[_H.bJ];rw[if_neg (by lia),List.length_map]
 have e2:_H.bJ (ns.map V.int).length (ns.map V.int).length none=ns.length:=by simp[_H.bJ]
 rw[e,e2,← List.map_drop,List.map_drop];rw[List.take_of_length_le (by simp)]
 by_cases hk:k.toNat<=ns.length
 ·rw[Nat.min_eq_left hk,List.map_drop]
 ·rw[Nat.min_eq_right (by lia),List.drop_of_length_le (by simp),List.drop_of_length_le (by lia)];rfl
noncomputable def ad1(K:PySem.W.Frag)(cs:List Addr):Sp:=λvs H Q _=>∃(C p t sp:Addr) (z:List (Int×Int)) (ao sk:Int) (sw:List Int) (za:Addr) (bq:List Addr) (ca sa:Addr) (nc:List (Int×Int)) (fp:List Addr) (r b c:Int),vs = [.ref p,.ref t,.ref sp,.int c]/\C∈cs/\cF K C H p (bC z ao sk sw nc) fp/\qG (counts z) nc/\
 gI H t z ao sk sw za bq ca sa/\gJ z ao sk sw/\H sp=some (.tup [.int r,.int b])/\0<=r/\r<(counts z).length/\∀l ts ks H',aj H H'->H l=none->d9 H' l ts ks->qI nc ks->Q (.ref l) H'
noncomputable def ad2(K:PySem.W.Frag)(cs:List Addr):Sp:=λvs H Q _=>∃(C sc p t sp:Addr) (z:List (Int×Int)) (ao sk:Int) (sw:List Int) (za:Addr) (bq:List Addr) (ca sa:Addr) (nc:List (Int×Int)) (fp:List Addr) (r b most:Int) (ns:List Int),vs = [.ref sc,.ref p,.ref t,.ref sp,.int most]/\aA K H sc (ns.map V.int)/\ns.length<=63/\C∈cs/\cF K C H p (bC z ao sk sw nc) fp/\qG (counts z) nc/\
 gI H t z ao sk sw za bq ca sa/\gJ z ao sk sw/\H sp=some (.tup [.int r,.int b])/\0<=r/\r<(counts z).length/\0<=b/\b<=1000000000000/\1<=most/\most<=7/\∀l ts ks H',aj H H'->H l=none->d9 H' l ts ks->qI nc ks->Q (.ref l) H'
theorem gJ.part{z:List (Int×Int)}{ao sk:Int}{sw:List Int}(h:gJ z ao sk sw){i:Nat}(hi:i<(counts z).length):1<=ao / (counts z).getD i 0:=by
 obtain⟨y,hy,e⟩:=oU (get_mem (wC (counts z) hi));have r:=h.zl.ok.r y hy;have d:=Int.emod_add_mul_ediv ao y.2;rw[h.l3 y hy,Int.zero_add] at d;have l1:=h.l1;rw[e];by_cases q:1<=ao / y.2
 ·exact q
 ·have:y.2*(ao / y.2)<=0:=Int.mul_nonpos_of_nonneg_of_nonpos (by lia) (by lia)
  lia
theorem ad3{z:List (Int×Int)}{ao sk:Int}{sw:List Int}(h:gJ z ao sk sw){cz:List (Int×Int)}(s:Int×Int)(hc:gg (bC z ao sk sw []) cz)(hn:cz≠[]):s.2+1<=(aW (bC z ao sk sw []) s cz).2:=by
 have pk:=h.pl [];have l2:(bC z ao sk sw []).ao<=1000000000:=h.l2;cases cz with
 | nil=>exact absurd rfl hn
 | cons q cz =>
  obtain⟨q0,q1,_⟩:=hc q List.mem_cons_self;have q1':q.1<((counts z).length:Int):=q1;have b:=RH pk l2 s q q0 q1;have p:=h.part (i:=q.1.toNat) (by lia)
  have e:=AJ pk l2 cz (cT (bC z ao sk sw []) s q) λx hx=>hc x (List.mem_cons_of_mem _ hx);rw[aW];rcases b with b | ⟨b,_⟩
  ·lia
  ·have b:ao / (counts z).getD q.1.toNat 0=0:=b;lia
theorem qH.cells{z:List (Int×Int)}{ao sk:Int}{sw:List Int}{nc:List (Int×Int)}{k:Kn}(h:qH nc k)(nk:qG (counts z) nc)(ok:gJ z ao sk sw):gg (bC z ao sk sw []) k.c/\k.c.length<=16:=by
 have m0:=h.m0;have m1:=h.m1;rw[h.c];refine⟨λq hq=>?_,by rw[RD h.f0 (by lia) h.fit];lia⟩
 have:=nk.c q (RC hq);refine⟨this.1,this.2.1,this.2.2.1,?_⟩;obtain⟨y,hy,e⟩:=oU (get_mem (wC (counts z) (show q.1.toNat<(counts z).length by lia)))
 have:=ok.zl.ok.r y hy;lia
noncomputable def AK(nc:List (Int×Int))(k:Kn)(d:Dr):Prop:=d.n=k.n/\RE k d.q/\d.c=eW nc k.f k.m
structure jR(K:PySem.W.Frag)(cs:List Addr)(CA CD:Addr)(H:Hp)(sa p:Addr)(r b:Int)(kl dl:Addr)(z:List (Int×Int))(ao sk:Int)(sw:List Int)(nc:List (Int×Int))(ks:List Kn)(ds:List Dr):Prop where
 sp:∃za bq ca qJ,gI H sa z ao sk sw za bq ca qJ
 wo:gJ z ao sk sw
 pl:∃C fp,C∈cs/\cF K C H p (bC z ao sk sw nc) fp
 nk:qG (counts z) nc
 r0:0<=r
 r1:r<(counts z).length
 b0:0<=b
 b1:b<=1000000000000
 kn:∃bN,d9 H kl bN ks
 ok:qI nc ks
 du:∃ps,gh K CA CD H dl ps ds
 dk:ds.length=ks.length/\∀(i:Nat) (k:Kn) (d:Dr),ks[i]? = some k->ds[i]? = some d->AK nc k d
noncomputable def ad4(K:PySem.W.Frag)(cs:List Addr)(CA CD:Addr)(P:Addr)(pos:Pos)(qual:Str):Sp:=λvs H Q _=>∃(sc:Addr) (ns:List Int) (most:Int),vs = [.ref sc,.int most]/\aA K H sc (ns.map V.int)/\ns.length<=63/\1<=most/\most<=7/\cH P pos qual H/\
 ∀t sa p r b kl dl z ao sk sw nc ks ds H',H' t=some (.tup [.ref sa,.ref p,.int r,.int b,.ref kl,.ref dl])->aA K H' sc (ns.map V.int)->jR K cs CA CD H' sa p r b kl dl z ao sk sw nc ks ds->Q (.ref t) H'
theorem aA.but{K:PySem.W.Frag}{H H':Hp}{P:Addr}{pos:Pos}{qual:Str}{a:Addr}{xs:List V}(h:aA K H a xs)(T:cH P pos qual H)(k:∀b o,H b=some o->b≠P->H' b=some o):aA K H' a xs:=by
 rcases h with(h | ⟨o,h⟩) | h
 ·exact .inl (.inl (k _ _ h (T.ne h (λ_ z=>nomatch z))))
 ·exact .inl (.inr ⟨o,k _ _ h (T.ne h (λ_ z=>nomatch z))⟩)
 ·exact .inr h
theorem iG.eG{K:PySem.W.Frag}{CA CD:Addr}{H:Hp}{D p:Addr}{xs ys:List V}{d:Dr}{dx ap l:Addr}{ts:List Addr}{m b bU:Addr}(hD:H D=some (.lst xs))(nl:l≠D)(h:iG K CA CD H p d dx ap l ts m b bU):iG K CA CD (upd H D (.lst ys)) p d dx ap l ts m b bU:=by
 have ne:∀ {a:Addr} {o:HO},H a=some o->(∀zs,o≠.lst zs)->a≠D:=λe n z=>by rw[z,hD] at e;exact n _ (Option.some.inj e).symm
 have t:∀ {a:Addr} {us:List V},H a=some (.tup us)->a≠D:=λe=>ne e λ_ z=>nomatch z;have i:∀ {a C dx:Addr} {fs:List (Str×V)},H a=some (.ins C dx fs)->a≠D:=λe=>ne e λ_ z=>nomatch z;refine⟨(aI (i h.o)).trans h.o,⟨(aI (i h.a.o)).trans h.a.o,(aI (t h.a.ms)).trans h.a.ms,(aI (t h.a.bh)).trans h.a.bh⟩,h.c.keep (aI nl) λu hu=>?_⟩;obtain⟨i,hi,et⟩:=List.mem_iff_getElem.mp hu;have cO:i<d.c.length:=by rw[← h.c.n];exact hi
 have:=h.c.t i u _ (by rw[← et];exact List.getElem?_eq_getElem hi) (List.getElem?_eq_getElem cO)
 exact aI (t this)
structure mq(K:PySem.W.Frag)(CA CD:Addr)(H:Hp)(D:Addr)(ps:List Addr)(ds:List Dr):Prop where
 hl:H D=some (.lst (ps.map V.ref))
 n:ps.length=ds.length
 t:∀(i:Nat) (p:Addr) (d:Dr),ps[i]? = some p->ds[i]? = some d->∃dx ap l ts m b bU,l≠D/\iG K CA CD H p d dx ap l ts m b bU
theorem mq.AL{K:PySem.W.Frag}{CA CD:Addr}{H:Hp}{D:Addr}{ps:List Addr}{ds:List Dr}(h:mq K CA CD H D ps ds):gh K CA CD H D ps ds:=⟨h.hl,h.n,λi p d e1 e2=>let ⟨dx,ap,l,ts,m,b,bU,_,a⟩:=h.t i p d e1 e2;⟨dx,ap,l,ts,m,b,bU,a⟩⟩
theorem mq.same{K:PySem.W.Frag}{CA CD:Addr}{H H':Hp}{D:Addr}{ps:List Addr}{ds:List Dr}(h:mq K CA CD H D ps ds)(s:aj H H'):mq K CA CD H' D ps ds :=
 ⟨s _ _ h.hl,h.n,λi p d e1 e2=>let ⟨dx,ap,l,ts,m,b,bU,n,a⟩:=h.t i p d e1 e2;⟨dx,ap,l,ts,m,b,bU,n,a.same s⟩⟩
theorem mq.snoc{K:PySem.W.Frag}{CA CD:Addr}{H:Hp}{D:Addr}{ps:List Addr}{ds:List Dr}(h:mq K CA CD H D ps ds){p:Addr}{d:Dr}{dx ap l:Addr}{ts:List Addr}{m b bU:Addr}(hd:iG K CA CD H p d dx ap l ts m b bU)(nl:l≠D):mq K CA CD (upd H D (.lst (ps.map V.ref++[.ref p]))) D (ps++[p]) (ds++[d]):=by
 refine⟨by rw[aD,List.map_append];rfl,by simp[h.n],λi p' d' e1 e2=>?_⟩
 have hn:=h.n;by_cases hi:i<ps.length
 ·rw[List.getElem?_append_left hi] at e1;rw[List.getElem?_append_left (by lia)] at e2
  obtain⟨kL,wY,l',dW,m',b',wZ,n',a'⟩:=h.t i p' d' e1 e2;exact⟨kL,wY,l',dW,m',b',wZ,n',a'.eG h.hl n'⟩
 ·rw[List.getElem?_append_right (by lia)] at e1
  rw[List.getElem?_append_right (by lia)] at e2
  have cO:i - ps.length=0:=by
   have:=(List.getElem?_eq_some_iff.mp e1).1;simp at this;lia
  rw[cO] at e1;rw[← hn,cO] at e2;simp at e1 e2;subst e1 e2;exact⟨dx,ap,l,ts,m,b,bU,nl,hd.eG h.hl nl⟩
theorem Hx(xs:List V)(k:Nat):cZ xs none (some (k:Int))=xs.take k:=by
 unfold cZ;have e:_H.bJ xs.length 0 none=0:=rfl;have e2:_H.bJ xs.length xs.length (some (k:Int))=min k xs.length:=by
  simp only[_H.bJ];rw[if_neg (by lia)];simp
 rw[e,e2,List.drop_zero,Nat.sub_zero];by_cases h:k<=xs.length
 ·rw[Nat.min_eq_left h]
 ·rw[Nat.min_eq_right (by lia),List.take_of_length_le (Nat.le_refl _),List.take_of_length_le (by lia)]
theorem AM(z:List (Int×Int))(ao sk:Int)(sw:List Int)(nc:List (Int×Int)):∀(cz:List (Int×Int)) (s:Int×Int),aW (bC z ao sk sw nc) s cz=aW (bC z ao sk sw []) s cz
 | [],_=>rfl
 | q::cz,s=>AM z ao sk sw nc cz (cT (bC z ao sk sw nc) s q)
theorem ad5{α β γ:Type}{as:List α}{bs:List β}{f:α->γ}{g:β->γ}(hn:as.length=bs.length)(h:∀(i:Nat) (a:α) (b:β),as[i]? = some a->bs[i]? = some b->f a=g b):as.map f=bs.map g:=by
 refine List.ext_getElem (by simpa using hn) λi h1 h2=>?_
 rw[List.getElem_map,List.getElem_map];have i1:i<as.length:=by simpa using h1
 have i2:i<bs.length:=by simpa using h2
 exact h i _ _ (List.getElem?_eq_getElem i1) (List.getElem?_eq_getElem i2)
theorem bG{N ps:List Str}{scope:Scope}(h:bA N ps scope:=by exact⟨rfl,rfl,rfl,by decide +kernel,rfl,by decide +kernel,by decide +kernel⟩):bA N ps scope:=h
class RJ where
 nx:St->Hp->Prop
noncomputable def Later[c:RJ](σ:St)(H:Hp):Prop:=c.nx σ H
noncomputable def w5(t:TS):TS:=λD σ H=>∃M:St->Hp->Prop,t { D with nx:=M } σ H/\∀gC H1,M gC H1->@Later ⟨D.nx⟩ gC H1
theorem k6{X:Cx}{st:Stmt}{t:TS}(h:PS X st t):PS X st (w5 t):=abB h
theorem Hy{c:RJ}{x:Option V}{σ:St}{H:Hp}:@Later c (x::σ) H=c.nx (x::σ) H:=rfl
theorem AN{a b c:Nat}(h1:b+1<=c)(h2:c<a)(h3:a<=b):False:=by lia
theorem RK{a b c:Nat}(h1:b+1<=c)(h3:a<=b):a<=c:=by lia
theorem AO:∀(names:List (Str×NameKind)) (n:Nat) (a b:List (Str×Addr)),cellsFrom n names (a++b)=cellsFrom n names a++b
 | [],n,a,b=>rfl
 | (nm,k)::r,n,a,b=>by
  unfold cellsFrom;split
  ·exact AO r (n+1) ((nm,n)::a) b
  ·exact AO r n a b
theorem RL{α:Type}{x:Str}{v:α}:∀ {a b:List (Str×α)},(a++b).lookup x=some v->a.lookup x=some v\/(a.lookup x=none/\b.lookup x=some v)
 | [],b,h=>.inr ⟨rfl,h⟩
 | (k,w)::a,b,h=>by
  rw[List.cons_append,List.lookup_cons] at h;rw[List.lookup_cons];cases e:x == k with
  | true=>rw[e] at h;exact .inl h
  | false=>rw[e] at h;exact RL h
theorem RM{α:Type}{x:Str}{v:α}:∀ {a b:List (Str×α)},a.lookup x=none->b.lookup x=some v->(a++b).lookup x=some v
 | [],b,_,h=>h
 | (k,w)::a,b,n,h=>by
  rw[List.lookup_cons] at n;rw[List.cons_append,List.lookup_cons];cases e:x == k with
  | true=>rw[e] at n;cases n
  | false=>rw[e] at n;exact RM n h
theorem AQ{x:Str}{c:Addr}:∀ {names:List (Str×NameKind)} {n:Nat} {acc:List (Str×Addr)},(cellsFrom n names acc).lookup x=some c->(x,NameKind.cell)∈names\/acc.lookup x=some c
 | [],n,acc,h=>.inr h
 | (nm,k)::r,n,acc,h=>by
  unfold cellsFrom at h;split at h
  ·rename_i hk;have hk:k = .cell:=by simpa using hk
   rcases AQ h with z | z
   ·exact .inl (List.mem_cons_of_mem _ z)
   ·rw[List.lookup_cons] at z;cases e:x == nm with
    | true=>rw[beq_iff_eq.mp e,hk];exact .inl (List.mem_cons_self ..)
    | false=>rw[e] at z;exact .inr z
  ·rcases AQ h with z | z
   ·exact .inl (List.mem_cons_of_mem _ z)
   ·exact .inr z
theorem ad6{M:Model}{A:Around}{E:Value->Shared->Prop}{s:Shared}{scope:Scope}{globals:Addr}{closure:List (Str×Addr)}{qual:Str}{func:Option Addr}{code:Value}{outer:Env}{builtins:Addr}{Q:Env->Shared->Prop}
  (hQ:∀h',h'.Ns s.heap.objs.size (λ_=>none)->(∀b o,s.heap.get? b=some o->h'.get? b=some o)->(∀n c,(n,c)∈cellsFrom (s.heap.objs.size+1) scope.names []->h'.IsCell c none/\s.heap.objs.size+1<=c)->(cellsFrom (s.heap.objs.size+1) scope.names []).Pairwise (λx y=>x.2≠y.2)->
   Q (newEnv scope s.heap.objs.size globals (cellsFrom (s.heap.objs.size+1) scope.names closure) qual func code (some outer) builtins) { s with heap:=h' }) :
  wpAny M A (newFunctionEnv scope globals closure [] qual func code (some outer) builtins) Q E s:=by
 simp only[newFunctionEnv,Option.isSome_some,if_true];refine wpAny_bind (wpAny_alloc ?_);refine wpAny_bind (wpAny_layCells _ (λname kind cells=>by cases As:kind == NameKind.cell <;> simp[As]) _ _ _ _ ?_)
 have ok:=cellsFrom_ok scope.names (s.heap.push { cls:=.type "dict",data:=.dict #[] }) (s.heap.objs.size+1) [] ⟨λ_ _ hm=>(nomatch hm),List.Pairwise.nil⟩ (by rw[Heap.size_push];exact Nat.le_refl _)
 rw[Heap.size_push] at ok;rw[show ({ s with heap:=s.heap.push { cls:=.type "dict",data:=.dict #[] }}:Shared).heap.objs.size=s.heap.objs.size+1 from Heap.size_push ..];rw[List.forIn_nil];refine wpAny_bind (wpAny_pure (wpAny_pure ?_));exact hQ _ ((Heap.Ns.new s.heap (.type "dict")).keeps (pushCells_keeps _ _)) (λb o e=>pushCells_keeps _ _ b o (Heap.get?_push_of_some _ e)) ok.empty ok.apart
noncomputable def gj(X:Cx)(scope:Scope)(cl:List (Str×Addr))(N:List Str)(C:Addr)(s:Shared)(H:Hp)(fp:List Addr):Cx where
 prog:=X.prog
 w:=X.w
 K:=X.K
 mg:=X.mg
 base:=X.base
 A:=X.A
 N:=N
 dw:=s
 pY:=H
 env:=compEnvC scope (cellsFrom (C+1) scope.names cl) C X.env
 outer:=X.stack
 stack:=X.stack
 ex:=fp
 fn:=λx=>scope.names.lookup x == some .cell
 calm:=X.calm
 pn:=[]
 xe:=λ_ _=>False
structure cD(X:Cx)(scope:Scope)(cl:List (Str×Addr))(N:List Str)(nt:Nat)(fv:List Nat):Prop where
 lZ:closureFor scope X.env=pure cl
 kind:scope.kind = .function
 names:∀y∈scope.names,y.2 = .local->scope.names.lookup y.1=some .local
 cells:∀y∈scope.names,y.2 = .cell->scope.names.lookup y.1=some .cell/\cl.lookup y.1=none
 sub:∀p∈cl,X.env.cells.lookup p.1=some p.2
 has:∀y∈scope.names,y.2 = .free->∃c,cl.lookup y.1=some c
 free:fv.map (λj=>X.N[j]?)=(N.drop nt).map some
 fk:∀y∈N.drop nt,scope.names.lookup y=some .free/\X.env.scope.names.lookup y=some .cell
 le:nt<=N.length
 nd:N.Nodup
theorem cD.of{X:Cx}{scope:Scope}{cl:List (Str×Addr)}{N:List Str}{nt:Nat}{fv:List Nat}(lZ:closureFor scope X.env=pure cl)(kind:scope.kind = .function)
  (cells:(scope.names.all λy=>y.2 != .cell || (scope.names.lookup y.1 == some .cell && (cl.lookup y.1).isNone))=true) (names:(scope.names.all λy=>y.2 != .local || scope.names.lookup y.1 == some .local)=true)
  (sub:AllP (λp:Str×Addr=>X.env.cells.lookup p.1=some p.2) cl) (has:(scope.names.all λy=>y.2 != .free || (cl.lookup y.1).isSome)=true)
  (free:fv.map (λj=>X.N[j]?)=(N.drop nt).map some) (fk:((N.drop nt).all λy=>scope.names.lookup y == some .free && X.env.scope.names.lookup y == some .cell)=true) (le:nt<=N.length) (nd:N.Nodup) :
  cD X scope cl N nt fv where
 lZ:=lZ
 kind:=kind
 cells:=λy hy hl=>by
  have:=List.all_eq_true.mp cells y hy;rw[hl] at this;simpa using this
 names:=λy hy hl=>by have:=List.all_eq_true.mp names y hy;simp[hl] at this;exact this
 sub:=sub.mem
 has:=λy hy hl=>by
  have:=List.all_eq_true.mp has y hy;rw[hl] at this;exact Option.isSome_iff_exists.mp (by simpa only[bne_self_eq_false,Bool.false_or] using this)
 free:=free
 fk:=λy hy=>by have:=List.all_eq_true.mp fk y hy;simpa using this
 le:=le
 nd:=nd
section
variable{X:Cx}{pins:List (Addr×Obj)}{σ:St}{H:Hp}{s:Shared}{scope:Scope}{cl:List (Str×Addr)}{N:List Str}{nt:Nat}{fv:List Nat}{fp:List Addr}
theorem cD.cell(S:cD X scope cl N nt fv){x:Str}{c:Addr}(e:cl.lookup x=some c):X.env.cells.lookup x=some c:=S.sub (x,c) (mZ e)
theorem cD.kinds(S:cD X scope cl N nt fv){l:List (Str×Addr)}{C:Addr}{x:Str}(h:(compEnvC scope l C X.env).kindOf x=some .cell\/(compEnvC scope l C X.env).kindOf x=some .free):scope.names.lookup x=some .free\/scope.names.lookup x=some .cell:=by
 have h:(scope.names.map λ(n,k)=>if (k == NameKind.free && X.env.scope.kind == .function && X.env.kindOf n == some .cell) then(n,NameKind.cell) else(n,k)).lookup x=some .cell\/
  (scope.names.map λ(n,k)=>if (k == NameKind.free && X.env.scope.kind == .function && X.env.kindOf n == some .cell) then(n,NameKind.cell) else(n,k)).lookup x=some .free:=h
 rcases h with h | h
 ·obtain⟨k0,e,z | ⟨z,_⟩⟩:=zR h
  ·rw[← z] at e;exact .inr e
  ·rw[z] at e;exact .inl e
 ·obtain⟨k0,e,z | ⟨z,_⟩⟩:=zR h
  ·rw[← z] at e;exact .inl e
  ·rw[z] at e;exact .inl e
theorem cD.qK(S:cD X scope cl N nt fv){C:Addr}{x:Str}{c:Addr}(e:(cellsFrom (C+1) scope.names cl).lookup x=some c) :
  ((x,c)∈cellsFrom (C+1) scope.names []/\scope.names.lookup x=some .cell)\/(cl.lookup x=some c/\scope.names.lookup x≠some .cell):=by
 have q:cellsFrom (C+1) scope.names cl=cellsFrom (C+1) scope.names []++cl:=AO scope.names (C+1) [] cl;rw[q] at e;rcases RL e with z | ⟨_,z⟩
 ·rcases AQ z with y | y
  ·exact .inl ⟨mZ z,(S.cells _ y rfl).1⟩
  ·cases y
 ·refine .inr ⟨z,λy=>?_⟩
  have:=(S.cells _ (mZ y) rfl).2;rw[this] at z;cases z
theorem cD.ok(S:cD X scope cl N nt fv)(I:Inv X pins σ H s)(hf:∀b∈fp,lO X pins H b)(cj:∀b∈fp,b<s.heap.objs.size){C:Addr}(hC:s.heap.objs.size<=C)
  (own:∀n c,(n,c)∈cellsFrom (C+1) scope.names []->C+1<=c) (apart:(cellsFrom (C+1) scope.names []).Pairwise (λx y=>x.2≠y.2)) :
  (gj X scope cl N C s H fp).Ok where
 mod:=I.ok.mod
 kind:=S.kind
 glob:=I.ok.glob
 blt:=I.ok.blt
 above:=hC
 inj:=λx y c h1 h2=>by
  have old:∀ {x:Str} {c:Addr},cl.lookup x=some c->c<s.heap.objs.size:=λe=>by
   obtain⟨v,o,z,_⟩:=I.cell _ _ (S.cell e);exact Heap.lt_size z
  rcases S.qK h1 with⟨a,_⟩ | ⟨a,_⟩
  ·rcases S.qK h2 with⟨b,_⟩ | ⟨b,_⟩
   ·exact name_of_addr apart a b
   ·exact(AN (own _ _ a) (old b) hC).elim
  ·rcases S.qK h2 with⟨b,_⟩ | ⟨b,_⟩
   ·exact(AN (own _ _ b) (old a) hC).elim
   ·exact I.ok.inj x y c (S.cell a) (S.cell b)
 has:=λx h=>by
  rcases S.kinds h with e | e
  ·obtain⟨c,z⟩:=S.has _ (mZ e) rfl;exact Option.isSome_iff_exists.mp (PySem.W.cellsFrom_some scope.names (C+1) cl (.inr (by rw[z];rfl)))
  ·exact Option.isSome_iff_exists.mp (PySem.W.cellsFrom_some scope.names (C+1) cl (.inl e))
 rE:=λx c h e=>by
  have h:(scope.names.lookup x == some .cell)=true:=h;rcases S.qK e with⟨a,_⟩ | ⟨_,a⟩
  ·exact RK (own _ _ a) hC
  ·exact absurd (by simpa using h) a
 hd:=I.ok.hd
 frames:=I.ok.frames
 uH:=.inl rfl
 uI:=λb hb=>⟨λz=>absurd (Nat.lt_of_lt_of_le (cj b hb) (by rw[z];exact hC)) (Nat.lt_irrefl _),λx c h=>by
  rcases S.qK h with⟨a,_⟩ | ⟨a,_⟩
  ·intro z;rw[z] at a;exact AN (own _ _ a) (cj b hb) hC
  ·exact(hf b hb).2.2.2.2.1 x c (S.cell a)⟩
 bs:=I.bs
 gB:=Nat.le_trans I.ok.gB I.sz
 rF:=λb o e hb=>by
  rcases(hf b hb).2.2.2.1 with z | z
  ·exact I.ok.rF b o e z
  ·exact absurd (Nat.lt_of_lt_of_le (Heap.lt_size e) (Nat.le_trans I.ok.gB z)) (Nat.lt_irrefl _)
 rG:=λb hb hm=>by
  rcases List.mem_cons.mp (I.Fi b hm) with z | z
  ·exact(hf b hb).2.1 z
  ·exact(hf b hb).2.2.1 z
 jf:=I.stack
 oh:=I.Fj
theorem cD.inv(S:cD X scope cl N nt fv)(I:Inv X pins σ H s)(hf:∀b∈fp,lO X pins H b)(cj:∀b∈fp,b<s.heap.objs.size){h1:Heap}{tk:Nat}{D C:Addr}
  (hD:s.heap.objs.size<=D) (hC:s.heap.objs.size<=C) (w_:D<C) (old:∀b o,s.heap.get? b=some o->h1.get? b=some o) (jw:h1.get? D=some { cls:=.type "list",data:=.seq #[] }) (kH:h1.Ns C λ_=>none)
  (own:∀n c,(n,c)∈cellsFrom (C+1) scope.names []->h1.IsCell c none/\C+1<=c) (apart:(cellsFrom (C+1) scope.names []).Pairwise (λx y=>x.2≠y.2)) :
  Inv (gj X scope cl N C s H fp) [] (iB σ nt fv) (upd H D (.lst [])) { s with heap:=h1,toks:=tk }:=by
 have I1:Inv X pins σ (upd H D (.lst [])) { s with heap:=h1,toks:=tk }:=I.laid old hD ⟨Nat.zero_le _,[],0,.nil,jw⟩;have hlen:fv.length=(N.drop nt).length:=by simpa using congrArg List.length S.free
 refine⟨S.ok I hf cj hC (λn c e=>(own n c e).2) apart,rfl,I.bare,Un.laid old hD (I.aM.fresh hD),⟨_,kH,λi x v e1 e2 e3=>?_⟩,λx c e=>?_,?_,λx c e=>?_,λp hp=>absurd (show p∈([]:List (Addr×Obj)) from hp) (by simp),I1.aM,?_⟩
 ·unfold iB at e2;have hi:nt<=i:=by
   by_cases h:nt<=i
   ·exact h
   ·rw[List.getElem?_append_left (by simp;lia),List.getElem?_replicate] at e2
    split at e2 <;> cases e2
  rw[List.getElem?_append_right (by simpa using hi)] at e2
  simp only[List.length_replicate,List.getElem?_map] at e2;cases hj:fv[i - nt]? with
  | none=>rw[hj] at e2;simp at e2
  | some j =>
   rw[hj] at e2;simp only[Option.map_some,Option.some.injEq] at e2;have hN:X.N[j]? = some x:=by
    have q:=congrArg (λl=>l[i - nt]?) S.free;simp only[List.getElem?_map,hj,Option.map_some,List.getElem?_drop] at q;rw[show nt+(i - nt)=i by lia] at q
    have xg:N[i]? = some x:=e1;rw[xg] at q;exact(Option.some.inj q)
   have G2:σ[j]? = some (some v):=by
    cases z:σ[j]? with
    | none=>rw[z] at e2;simp at e2
    | some y=>rw[z] at e2;simp at e2;rw[e2]
   have ad7:x∈N.drop nt:=by
    refine List.mem_of_getElem? (i:=i - nt) ?_;rw[List.getElem?_drop,show nt+(i - nt)=i by lia];exact e1
   obtain⟨f1,f2⟩:=S.fk x ad7;obtain⟨m,hn,hl⟩:=I1.loc;obtain⟨u,ru,lk⟩:=hl j x v hN G2 (.inr (.inl f2));refine⟨u,ru,?_⟩;rcases lk with⟨k,_⟩ | ⟨_,c,ec,hc⟩
   ·have k:X.env.scope.names.lookup x=some .local:=k;rw[f2] at k;cases k
   ·obtain⟨c',e'⟩:=S.has _ (mZ f1) rfl;have:=S.cell e';rw[ec] at this;cases this;have lk2:(cellsFrom (C+1) scope.names cl).lookup x=some c:=by
     rw[show cellsFrom (C+1) scope.names cl=cellsFrom (C+1) scope.names []++cl from AO scope.names (C+1) [] cl];refine RM ?_ e';cases q:(cellsFrom (C+1) scope.names []).lookup x with
     | none=>rfl
     | some c2 =>
      rcases AQ q with y | y
      ·have:=(S.cells _ y rfl).1;rw[f1] at this;cases this
      ·cases y
    refine .inr ⟨?_,c,lk2,hc⟩;rcases e3 with z | z | z
    ·obtain⟨k0,ek,q | ⟨_,q⟩⟩:=zR (show (scope.names.map λ(n,k)=>if (k == NameKind.free && X.env.scope.kind == .function && X.env.kindOf n == some .cell) then(n,NameKind.cell) else(n,k)).lookup x=some .local from z)
     ·rw[f1] at ek;cases ek;cases q
     ·cases q
    ·exact .inl z
    ·exact .inr z
 ·rcases S.qK e with⟨a,_⟩ | ⟨a,_⟩
  ·exact⟨_,(own _ _ a).1⟩
  ·obtain⟨v,z⟩:=I1.cell x c (S.cell a);exact⟨v,z⟩
 ·show upd H D (.lst []) C=none;rw[aI (Nat.ne_of_gt w_)];exact I.aM.fresh hC
 ·rcases S.qK e with⟨a,_⟩ | ⟨a,_⟩
  ·have q:=(own _ _ a).2;rw[aI (λz=>by rw[z] at q;exact AN q w_ (Nat.le_refl C))]
   exact I.aM.fresh (RK q hC)
  ·exact I1.ki x c (S.cell a)
 ·unfold iB
  show _=N.length;have:=S.le;simp only[List.length_append,List.length_replicate,List.length_map,List.length_drop] at hlen ⊢;lia
end
section
variable{X:Cx}{tg iter elt:Expr}{ifs:List Expr}{scope:Scope}{cl:List (Str×Addr)}{N:List Str}{nt:Nat}{fv:List Nat}{pos:Pos}{wi:TI}{g:TG}{tt:TT}{te:TE}
theorem RN{pins:List (Addr×Obj)}{σ:St}{s2:Shared}{H2:Hp}{it:Addr}{fp:List Addr}{tn:Nat->Heap->Prop}{J:It}{Q:VK}{RR:Value->Addr->Result->Shared->Prop}{E:Value->Shared->Prop}
  (S:cD X scope cl N nt fv) (hc:X.calm=true)
  (hg:∀C s H fp,PG (gj X scope cl N C s H fp) tg g) (ht:∀C s H fp,sG (gj X scope cl N C s H fp) ifs tt) (he:∀C s H fp,PE (gj X scope cl N C s H fp) elt te)
  (I2:Inv X pins σ H2 s2) (T:Turn X.prog X.w X.K tg J fp it tn) (bV:tn 0 s2.heap) (f2:∀b∈fp,lO X pins H2 b)
  (hq:∀D,H2 D=none->∃W:Nat->Nat->List V->St->Hp->Prop,
   (∃m,W 0 m [] (iB σ nt fv) (upd H2 D (.lst [])))/\∀i m ys aB H2,W i m ys aB H2->H2 D=some (.lst ys)/\ys.length<sizeLine/\
    ((J.stop i H2/\Q (.ref D) H2)\/(J.go i H2/\∀x H3,J.mQ i H2 x H3->g x aB H3 λcy H4=>tt cy H4 λb H5=>if b=true then te cy H5 λv H6=>H6 D=some (.lst ys)/\∃m',m' < m/\W (i+1) m' (ys++[v]) cy (upd H6 D (.lst (ys++[v])))
     else ∃m',m' < m/\W (i+1) m' ys cy H5)))
  (hRR:∀(D C:Addr) (s':Shared) (H':Hp) (m':Str->Option Value),Inv X pins σ H' s'->s'.heap.Ns C m'->s2.heap.objs.size<=C->H' C=none->Q (.ref D) H'->RR (.ref D) C (.ok .next) s') :
  wpAny (model X.prog X.w) X.A (newList []) (λacc jK=>wpAny (model X.prog X.w) X.A (newFunctionEnv scope X.env.globals cl [] X.env.qual none .none (some X.env)) (λRO zQ =>
   codeAny (model X.prog X.w) X.A (.compStart (.ListComp elt [⟨tg,iter,ifs,0⟩] scope pos) 0 (.ref it) acc { RO with scope:=relabel scope X.env }) (RR acc RO.locals) zQ) E jK) E s2:=by
 refine wpAny_newObj_type (ad6 λlU Hz AR AS AU=>?_);dsimp only at Hz AR AS AU ⊢;generalize HC:s2.heap.push { cls:=.type "list",dict:=none,data:=.seq ([]:List Value).toArray }=HH at Hz AR AS AU ⊢;have hC:HH.objs.size=s2.heap.objs.size+1:=by rw[← HC,Heap.size_push]
 have w_:s2.heap.objs.size<HH.objs.size:=by rw[hC];exact Nat.lt_succ_self _
 have HD:s2.heap.objs.size<=HH.objs.size:=Nat.le_of_lt w_;have old:∀b o,s2.heap.get? b=some o->lU.get? b=some o:=λb o e=>AR b o (HC▸Heap.get?_push_of_some _ e);have jw:lU.get? s2.heap.objs.size=some { cls:=.type "list",data:=.seq #[] }:=AR _ _ (HC▸Heap.get?_push_size _ rfl);have cj:∀b∈fp,b<s2.heap.objs.size:=λb hb=>by
  obtain⟨o,e,_⟩:=T.obj 0 _ bV b hb;exact Heap.lt_size e
 have hD:H2 s2.heap.objs.size=none:=I2.aM.fresh (Nat.le_refl _);obtain⟨W,⟨m0,w0⟩,turn⟩:=hq _ hD;have vd:tn 0 lU:=T.keep _ _ _ bV λb _ o e=>old b o e;have I3:=S.inv I2 f2 cj (h1:=lU) (tk:=s2.toks) (D:=s2.heap.objs.size) (C:=HH.objs.size) (Nat.le_refl _) HD w_ old jw Hz AS AU;have nD:∀b∈fp,b≠s2.heap.objs.size:=λb hb=>Nat.ne_of_lt (cj b hb);have qe:∀ {H':Hp},(∀b∈fp,H' b=none)->∀b∈fp,lO (gj X scope cl N HH.objs.size s2 H2 fp) [] H' b:=λ{H'} hn b hb=>by
  have ok:=S.ok I2 f2 cj HD (λn c e=>(AS n c e).2) AU;refine⟨hn b hb,(ok.uI b hb).1,ok.rG b hb,.inl hb,(ok.uI b hb).2,λp hp=>absurd (show p∈([]:List (Addr×Obj)) from hp) (by simp)⟩
 have loop:∀jK:Shared,jK = { s2 with heap:=lU,toks:=s2.toks }->
   codeAny (model X.prog X.w) X.A (.compLoop (.ListComp elt [⟨tg,iter,ifs,0⟩] scope pos) 0 (.ref it) (.ref s2.heap.objs.size) (compEnvC scope (cellsFrom (HH.objs.size+1) scope.names cl) HH.objs.size X.env)) (RR (.ref s2.heap.objs.size) HH.objs.size) jK:=by
  rintro jK rfl;refine abg (λn s'=>∃i ys bE H',Inv (gj X scope cl N HH.objs.size s2 H2 fp) [] bE H' s'/\tn i s'.heap/\(∀b∈fp,H' b=none)/\W i n ys bE H') ?_ m0
   ⟨0,[],_,_,I3,vd,λb hb=>by rw[aI (nD b hb)];exact(f2 b hb).1,w0⟩
  rintro n s3 ⟨i,ys,dX,H3,J3,t3,qg,w3⟩;obtain⟨eD,hys,ad8⟩:=turn i n ys dX H3 w3;rcases ad8 with⟨stop,qn⟩ | ⟨go,step⟩
  ·refine aU (T.done (gj X scope cl N HH.objs.size s2 H2 fp) rfl rfl rfl hc i [] s3 dX H3 (λ_ _=>False) J3 (qe qg) t3 stop) λr s4 ⟨hr,I4⟩=>?_;subst hr;have I5:Inv X pins σ H3 s4:=I2.OM (ch:=fp) I4.os I4.base I4.aM I4.bare λb hb=>⟨(f2 b hb).2.2.2.1,(f2 b hb).2.1,(f2 b hb).2.2.2.2.1,(f2 b hb).2.2.2.2.2⟩;obtain⟨m,hn,_⟩:=I4.loc;exact hRR _ _ s4 H3 m I5 hn HD I4.free qn
  ·refine aU (T.item (gj X scope cl N HH.objs.size s2 H2 fp) rfl rfl rfl hc i [] s3 dX H3 (λ_ _=>False) J3 (qe qg) t3 go) λr s4 ⟨u,hr,h4⟩=>?_;subst hr;refine aU h4 λ_ s5 ⟨x,H5,I5,r5,zz⟩=>?_;obtain⟨y5,qh,Fy⟩:=zz;have Fz:=I5.pinned (qe Fy) (T.obj _ _ qh);refine aU (hg _ _ _ _ _ s5 dX H5 x u _ Fz r5 (step x H5 y5)) λ_ s6 ⟨oF,H6,I6,q6⟩=>?_;have RP:∀ {iP:St} {H7:Hp} {s7:Shared},Inv (gj X scope cl N HH.objs.size s2 H2 fp) ([]++u_ fp s5.heap) iP H7 s7->tn (i+1) s7.heap/\∀b∈fp,H7 b=none:=λ{iP H7 s7} I7=>by
    refine⟨T.keep _ _ _ qh λb hb o e=>(I7.pin (b,o) (List.mem_append_right _ (List.mem_append_right _ (zq hb e)))).1,λb hb=>?_⟩;obtain⟨o,e,d⟩:=T.obj _ _ qh b hb;exact(I7.pin (b,o) (List.mem_append_right _ (List.mem_append_right _ (zq hb e)))).2.1
   refine aU (ht _ _ _ _ _ s6 oF H6 _ I6 q6) λb s7 ⟨H7,I7,q7⟩=>?_;cases b with
   | false =>
    obtain⟨m',hm,w7⟩:=q7;obtain⟨t7,n7⟩:=RP I7;exact⟨m',hm,i+1,ys,oF,H7,I7.vc,t7,n7,w7⟩
   | true =>
    refine aU (he _ _ _ _ _ s7 oF H7 _ I7 q7) λu8 s8 ⟨v8,H8,I8,r8,zz⟩=>?_;obtain⟨eD8,m',hm,w8⟩:=zz;refine aU (jH (X:=gj X scope cl N HH.objs.size s2 H2 fp) _ s8 oF H8 (.ref s2.heap.objs.size) [v8] (.ref s2.heap.objs.size) [u8] (λ_ H9=>∃m',m' < n/\W (i+1) m' (ys++[v8]) oF H9) I8 rfl (.cons r8 .nil)
     ⟨s2.heap.objs.size,ys,v8,rfl,rfl,eD8,hys,m',hm,w8⟩) λ_ s9 ⟨_,H9,I9,_,m9,hm9,w9⟩=>?_
    obtain⟨t9,n9⟩:=RP I9;exact⟨m9,hm9,i+1,ys++[v8],oF,H9,I9.vc,t9,n9,w9⟩
 exact codeAny_compStart_list (loop _ rfl) (T.self _ 0 _ _ _ vd (loop _ rfl))
theorem gm(S:cD X scope cl N nt fv)(hc:X.calm=true)(hi:PI X tg iter wi)
  (hg:∀C s H fp,PG (gj X scope cl N C s H fp) tg g) (ht:∀C s H fp,sG (gj X scope cl N C s H fp) ifs tt) (he:∀C s H fp,PE (gj X scope cl N C s H fp) elt te)
  (hs:∀x,foldedSetIterable iter X.env x=pure x:=by intro _;rfl):PE X (.ListComp elt [⟨tg,iter,ifs,0⟩] scope pos) (kI wi g tt te nt fv):=by
 intro pins s σ H Q I h;rw[eval_ListComp];refine wpAny_comprehension_free (use:=none) rfl hs S.lZ S.kind S.names (aU (hi pins s σ H _ I h) λxv s1 h1=>aU h1 λzo s2 h2=>?_);obtain⟨it,fp,tn,J,H2,rfl,I2,T,bV,f2,hq⟩:=h2;refine RN (RR:=λacc C=>compPost (model X.prog X.w) X.A X.xe none (EP X pins σ Q) acc C) S hc hg ht he I2 T bV f2 hq λD C s' H' m' I' hn hC fC q=>?_;refine⟨m',hn,λh' gG=>⟨.ref D,H',?_,rfl,q⟩⟩;have k7:=I2.qb hC fC;exact I'.turned (t':=s'.toks) (it:=C) (λb o hb e=>gG.extBut b o hb e) fC k7.2.1 k7.2.2.2.1 k7.2.2.2.2.1 k7.2.2.2.2.2
theorem tF{i:Nat}{y:Str}{py RQ:Pos}(hN:X.N.Nodup)(iC:X.N[i]? = some y)(hy:Loc X.env.scope y)(S:cD X scope cl N nt fv)(hc:X.calm=true)(hi:PI X tg iter wi)
  (hg:∀C s H fp,PG (gj X scope cl N C s H fp) tg g) (ht:∀C s H fp,sG (gj X scope cl N C s H fp) ifs tt) (he:∀C s H fp,PE (gj X scope cl N C s H fp) elt te)
  (HE:swapsWith (.ListComp elt [⟨tg,iter,ifs,0⟩] scope pos) (some (.Name y py)) RQ.line X.env=pure true:=by rfl)
  (hs:∀x,foldedSetIterable iter X.env x=pure x:=by intro _;rfl) (hf:X.fn y=true\/X.env.scope.names.lookup y=some .local:=by first | exact .inl rfl | exact .inr rfl | assumption) :
  PS X (.Assign [.Name y py] (.ListComp elt [⟨tg,iter,ifs,0⟩] scope pos) RQ) (p_ (kI wi g tt te nt fv) (lN i)):=by
 intro pins s σ H D' I h;rw[exec_Assign_Name_used _ _ _ _ HE];refine wpAny_bind (wpAny_standAt (wpAny_bind ?_))
 show wpAny _ _ (do let _ ← comprehension (.ListComp elt [⟨tg,iter,ifs,0⟩] scope pos) scope X.env _ (newList []) false (eval iter X.env) (some (assign (.Name y py) X.env))) _ _ s
 refine wpAny_bind (wpAny_mono (wpAny_comprehension_free (use:=some (assign (.Name y py) X.env)) (Q:=λ_ s'=>SP X pins D' .next s') rfl hs S.lZ S.kind S.names
  (aU (hi pins s σ H _ I h) λxv s1 h1=>aU h1 λzo s2 h2=>?_)) (λ_ s' hq=>wpAny_pure (wpAny_pure hq)) λ_ _ e=>e)
 obtain⟨it,fp,tn,J,H2,rfl,I2,T,bV,f2,hq⟩:=h2;refine RN (RR:=λacc C=>compPost (model X.prog X.w) X.A X.xe (some (assign (.Name y py) X.env)) (λ_ s'=>SP X pins D' .next s') acc C) (Q:=λx H1=>lN i x σ H1 D'.nx) S hc hg ht he I2 T bV f2 hq λD C s' H' m' I' hn hC fC q=>?_;have k7:=I2.qb hC fC
 show wpAny _ _ (assign (.Name y py) X.env (.ref D)) _ _ _;refine wpAny_assign_Name (OE I' hN iC hy (v:=.ref D) rfl (λrX I'' ⟨a,hsa,ha⟩=>?_) hf);have hCa:C≠a:=by
  rcases ha with z | z
  ·rw[z];exact k7.2.1
  ·exact λe=>k7.2.2.2.2.1 y a z e.symm
 refine⟨m',hn.sameBut hsa hCa,λh' gG=>⟨_,H',?_,q⟩⟩;exact I''.turned (t':=rX.toks) (it:=C) (λb o hb e=>gG.extBut b o hb e) fC k7.2.1 k7.2.2.2.1 k7.2.2.2.2.1 k7.2.2.2.2.2
end
section
variable{X:Cx}
theorem ad9{K:PySem.W.Frag}(h:X.K=K)(hu:X.A.units+16<cLine):cu X (compareOp .Eq) (λx y H Q=>∃a b xs,x = .ref a/\y = .ref b/\aA K H a xs/\aA K H b []/\Q (.bl xs.isEmpty) H):=h▸GQ hu
end
theorem RS{X:Cx}{K:PySem.W.Frag}{tg l:Expr}{tl:TE}(h:X.K=K)(hl:PE X l tl):PI X tg l (mR K tl):=h▸c_ hl
theorem HF{X:Cx}{scope:Scope}{cl:List (Str×Addr)}{N:List Str}{C:Addr}{s:Shared}{H:Hp}{fp:List Addr}:(gj X scope cl N C s H fp).K=X.K:=rfl
noncomputable def jS(d o:Dr):Bool:=decide (o.n<d.n) && (decide (o.n∈d.q.behind) || wJ d.q o.q)
noncomputable def ad_(K:PySem.W.Frag)(CA CD:Addr):Sp:=λvs H Q _=>∃(p r:Addr) (d o:Dr) (dx ap l:Addr) (ts:List Addr) (m b bU kL wY l':Addr) (dW:List Addr) (m' b' wZ:Addr),vs = [.ref p,.ref r]/\iG K CA CD H p d dx ap l ts m b bU/\iG K CA CD H r o kL wY l' dW m' b' wZ/\Q (.bl (jS d o)) H
noncomputable def k8(ds:List Dr)(d:Dr):List Int:=(ds.filter (jS d)).map (·.n)
noncomputable def qL(n:Int):Key:=.inl n
structure AV(H:Hp)(kd:Addr)(ds all:List Dr)(az:List (Key×V)):Prop where
 d:H kd=some (.dK az)
 n:az.length<=ds.length
 v:∀(i:Nat) (d:Dr),ds[i]? = some d->∃li,cM az (qL d.n)=some (.ref li)/\li≠kd/\H li=some (.lst ((k8 all d).map V.int))
noncomputable def aea(K:PySem.W.Frag)(CA CD:Addr):Sp:=λvs H Q _=>∃(l:Addr) (ps:List Addr) (ds:List Dr),vs = [.ref l]/\gh K CA CD H l ps ds/\ds.length<=100/\(ds.map (·.n)).Nodup/\
 ∀kd az H',aj H H'->H kd=none->AV H' kd ds ds az->Q (.ref kd) H'
noncomputable def keepsK(k o:Kn):Bool:=decide (o.n<k.n) && (decide (o.n∈k.bh) || ((k.w || o.w) && decide (k.f<o.f+o.m) && decide (o.f<k.f+k.m)))
noncomputable def aeb(K:PySem.W.Frag):Sp:=λvs H Q _=>∃(t u:Addr) (k o:Kn) (b cl:Addr) (bu:List Addr) (b' e_:Addr) (wX:List Addr),vs = [.ref t,.ref u]/\fX H t k b cl bu/\fX H u o b' e_ wX/\Q (.bl (keepsK k o)) H
noncomputable def gq(ks:List Kn):List Int:=(ks.filter λk=>(ks.filter (keepsK k)).isEmpty).map (·.n)
noncomputable def aec(K:PySem.W.Frag):Sp:=λvs H Q _=>∃(kl:Addr) (bN:List Addr) (ks:List Kn),vs = [.ref kl]/\d9 H kl bN ks/\ks.length<=100/\
 ∀D H',aj H H'->H D=none->H' D=some (.lst ((gq ks).map V.int))->Q (.ref D) H'
theorem aed(az:List (Key×V))(k:Key)(v:V):(putK az k v).length<=az.length+1:=by
 unfold putK;split
 ·rw[List.length_map];lia
 ·rw[List.length_append];exact Nat.le_refl _
theorem aee{nc:List (Int×Int)}{k k':Kn}{d d':Dr}(h:AK nc k d)(h':AK nc k' d'):jS d d' = keepsK k k':=by
 obtain⟨e1,⟨f1,m1,b1,k1,_⟩,_⟩:=h;obtain⟨e2,⟨f2,m2,b2,k2,_⟩,_⟩:=h';unfold jS keepsK wJ;rw[e1,e2,b1,f1,m1,f2,m2,k1,k2];have eB:¬ (("read" : Str) = "write"):=by decide
 cases k.w <;> cases k'.w <;> simp[eB,Bool.and_assoc]
theorem RT{α β γ:Type}{f:α->γ}{g:β->γ}:∀ {as:List α} {bs:List β} {p:α->Bool} {q:β->Bool},as.length=bs.length->(∀(i:Nat) (a:α) (b:β),as[i]? = some a->bs[i]? = some b->p a=q b/\f a=g b)->(as.filter p).map f=(bs.filter q).map g
 | [],[],_,_,_,_=>rfl
 | [],_::_,_,_,h,_=>by simp at h
 | _::_,[],_,_,h,_=>by simp at h
 | a::as,b::bs,p,q,h,r=>by
  obtain⟨r1,r2⟩:=r 0 a b rfl rfl;have ih:=RT (as:=as) (bs:=bs) (p:=p) (q:=q) (f:=f) (g:=g) (by simpa using h) λi a' b' e1 e2=>r (i+1) a' b' (by simpa using e1) (by simpa using e2)
  rw[List.filter_cons,List.filter_cons,r1];split
  ·rw[List.map_cons,List.map_cons,r2,ih]
  ·exact ih
theorem tG{α:Type}{l:List α}{p:α->Bool}{i:Nat}{a:α}(h:l[i]? = some a):(l.take (i+1)).filter p=(l.take i).filter p++(if p a then [a] else []):=by
 rw[take_succ_get h,List.filter_append,List.filter_cons];split <;> rfl
theorem SwOk.mono{sw:List Int}{n:Int}(so:SwOk sw n):∀(j i:Nat),i<=j->j<sw.length->sw.getD i 0<=sw.getD j 0
 | 0,i,h,_=>by rw[show i=0 by lia];exact Int.le_refl _
 | j+1,i,h,hj=>by
  by_cases e:i=j+1
  ·rw[e];exact Int.le_refl _
  ·exact Int.le_trans (so.mono j i (by lia) (by lia)) (so.up (j+1) (by lia) hj)
theorem SwOk.nonneg{sw:List Int}{n:Int}(so:SwOk sw n){j:Nat}(hj:j<sw.length):0<=sw.getD j 0:=by
 have:=so.mono j 0 (by lia) hj
 rw[so.z] at this;exact this
theorem SwOk.qB{sw:List Int}{n:Int}(so:SwOk sw n){s x q:Int}(s0:0<=s)(s1:s<n)(x0:0<=x)(x1:x<n)(q0:0<=q)(q1:q<n):sw.getD (s - q).natAbs 0<=sw.getD (s - x).natAbs 0+sw.getD (x - q).natAbs 0:=by
 have len:=so.len;have ha:(s - x).natAbs<sw.length:=by lia
 have hb:(x - q).natAbs<sw.length:=by lia
 have hd:(s - q).natAbs<sw.length:=by lia
 have tr:(s - q).natAbs<=(s - x).natAbs+(x - q).natAbs:=by lia
 generalize (s - x).natAbs=a at *
 generalize (x - q).natAbs=b at *
 generalize (s - q).natAbs=d at *
 have na:=so.nonneg ha;have nb:=so.nonneg hb;by_cases h1:d<=a
 ·have:=so.mono a d h1 ha;lia
 ·by_cases h2:a=0
  ·have:=so.mono b d (by lia) hb
   lia
  ·have h3:=so.no a (d - a) (by lia) (by lia) (by lia)
   rw[show a+(d - a)=d by lia] at h3
   have h4:=so.mono b (d - a) (by lia) hb
   lia
noncomputable def xh(P:Pl)(s t:Int×Int):Prop:=∀q:Int,0<=q->q<P.rc.length->s.2+P.sw.getD (s.1 - q).natAbs 0<=t.2+P.sw.getD (t.1 - q).natAbs 0
noncomputable def iH(p:Nat->Bool)(xs:List (Int×Int)):List (Int×Int):=((List.range xs.length).filter p).map λk=>xs.getD k (0,0)
theorem aef(p:Nat->Bool)(xs:List (Int×Int))(x:Int×Int):iH p (xs++[x])=iH p xs++if p xs.length then [x] else []:=by
 unfold iH;rw[List.length_append,List.length_singleton,List.range_succ,List.filter_append,List.map_append];congr 1
 ·refine List.map_congr_left λk hk=>?_;have:k<xs.length:=List.mem_range.mp (List.mem_filter.mp hk).1;rw[List.getD_eq_getElem?_getD,List.getD_eq_getElem?_getD,List.getElem?_append_left this]
 ·cases h:p xs.length with
  | true=>simp[h]
  | false=>simp[h]
theorem snoc_ind{α:Type}{C:List α->Prop}(h0:C [])(h1:∀xs x,C xs->C (xs++[x]))(l:List α):C l:=by
 rw[← List.reverse_reverse l];generalize l.reverse=r
 induction r with
 | nil=>exact h0
 | cons x r ih=>rw[List.reverse_cons];exact h1 _ _ ih
theorem aeg{P:Pl}(ok:dZ P)(s q:Int×Int)(h0:0<=q.1)(h1:q.1<P.rc.length):s.2+P.sw.getD (s.1 - q.1).natAbs 0<=(cT P s q).2:=by
 unfold cT oV;have:=(Ac ok q.1 q.2 (s.2+P.sw.getD (s.1 - q.1).natAbs 0)).1;have hc:=ok.c q.1.toNat (by lia)
 have hl:=ok.ao;have:0<=P.ao / P.rc.getD q.1.toNat 0:=Int.ediv_nonneg (by lia) (by lia)
 dsimp only;lia
theorem RU{P:Pl}(ok:dZ P){s t:Int×Int}(nl:xh P s t)(q:Int×Int)(h0:0<=q.1)(h1:q.1<P.rc.length):(cT P s q).2<=(cT P t q).2:=by
 unfold cT oV;have:=ab8 ok q.1 q.2 (nl q.1 h0 h1);dsimp only;lia
theorem aeh{P:Pl}(ok:dZ P)(p:Nat->Bool)(s:Int×Int)(s0:0<=s.1)(s1:s.1<P.rc.length):∀xs:List (Int×Int),(∀q∈xs,0<=q.1/\q.1<P.rc.length)->xh P (aW P s (iH p xs)) (aW P s xs)/\
  ∀(i k:Nat),((List.range xs.length).filter p)[i]? = some k->((dh P s (iH p xs)).getD i []).getD 3 0<=((dh P s xs).getD k []).getD 3 0/\((dh P s (iH p xs)).getD i []).take 2 = [(xs.getD k (0,0)).1,(xs.getD k (0,0)).2]:=by
 have so:=ok.sw;refine snoc_ind (λ_=>⟨λq _ _=>Int.le_refl _,λi k h=>by simp at h⟩) λxs x ih jx=>?_
 have hx:=jx x (by simp)
 obtain⟨RV,RW⟩:=ih λq hq=>jx q (List.mem_append_left _ hq);have e1:=iX P (n:=P.rc.length) xs s s0 s1 λq hq=>jx q (List.mem_append_left _ hq);have sub:∀q∈iH p xs,0<=q.1/\q.1<(P.rc.length:Int):=λq hq=>by
  obtain⟨k,hk,rfl⟩:=List.mem_map.mp hq;have hk:=List.mem_range.mp (List.mem_filter.mp hk).1;refine jx _ (List.mem_append_left _ ?_);rw[List.getD_eq_getElem?_getD,List.getElem?_eq_getElem hk];exact List.getElem_mem hk
 have e2:=iX P (n:=P.rc.length) (iH p xs) s s0 s1 sub;have ls:(iH p xs).length=((List.range xs.length).filter p).length:=by simp[iH]
 have HG:∀(ys:List (Int×Int)) (y:Int×Int) (k:Nat),k<ys.length->(dh P s (ys++[y])).getD k [] = (dh P s ys).getD k []:=λys y k hk=>by
  rw[sP,List.getD_eq_getElem?_getD,List.getElem?_append_left (by rw[kN];exact hk),← List.getD_eq_getElem?_getD]
 have RX:∀(ys:List (Int×Int)) (y:Int×Int),(dh P s (ys++[y])).getD ys.length [] = nj P (aW P s ys) y:=λys y=>by
  rw[sP,List.getD_eq_getElem?_getD,List.getElem?_append_right (by rw[kN];exact Nat.le_refl _),kN]
  simp
 have RY:∀k,k<xs.length->(xs++[x]).getD k (0,0)=xs.getD k (0,0):=λk hk=>by
  rw[List.getD_eq_getElem?_getD,List.getD_eq_getElem?_getD,List.getElem?_append_left hk]
 have st:=RU ok RV x hx.1 hx.2;rw[aef,sO];rw[List.length_append,List.length_singleton,List.range_succ,List.filter_append];cases hp:p xs.length with
 | true =>
  simp only[if_true];rw[sO];refine⟨λq q0 q1=>?_,λi k h=>?_⟩
  ·show (cT P (aW P s (iH p xs)) x).2+P.sw.getD (x.1 - q).natAbs 0<=(cT P (aW P s xs) x).2+P.sw.getD (x.1 - q).natAbs 0;lia
  ·rw[show List.filter p [xs.length] = [xs.length] by simp[hp]] at h
   by_cases hi:i<((List.range xs.length).filter p).length
   ·rw[List.getElem?_append_left hi] at h;have hk:k<xs.length:=List.mem_range.mp (List.mem_filter.mp (List.mem_of_getElem? h)).1;rw[HG _ _ _ (by rw[ls];exact hi),HG _ _ _ hk,RY k hk]
    exact RW i k h
   ·rw[List.getElem?_append_right (by lia)] at h
    have cO:i=((List.range xs.length).filter p).length:=by
     have:=(List.getElem?_eq_some_iff.mp h).1;simp at this;lia
    rw[cO,Nat.sub_self] at h;have hk:k=xs.length:=by simpa using h.symm
    subst hk;rw[cO,← ls,RX,RX];refine⟨st,?_⟩;rw[List.getD_eq_getElem?_getD,List.getElem?_append_right (Nat.le_refl _),Nat.sub_self]
    rfl
 | false =>
  simp only[Bool.false_eq_true,if_false,List.append_nil];refine⟨λq q0 q1=>?_,λi k h=>?_⟩
  ·have a:=RV x.1 hx.1 hx.2;have b:=aeg ok (aW P s xs) x hx.1 hx.2;have n:=so.len;have t:=so.qB (s:=(aW P s (iH p xs)).1) (x:=x.1) (q:=q) e2.1 e2.2 hx.1 hx.2 q0 q1
   show (aW P s (iH p xs)).2+_<=(cT P (aW P s xs) x).2+P.sw.getD (x.1 - q).natAbs 0;lia
  ·rw[show List.filter p [xs.length] = [] by simp[hp],List.append_nil] at h
   have hk:k<xs.length:=List.mem_range.mp (List.mem_filter.mp (List.mem_of_getElem? h)).1;rw[HG _ _ _ hk,RY k hk];exact RW i k h
theorem aei{P:Pl}(ok:dZ P){s t:Int×Int}(nl:xh P s t)(h0:0<=t.1)(h1:t.1<P.rc.length)(hs:0<=s.1)(AW:s.1<P.rc.length):s.2<=t.2:=by
 have so:=ok.sw;have a:=nl t.1 h0 h1;have len:=so.len;have b:=so.nonneg (j:=(s.1 - t.1).natAbs) (by lia)
 rw[Int.sub_self] at a;have c:=so.z;simp only[Int.natAbs_zero] at a;lia
section
variable{X:Cx}
end
structure qM{α:Type}(lt:α->α->Prop):Prop where
 ir:∀a,¬ lt a a
 tr:∀a b c,lt a b->lt b c->lt a c
 qB:∀a b,lt a b\/a=b\/lt b a
noncomputable def oY{α β:Type}(l:α->α->Prop)(m:β->β->Prop)(x y:α×β):Prop:=l x.1 y.1\/(x.1=y.1/\m x.2 y.2)
theorem qM.prod{α β:Type}{l:α->α->Prop}{m:β->β->Prop}(a:qM l)(b:qM m):qM (oY l m):=by
 refine⟨λx h=>h.elim (a.ir _) λh=>b.ir _ h.2,λx y z h1 h2=>?_,λx y=>?_⟩
 ·rcases h1 with h1 | ⟨e1,h1⟩
  ·rcases h2 with h2 | ⟨e2,h2⟩
   ·exact .inl (a.tr _ _ _ h1 h2)
   ·exact .inl (e2▸h1)
  ·rcases h2 with h2 | ⟨e2,h2⟩
   ·exact .inl (e1▸h2)
   ·exact .inr ⟨e1.trans e2,b.tr _ _ _ h1 h2⟩
 ·rcases a.qB x.1 y.1 with h | h | h
  ·exact .inl (.inl h)
  ·rcases b.qB x.2 y.2 with g | g | g
   ·exact .inl (.inr ⟨h,g⟩)
   ·exact .inr (.inl (Prod.ext h g))
   ·exact .inr (.inr (.inr ⟨h.symm,g⟩))
  ·exact .inr (.inr (.inl h))
theorem RZ:qM (λa b:Int=>a<b):=⟨λa=>Int.lt_irrefl a,λa b c=>Int.lt_trans,λa b=>by rcases Int.lt_trichotomy a b with h | h | h <;> simp[h]⟩
theorem R0:qM (λa b:List Int=>_H.lexLt a b=true):=⟨Ad,Qn,Qo⟩
noncomputable abbrev Nd:=Int×Int×List Int×List Int
noncomputable def ltN:Nd->Nd->Prop:=oY (· < ·) (oY (· < ·) (oY (λa b=>_H.lexLt a b=true) λa b=>_H.lexLt a b=true))
theorem HJ:qM ltN:=RZ.prod (RZ.prod (R0.prod R0))
theorem R1:Ord ltN:=Ord.of HJ.ir HJ.tr HJ.qB
noncomputable instance (a b:Nd):Decidable (ltN a b):=by unfold ltN oY;infer_instance
noncomputable def fK(H:Hp)(a:Addr)(t:Nd):Prop:=∃p q,H a=some (.tup [.int t.1,.int t.2.1,.ref p,.ref q])/\H p=some (.tup (t.2.2.1.map V.int))/\H q=some (.tup (t.2.2.2.map V.int))
theorem fK.same{H H':Hp}(s:aj H H'){a:Addr}{t:Nd}(h:fK H a t):fK H' a t:=by
 obtain⟨p,q,h1,h2,h3⟩:=h;exact⟨p,q,s _ _ h1,s _ _ h2,s _ _ h3⟩
theorem fK.eG{H:Hp}{l a:Addr}{xs ys:List V}{t:Nd}(hl:H l=some (.lst xs))(h:fK H a t):fK (upd H l (.lst ys)) a t:=by
 obtain⟨p,q,h1,h2,h3⟩:=h;have g:∀ {c:Addr} {us:List V},H c=some (.tup us)->upd H l (.lst ys) c=some (.tup us):=λe=>by rw[aI (λz=>by rw[z,hl] at e;cases e)];exact e
 exact⟨p,q,g h1,g h2,g h3⟩
section
variable{X:Cx}{pins:List (Addr×Obj)}{σ:St}{H:Hp}{s:Shared}
theorem R3(I:Inv X pins σ H s){a:Addr}{t:Nd}(h:fK H a t):∃p q k1 k2,H p=some (.tup (t.2.2.1.map V.int))/\H q=some (.tup (t.2.2.2.map V.int))/\IsTup s.heap a #[.int t.1 k1,.int t.2.1 k2,.ref p,.ref q]:=by
 obtain⟨p,q,h1,h2,h3⟩:=h;obtain⟨aC,r1,q1,_⟩:=I.tuple (aL.of (K:=X.K) h1);cases r1 with
 | cons w1 r1 =>
 cases r1 with
 | cons w2 r1 =>
 cases r1 with
 | cons w3 r1 =>
 cases r1 with
 | cons w4 r1 =>
 cases r1;obtain⟨k1,rfl⟩:=w1;obtain⟨k2,rfl⟩:=w2;cases w3;cases w4;exact⟨p,q,k1,k2,h2,h3,q1⟩
theorem aej(I:Inv X pins σ H s){A:Around}(hu:A.units+3<cLine){a b:Addr}{t u:Nd}(ha:fK H a t)(hb:fK H b u)(prog:Program)(w:World){Q E:Value->Shared->Prop}(h:Q (.bool (decide (ltN t u))) s) :
  wpAny (model prog w) A (richCompare .Lt (.ref a) (.ref b)) Q E s:=by
 obtain⟨p,p',k1,k2,hp,nI,ip⟩:=R3 I ha;obtain⟨q,q',k3,k4,hq,iS,iq⟩:=R3 I hb;have lx:∀ {c d:Addr} {ns ms:List Int},H c=some (.tup (ns.map V.int))->H d=some (.tup (ms.map V.int))->∀(prog:Program) (w:World) (E Q:Value->Shared->Prop),Q (.bool (_H.lexLt ns ms)) s->wpAny (model prog w) A.in1 (richCompare .Lt (.ref c) (.ref d)) Q E s:=λhc hd prog w E Q hQ=>by
  obtain⟨aC,r1,q1,_⟩:=I.tuple (aL.of (K:=X.K) hc);obtain⟨fB,r2,q2,_⟩:=I.tuple (aL.of (K:=X.K) hd);exact _H.aaz q1 q2 (intsAre_of r1) (intsAre_of r2) (by show A.units+1<cLine;lia) hQ
 have hd:qC A.in1 s ((#[Value.int t.1 k1,.int t.2.1 k2,.ref p,.ref p']).toList.zip (#[Value.int u.1 k3,.int u.2.1 k4,.ref q,.ref q']).toList)
   [(t.1 == u.1,decide (t.1<u.1)),(t.2.1 == u.2.1,decide (t.2.1<u.2.1)),(decide (t.2.2.1=u.2.2.1),_H.lexLt t.2.2.1 u.2.2.1),(decide (t.2.2.2=u.2.2.2),_H.lexLt t.2.2.2 u.2.2.2)] :=
  .cons (SeqAt.EqAt.int_int _ _ _ _) (λ_ prog w E Q hq=>_H.FO _ _ _ _ _ _ prog w E Q hq) (.cons (SeqAt.EqAt.int_int _ _ _ _) (λ_ prog w E Q hq=>_H.FO _ _ _ _ _ _ prog w E Q hq)
   (.cons (Qt I (by show A.units+1+1<cLine;lia) hp hq) (λ_=>lx hp hq) (.cons (Qt I (by show A.units+1+1<cLine;lia) nI iS) (λ_=>lx nI iS) .nil)))
 refine acf ip iq rfl (by lia) hd ?_
 have e:kP [(t.1 == u.1,decide (t.1<u.1)),(t.2.1 == u.2.1,decide (t.2.1<u.2.1)),(decide (t.2.2.1=u.2.2.1),_H.lexLt t.2.2.1 u.2.2.1),(decide (t.2.2.2=u.2.2.2),_H.lexLt t.2.2.2 u.2.2.2)] = decide (ltN t u):=by
  simp only[kP,ltN,oY];have i1:=Ad u.2.2.1;have i2:=Ad u.2.2.2;by_cases e1:t.1=u.1
  ·by_cases e2:t.2.1=u.2.1
   ·by_cases e3:t.2.2.1=u.2.2.1
    ·by_cases e4:t.2.2.2=u.2.2.2
     ·simp[e1,e2,e3,e4,i1,i2]
     ·simp[e1,e2,e3,e4,i1]
    ·simp[e1,e2,e3]
   ·simp[e1,e2]
  ·simp[e1]
 rw[e];exact h
end
section
variable{X:Cx}
theorem HK(hu:X.A.units+16<cLine):cu X (compareOp .Lt) (λx y H Q=>∃a b t u,x = .ref a/\y = .ref b/\fK H a t/\fK H b u/\Q (.bl (decide (ltN t u))) H):=by
 rintro pins s σ H x y v u Q I rx ry ⟨a,b,t,t',rfl,rfl,ha,hb,q⟩;cases rx;cases ry;exact aej I (by lia) ha hb X.prog X.w ⟨.bl (decide (ltN t t')),H,I,rfl,q⟩
noncomputable def AX(K:PySem.W.Frag):R2:=λx y H Q=>∃a b xs ys,x = .ref a/\y = .ref b/\aL K H a xs/\H b=some (.tup ys)/\ys≠[]/\xs.length+ys.length<=sizeLine/\∀p H',aj H H'->H' p=some (.tup (xs++ys))->Q (.ref p) H'
theorem aek:cu X (binaryOp .Add) (AX X.K):=by
 rintro pins s σ H x y v u Q I rx ry ⟨a,b,xs,ys,rfl,rfl,ha,hb,hy,hz,q⟩;cases rx;cases ry;by_cases hx:xs = []
 ·obtain⟨aC,r1,p1,_⟩:=I.tuple ha;obtain⟨fB,r2,p2,_⟩:=I.tuple (aL.of (K:=X.K) hb);obtain⟨⟨cls,dd,data,sl⟩,ho,hc,n,hd⟩:=id p1;obtain⟨⟨Pk,lT,data2,jE⟩,fM,jo,n2,hd2⟩:=id p2;simp only at hc hd jo hd2;subst hc hd jo hd2;exact concat_meets ⟨_,ho,rfl⟩ ⟨_,fM,rfl⟩ noFill_tuple_add seq_tuple_add PySem.F.slot_tuple_add PySem.F.entry_tuple_add (PySem.F.args_tuple_add_2 _ _)
   (tuple_addW0 a b aC.toArray fB.toArray n n2 dd lT sl jE (by simp[r1.zJ.mpr hx])) ⟨ho,fM,⟨.ref b,H,I,rfl,q b H (λ_ _ e=>e) (by rw[hx];exact hb)⟩⟩
 ·exact zK pins s σ H (.ref a) (.ref b) _ _ Q I rfl rfl ⟨a,b,xs,ys,rfl,rfl,ha,aL.of hb,hx,hz,λz=>absurd z hy,λ_ p hp=>q p _ (aj.put hp) aD⟩
end
noncomputable abbrev Ms:=List (Addr×Nd)
noncomputable def mV(zs:Ms):List V:=zs.map λz=>V.ref z.1
noncomputable def gr(H:Hp)(zs:Ms):Prop:=∀z,z∈zs->fK H z.1 z.2
theorem g9(zs:Ms):(mV zs).length=zs.length:=by simp[mV]
theorem R4{zs:Ms}{k:Nat}(h:k<zs.length):(mV zs)[k]? = some (.ref zs[k].1):=by simp[mV,h]
theorem tH(zs:Ms)(k:Nat)(z:Addr×Nd):(mV zs).set k (.ref z.1)=mV (zs.set k z):=by simp[mV,List.map_set]
theorem gr.eG{H:Hp}{l:Addr}{xs ys:List V}{zs:Ms}(hl:H l=some (.lst xs))(h:gr H zs):gr (upd H l (.lst ys)) zs:=λz hz=>(h z hz).eG hl
theorem gr.same{H H':Hp}(s:aj H H'){zs:Ms}(h:gr H zs):gr H' zs:=λz hz=>(h z hz).same s
theorem R5{n:Nat}(h:n<20000):n<sizeLine:=by rw[lW];lia
noncomputable def fc(a b:Addr×Nd):Prop:=ltN a.2 b.2
noncomputable instance (a b:Addr×Nd):Decidable (fc a b):=by unfold fc;infer_instance
theorem qN:Ord fc:=⟨λh=>R1.as h,λh1 h2=>R1.tr h1 h2⟩
noncomputable def fm(zs:Ms):Nat->Addr×Nd:=λi=>zs.getD i (0,(0,0,[],[]))
theorem gK{zs:Ms}{k:Nat}(h:k<zs.length):fm zs k=zs[k]:=by simp[fm,h]
theorem tK{zs:Ms}{k:Nat}(h:k<zs.length)(x:Addr×Nd):fm (zs.set k x)=put (fm zs) k x:=by
 funext i
 by_cases e:i=k
 ·subst e;rw[jv,gK (by simpa using h)]
  simp
 ·rw[eK e];simp[fm,List.getElem?_set_ne (λz=>e z.symm)]
structure eN(H:Hp)(l:Addr)(zs:Ms):Prop where
 l:H l=some (.lst (mV zs))
 z:gr H zs
 n:zs.length<=20000
section
variable{H H':Hp}{l a:Addr}{zs ys:Ms}{t:Nd}{k:Nat}
theorem eN.get(hk:k<zs.length):dR (mV zs) (k:Int)=some (.ref zs[k].1):=oM (R4 hk)
theorem eN.th(h:eN H l zs)(hk:k<zs.length):fK H zs[k].1 zs[k].2:=h.z _ (List.getElem_mem hk)
theorem eN.set(h:eN H l zs)(hy:gr H ys)(n:ys.length<=20000):eN (upd H l (.lst (mV ys))) l ys:=⟨aD,hy.eG h.l,n⟩
theorem eN.same(s:aj H H')(h:eN H l zs):eN H' l zs:=⟨s _ _ h.l,h.z.same s,h.n⟩
theorem R6(h:gr H zs){x:Addr×Nd}(hx:fK H x.1 x.2):gr H (zs.set k x):=λz hz=>by
 rcases List.mem_or_eq_of_mem_set hz with q | q
 ·exact h z q
 ·rw[q];exact hx
theorem R7{zs:Ms}{x:Addr×Nd}{i:Nat}(h:i<zs.length):fm (zs++[x]) i=fm zs i:=by
 rw[gK h,gK (by simp;lia),List.getElem_append_left h]
theorem ael{zs:Ms}{x:Addr×Nd}(h:gW fc zs.length (fm zs)):Up fc (zs++[x]).length zs.length (fm (zs++[x])) x:=by
 have g_:∀i,i<(zs++[x]).length->1<=i->par i≠zs.length:=λi hi h1=>by
  rw[List.length_append,List.length_singleton] at hi;unfold par;lia
 refine⟨λi h1 hn hk=>?_,λ_ i hn h1 e=>absurd e (g_ i hn h1),λi h1 hn e=>absurd e (g_ i hn h1)⟩;rw[List.length_append,List.length_singleton] at hn;have pl:=kO h1;rw[eK hk,eK (by lia),R7 (by lia),R7 (by lia)]
 exact h i h1 (by lia)
theorem aem{cI:Ms}(p:cI.Perm zs)(h:gr H zs):gr H cI:=λz hz=>h z (p.mem_iff.mp hz)
theorem R8{x:Addr×Nd}(hx:fK H x.1 x.2)(h:gr H zs):gr H (x::zs):=λz hz=>by
 rcases List.mem_cons.mp hz with e | e
 ·rw[e];exact hx
 ·exact h z e
theorem aen(zs:Ms)(x:Addr×Nd):mV zs++[V.ref x.1] = mV (zs++[x]):=by simp[mV]
theorem aeo(zs:Ms):(mV zs).dropLast=mV zs.dropLast:=by simp[mV,List.map_dropLast]
noncomputable def fY(zs:Ms)(k:Nat):Nat:=if 2*k+1+1<zs.length/\fc (fm zs (2*k+1+1)) (fm zs (2*k+1)) then 2*k+1+1 else 2*k+1
theorem aep(zs:Ms)(k:Nat):oX fc zs.length k (fY zs k) (fm zs):=by
 unfold fY;split
 ·exact(oX.of qN).1 (by assumption)
 ·exact(oX.of qN).2 (by assumption)
theorem aer(zs:Ms)(k:Nat):k<fY zs k/\fY zs k<=2*k+2:=by
 unfold fY;split <;> lia
noncomputable def aes:Sp:=λvs H Q _=>∃(l:Addr) (zs:Ms) (k:Nat),vs = [.ref l,.int (k:Int)]/\eN H l zs/\k<=20000/\Q (.int (fY zs k:Nat)) H
noncomputable def aet:Sp:=λvs H Q _=>∃(l a:Addr) (t:Nd) (zs:Ms),vs = [.ref l,.ref a]/\eN H l zs/\fK H a t/\0<zs.length/\Down fc zs.length 0 (fm zs) (a,t)/\
 ∀cI:Ms,cI.Perm ((a,t)::zs.eraseIdx 0)->gW fc cI.length (fm cI)->Q .aP (upd H l (.lst (mV cI)))
noncomputable def aeu:Sp:=λvs H Q _=>∃(l:Addr) (zs:Ms),vs = [.ref l]/\eN H l zs/\gW fc zs.length (fm zs)/\(zs = []->Q .aP H)/\
 ∀(z:Addr×Nd) (cI:Ms),zs.Perm (z::cI)->(∀y,y∈zs->¬ ltN y.2 z.2)->gW fc cI.length (fm cI)->Q (.ref z.1) (upd H l (.lst (mV cI)))
noncomputable def aev:Sp:=λvs H Q _=>∃(l a:Addr) (t:Nd) (zs:Ms),vs = [.ref l,.ref a]/\eN H l zs/\zs.length<20000/\fK H a t/\gW fc zs.length (fm zs)/\
 ∀cI:Ms,cI.Perm ((a,t)::zs)->gW fc cI.length (fm cI)->Q .aP (upd H l (.lst (mV cI)))
theorem aew{z:Addr×Nd}{r:Ms}{u:Addr×Nd}(h:gW fc (z::(r++[u])).length (fm (z::(r++[u])))):Down fc (z::r).length 0 (fm (z::r)) u:=by
 refine⟨λi hi hn hp=>?_,λh0=>absurd h0 (by lia)⟩
 have pl:=kO hi;have:=h i hi (by simp at hn ⊢;lia)
 rw[eK (by lia),eK hp]
 have e:∀j,j<(z::r).length->fm (z::(r++[u])) j=fm (z::r) j:=λj hj=>by
  rw[gK hj,gK (by simp at hj ⊢;lia)]
  rw[← List.getElem_append_left (bs:=[u]) hj]
  rfl
 rwa [e i hn,e _ (by lia)] at this
theorem aex{zs:Ms}(h:gW fc zs.length (fm zs))(h0:0<zs.length):∀y,y∈zs->¬ ltN y.2 (zs[0]).2:=by
 intro y hy;obtain⟨j,hj,rfl⟩:=List.mem_iff_getElem.mp hy;have:=h.least qN j hj;rwa [gK hj,gK h0] at this
end
noncomputable def bK(ds:List Dr)(bg:List Int):List Dr:=ds.filter λd => !decide (d.n∈bg)
noncomputable def fP(ds:List Dr)(bg:List Int):List Dr:=(bK ds bg).filter λd=>(k8 ds d).all λo=>decide (o∈bg)
inductive Reach (P:Pl) (ds:List Dr) (s:Int×Int):List Int->(Int×Int)->Prop
 | nil:Reach P ds s [] s
 | snoc {bg:List Int} {st:Int×Int} {d:Dr} (h:Reach P ds s bg st) (hd:d∈fP ds bg):Reach P ds s (bg++[d.n]) (aW P st d.c)
theorem tL{ds:List Dr}{bg:List Int}{d:Dr}:d∈bK ds bg↔d∈ds/\d.n∉bg:=by simp[bK]
theorem pC{ds:List Dr}{bg:List Int}{d:Dr}:d∈fP ds bg↔(d∈ds/\d.n∉bg)/\∀o∈k8 ds d,o∈bg:=by
 unfold fP;rw[List.mem_filter,tL];simp
theorem aey{ds:List Dr}{d:Dr}{o:Int}(h:o∈k8 ds d):∃e∈ds,e.n=o/\e.n<d.n:=by
 obtain⟨e,he,rfl⟩:=List.mem_map.mp h;obtain⟨h1,h2⟩:=List.mem_filter.mp he;unfold jS at h2;simp only[Bool.and_eq_true,decide_eq_true_eq] at h2;exact⟨e,h1,rfl,h2.1⟩
theorem HL(ds:List Dr):bK ds [] = ds:=by simp[bK]
theorem aez(ds:List Dr)(bg:List Int)(n:Int):bK ds (bg++[n])=(bK ds bg).filter λd => !decide (d.n=n):=by
 unfold bK;rw[List.filter_filter];congr 1;funext d;by_cases h:d.n∈bg <;> by_cases h2:d.n=n <;> simp[h,h2]
theorem aeA{ds:List Dr}(nd:(ds.map (·.n)).Nodup){d:Dr}(hd:d∈ds):∃as bs,ds=as++d::bs/\(ds.filter λx => !decide (x.n=d.n))=as++bs:=by
 obtain⟨as,bs,rfl⟩:=List.append_of_mem hd;refine⟨as,bs,rfl,?_⟩;rw[List.map_append,List.map_cons,List.nodup_append] at nd;obtain⟨n1,n2,n3⟩:=nd;rw[List.nodup_cons] at n2;rw[List.filter_append,List.filter_cons];simp only[decide_true,Bool.not_true,Bool.false_eq_true,if_false];rw[List.filter_eq_self.mpr,List.filter_eq_self.mpr]
 ·intro x hx;simp only[Bool.not_eq_true',decide_eq_false_iff_not];exact λe=>n2.1 (e▸List.mem_map_of_mem hx)
 ·intro x hx;simp only[Bool.not_eq_true',decide_eq_false_iff_not];exact λe=>n3 x.n (List.mem_map_of_mem hx) d.n (List.mem_cons_self ..) e
theorem aeB{ds:List Dr}(nd:(ds.map (·.n)).Nodup)(bg:List Int):((bK ds bg).map (·.n)).Nodup:=(List.Sublist.map _ List.filter_sublist).nodup nd
theorem R9{ds:List Dr}(nd:(ds.map (·.n)).Nodup){bg:List Int}{d:Dr}(hd:d∈bK ds bg):(bK ds bg).Perm (d::bK ds (bg++[d.n])):=by
 obtain⟨as,bs,e1,e2⟩:=aeA (aeB nd bg) hd;rw[aez,e2,e1];exact List.perm_middle
theorem xj{ds:List Dr}(nd:(ds.map (·.n)).Nodup){bg:List Int}{d:Dr}(hd:d∈bK ds bg):(bK ds bg).length=(bK ds (bg++[d.n])).length+1:=by
 have:=(R9 nd hd).length_eq;simpa using this
theorem tM{ds:List Dr}{bg:List Int}{d:Dr}(h:d∈fP ds bg):d∈bK ds bg:=(List.mem_filter.mp h).1
theorem aeC{ds:List Dr}{bg:List Int}(h:bK ds bg≠[]):fP ds bg≠[]:=by
 have low:∀l:List Dr,l≠[]->∃d∈l,∀e∈l,d.n<=e.n:=by
  intro l
  induction l with
  | nil=>intro h;exact absurd rfl h
  | cons x l ih =>
   intro _;by_cases hl:l = []
   ·subst hl;exact⟨x,List.mem_cons_self ..,λe he=>by rw[List.mem_singleton.mp he];exact Int.le_refl _⟩
   ·obtain⟨d,hd,h2⟩:=ih hl;by_cases hx:x.n<=d.n
    ·exact⟨x,List.mem_cons_self ..,λe he=>by
      rcases List.mem_cons.mp he with e1 | e1
      ·rw[e1];exact Int.le_refl _
      ·have:=h2 e e1;lia⟩
    ·exact⟨d,List.mem_cons_of_mem _ hd,λe he=>by
      rcases List.mem_cons.mp he with e1 | e1
      ·rw[e1];lia
      ·exact h2 e e1⟩
 obtain⟨d,hd,hl⟩:=low _ h;have:d∈fP ds bg:=by
  refine pC.mpr ⟨tL.mp hd,λo ho=>?_⟩;obtain⟨e,he,rfl,lt⟩:=aey ho;by_cases hb:e.n∈bg
  ·exact hb
  ·have:=hl e (tL.mpr ⟨he,hb⟩);lia
 exact List.ne_nil_of_mem this
theorem AY(P:Pl):∀(a b:List (Int×Int)) (s:Int×Int),aW P s (a++b)=aW P (aW P s a) b
 | [],_,_=>rfl
 | q::a,b,s=>AY P a b (cT P s q)
theorem Reach.pre{P:Pl}{ds:List Dr}{s:Int×Int}:∀ {cA:List Int} {bZ:Int×Int},Reach P ds s cA bZ->∀ {bg:List Int},bg <+: cA->∃st,Reach P ds s bg st/\Reach P ds s cA bZ:=by
 intro cA bZ h
 induction h with
 | nil=>intro bg hp;rw[List.prefix_nil.mp hp];exact⟨s,.nil,.nil⟩
 | snoc h hd ih =>
  intro bg hp;rcases List.prefix_concat_iff.mp hp with e | e
  ·subst e;exact⟨_,h.snoc hd,h.snoc hd⟩
  ·obtain⟨st,h1,_⟩:=ih e;exact⟨st,h1,h.snoc hd⟩
theorem R_:∀ {ds:List Dr},(ds.map (·.n)).Nodup->∀ {d e:Dr},d∈ds->e∈ds->d.n=e.n->d=e
 | [],_,_,_,h,_,_=>nomatch h
 | x::ds,nd,d,e,h1,h2,h=>by
  rw[List.map_cons,List.nodup_cons] at nd;rcases List.mem_cons.mp h1 with a | a <;> rcases List.mem_cons.mp h2 with b | b
  ·rw[a,b]
  ·exact absurd (a▸h▸List.mem_map_of_mem b) nd.1
  ·exact absurd (b▸h▸List.mem_map_of_mem a) nd.1
  ·exact R_ nd.2 a b h
theorem Reach.uniq{P:Pl}{ds:List Dr}{s:Int×Int}(nd:(ds.map (·.n)).Nodup):∀ {bg:List Int} {st bZ:Int×Int},Reach P ds s bg st->Reach P ds s bg bZ->st=bZ:=by
 intro bg st bZ h
 induction h generalizing bZ with
 | nil =>
  intro h';generalize hb:([]:List Int)=b at h';cases h' with
  | nil=>rfl
  | snoc=>simp at hb
 | @snoc b1 qO d h hd ih =>
  intro h';generalize hb:b1++[d.n] = b at h';cases h' with
  | nil=>simp at hb
  | @snoc b2 bV d2 h2 hd2 =>
   obtain⟨e1,e2⟩:=List.append_inj' hb rfl;subst e1;rw[ih h2];have e3:d.n=d2.n:=by simpa using e2
   rw[R_ nd (pC.mp hd).1.1 (pC.mp hd2).1.1 e3]
theorem Reach.ext{P:Pl}{ds:List Dr}{s:Int×Int}(nd:(ds.map (·.n)).Nodup){bg:List Int}{st:Int×Int}(h0:Reach P ds s bg st):∀ {cA:List Int} {bZ:Int×Int},Reach P ds s cA bZ->bg <+: cA->∃xs:List Dr,cA=bg++xs.map (·.n)/\bZ=aW P st (xs.flatMap (·.c))/\(bK ds bg).Perm (xs++bK ds cA):=by
 intro cA bZ h
 induction h with
 | nil =>
  intro hp;have e:=List.prefix_nil.mp hp;subst e;rw[Reach.uniq nd h0 .nil];exact⟨[],rfl,rfl,.refl _⟩
 | @snoc b1 qO d h hd ih =>
  intro hp;rcases List.prefix_concat_iff.mp hp with e | e
  ·subst e;rw[Reach.uniq nd h0 (h.snoc hd)];exact⟨[],by simp,rfl,.refl _⟩
  ·obtain⟨xs,e1,e2,e3⟩:=ih e;refine⟨xs++[d],by rw[e1];simp,?_,?_⟩
   ·rw[e2,List.flatMap_append,AY];simp
   ·rw[List.append_assoc];exact e3.trans ((R9 nd (tM hd)).append_left xs)
theorem aeD{α:Type}{f:α->Int}{xs ys:List α}(h:xs.Perm ys):(xs.map f).sum=(ys.map f).sum:=by
 induction h with
 | nil=>rfl
 | cons x _ ih=>simp[ih]
 | swap x y l=>simp;lia
 | trans _ _ h1 h2=>exact h1.trans h2
theorem aeE(P:Pl)(a b:List (Int×Int)):eL P (a++b)=eL P a+eL P b:=by simp[eL]
theorem Sa(P:Pl):∀xs:List Dr,eL P (xs.flatMap (·.c))=(xs.map λd=>eL P d.c).sum
 | []=>rfl
 | d::xs=>by rw[List.flatMap_cons,aeE,Sa P xs];simp
theorem Sd{P:Pl}(ok:dZ P):∀ {cz:List (Int×Int)},(∀q∈cz,0<=q.1/\q.1<P.rc.length)->0<=eL P cz
 | [],_=>by simp[eL]
 | q::cz,h=>by
  have ih:=Sd ok (cz:=cz) λx hx=>h x (List.mem_cons_of_mem _ hx);obtain⟨q0,q1⟩:=h q (List.mem_cons_self ..);have:=ok.c q.1.toNat (by lia)
  have:=Int.ediv_nonneg (a:=P.ao) (b:=P.rc.getD q.1.toNat 0) (by have:=ok.ao;lia) (by lia)
  unfold eL at *
  rw[List.map_cons,List.sum_cons];lia
theorem HM{P:Pl}(ok:dZ P):∀ {cz:List (Int×Int)} {s:Int×Int},(∀q∈cz,0<=q.1/\q.1<P.rc.length)->s.1<P.rc.length->0<=s.1->s.2+eL P cz<=(aW P s cz).2
 | [],s,_,_,_=>by simp[eL,aW]
 | q::cz,s,h,h1,h0=>by
  obtain⟨q0,q1⟩:=h q (List.mem_cons_self ..);have ih:=HM ok (cz:=cz) (s:=cT P s q) (λx hx=>h x (List.mem_cons_of_mem _ hx)) q1 q0;have b:=Ac ok q.1 q.2 (s.2+P.sw.getD (s.1 - q.1).natAbs 0);have w:=ok.sw.nonneg (j:=(s.1 - q.1).natAbs) (by have:=ok.sw.len;lia)
  have e:(cT P s q).2=iD P q.1 q.2 (s.2+P.sw.getD (s.1 - q.1).natAbs 0)+P.ao / P.rc.getD q.1.toNat 0:=rfl;have e2:eL P (q::cz)=P.ao / P.rc.getD q.1.toNat 0+eL P cz:=by simp[eL]
  rw[aW,e2];lia
theorem Se{P:Pl}(ok:dZ P):∀ {cz:List (Int×Int)} {s t:Int×Int},(∀q∈cz,0<=q.1/\q.1<P.rc.length)->xh P s t->xh P (aW P s cz) (aW P t cz)
 | [],s,t,_,nl=>nl
 | q::cz,s,t,h,nl=>by
  obtain⟨q0,q1⟩:=h q (List.mem_cons_self ..);rw[aW,aW];refine Se ok (λx hx=>h x (List.mem_cons_of_mem _ hx)) λr r0 r1=>?_;have:=RU ok nl q q0 q1
  show (cT P s q).2+P.sw.getD (q.1 - r).natAbs 0<=(cT P t q).2+P.sw.getD (q.1 - r).natAbs 0;lia
theorem aeF(xs:List (Int×Int)):iH (λ_=>false) xs = []:=by simp[iH]
theorem aeG{P:Pl}(ok:dZ P){s:Int×Int}(s0:0<=s.1)(s1:s.1<P.rc.length){a c b:List (Int×Int)}(ha:∀q∈a,0<=q.1/\q.1<P.rc.length)(hc:∀q∈c,0<=q.1/\q.1<P.rc.length)(hb:∀q∈b,0<=q.1/\q.1<P.rc.length) :
  (aW P s c).2<=(aW P s (a++(c++b))).2:=by
 have n1:=(aeh ok (λ_=>false) s s0 s1 a ha).1;rw[aeF] at n1;have n2:=Se ok hc n1;have i0:=iX P (n:=P.rc.length) a s s0 s1 ha;have i1:=iX P (n:=P.rc.length) c (aW P s a) i0.1 i0.2 hc;have i2:=iX P (n:=P.rc.length) c s s0 s1 hc;have l:=aei ok n2 i1.1 i1.2 i2.1 i2.2;have p:=HM ok hb i1.2 i1.1;have z:=Sd ok hb;rw[AY,AY];have l:(aW P s c).2<=(aW P (aW P s a) c).2:=l;lia
theorem Sf{f:List (Int×Int)->Int}{M:Int}:∀ {cs:List (List (Int×Int))} {x:Int},x<=M->(∀c∈cs,f c<=M)->cs.foldl (λx c=>max x (f c)) x<=M
 | [],_,h,_=>h
 | c::cs,x,h,g=>by
  rw[List.foldl_cons];have:=g c (List.mem_cons_self ..);exact Sf (by lia) λd hd=>g d (List.mem_cons_of_mem _ hd)
theorem aeH{P:Pl}(ok:dZ P){ds:List Dr}(hd:∀d∈ds,∀q∈d.c,0<=q.1/\q.1<P.rc.length){s st:Int×Int}(nd:(ds.map (·.n)).Nodup){bg:List Int}(h0:Reach P ds s bg st)(r0:0<=st.1)(r1:st.1<P.rc.length){cA:List Int}{bZ:Int×Int}(h:Reach P ds s cA bZ)(hp:bg <+: cA)(hf:bK ds cA = []) :
  pB P st.1 st.2 ((bK ds bg).map (·.c))<=bZ.2:=by
 obtain⟨xs,e1,e2,e3⟩:=h0.ext nd h hp;rw[hf,List.append_nil] at e3;have hx:∀d∈xs,∀q∈d.c,0<=q.1/\q.1<P.rc.length:=λd eF=>hd d (tL.mp (e3.mem_iff.mpr eF)).1;have fl:∀ys:List Dr,(∀d∈ys,d∈xs)->∀q∈ys.flatMap (·.c),0<=q.1/\q.1<(P.rc.length:Int):=λys hy q hq=>by
  obtain⟨d,nq,hd2⟩:=List.mem_flatMap.mp hq;exact hx d (hy d nq) q hd2
 unfold pB;rw[e2];refine Sf ?_ λc hc=>?_
 ·rw[List.map_map,show (bK ds bg).map (eL P ∘ λd=>d.c)=(bK ds bg).map (λd=>eL P d.c) from rfl,aeD e3,← Sa];exact HM ok (fl xs λ_ h=>h) r1 r0
 ·obtain⟨d,xm,rfl⟩:=List.mem_map.mp hc;obtain⟨as,bs,e4⟩:=List.append_of_mem (e3.mem_iff.mp xm);have:=aeG ok r0 r1 (fl as λx hx=>by rw[e4];simp[hx]) (hx d (e3.mem_iff.mp xm)) (fl bs λx hx=>by rw[e4];simp[hx])
  rw[e4,List.flatMap_append,List.flatMap_cons];exact this
theorem Reach.len{P:Pl}{ds:List Dr}(nd:(ds.map (·.n)).Nodup){s:Int×Int}:∀ {bg:List Int} {st:Int×Int},Reach P ds s bg st->bg.length+(bK ds bg).length=ds.length:=by
 intro bg st h
 induction h with
 | nil=>rw[HL];simp
 | snoc h hd ih =>
  have:=xj nd (tM hd);rw[List.length_append,List.length_singleton];lia
theorem Reach.xq{P:Pl}{ds:List Dr}(hd:∀d∈ds,∀q∈d.c,0<=q.1/\q.1<(P.rc.length:Int)){s:Int×Int}(s0:0<=s.1)(s1:s.1<P.rc.length):∀ {bg:List Int} {st:Int×Int},Reach P ds s bg st->0<=st.1/\st.1<P.rc.length:=by
 intro bg st h
 induction h with
 | nil=>exact⟨s0,s1⟩
 | @snoc b1 qO d h eF ih=>exact iX P (n:=P.rc.length) d.c qO ih.1 ih.2 (hd d (pC.mp eF).1.1)
theorem Reach.last{P:Pl}{ds:List Dr}{s:Int×Int}(nd:(ds.map (·.n)).Nodup){bg:List Int}{n:Int}{st bZ:Int×Int}(h:Reach P ds s (bg++[n]) bZ)(h0:Reach P ds s bg st):∃d∈fP ds bg,d.n=n/\bZ=aW P st d.c:=by
 generalize hb:bg++[n] = b at h;cases h with
 | nil=>simp at hb
 | @snoc b2 bV d2 h2 hd2 =>
  obtain⟨e1,e2⟩:=List.append_inj' hb rfl;subst e1;exact⟨d2,hd2,by simpa using e2.symm,by rw[Reach.uniq nd h2 h0]⟩
noncomputable def c7(P:Pl)(ds:List Dr)(bg:List Int)(st:Int×Int):Nd:=(pB P st.1 st.2 ((bK ds bg).map (·.c)),((bK ds bg).length:Int),bg,[st.1,st.2])
noncomputable def eX:Nat->Nat
 | 0=>1
 | k+1=>1+(k+1)*eX k
theorem Sg:∀ {k n:Nat},k<=n->eX k<=eX n:=by
 have one:∀n,eX n<=eX (n+1):=λn=>by
  rw[eX,Nat.add_mul];lia
 intro k n h
 induction h with
 | refl=>exact Nat.le_refl _
 | step _ ih=>exact Nat.le_trans ih (one _)
theorem Sh:∀k,1<=eX k
 | 0=>Nat.le_refl _
 | k+1=>by rw[eX];lia
noncomputable def fL(ms:List Nd):Nat:=(ms.map λt=>eX t.2.1.toNat).sum
theorem Si{a b:List Nd}(h:a.Perm b):fL a=fL b:=by
 unfold fL
 induction h with
 | nil=>rfl
 | cons x _ ih=>simp[ih]
 | swap x y l=>simp;lia
 | trans _ _ h1 h2=>exact h1.trans h2
theorem Sj:∀ms:List Nd,ms.length<=fL ms
 | []=>Nat.le_refl _
 | t::ms=>by
  have:=Sj ms;have:=Sh t.2.1.toNat;unfold fL at *
  rw[List.map_cons,List.sum_cons,List.length_cons];lia
theorem Sk(a b:List Nd):fL (a++b)=fL a+fL b:=by simp[fL]
noncomputable def tN(P:Pl)(ds:List Dr)(bg:List Int)(st:Int×Int):List Nd:=(fP ds bg).map λd=>c7 P ds (bg++[d.n]) (aW P st d.c)
theorem aeI{P:Pl}{ds:List Dr}(nd:(ds.map (·.n)).Nodup){bg:List Int}{st:Int×Int}(h:bK ds bg≠[]):fL (tN P ds bg st)<eX (bK ds bg).length:=by
 obtain⟨k,hk⟩:∃k,(bK ds bg).length=k+1:=by
  cases e:bK ds bg with
  | nil=>exact absurd e h
  | cons x l=>exact⟨l.length,rfl⟩
 have all:∀l:List Dr,(∀d∈l,d∈fP ds bg)->fL (l.map λd=>c7 P ds (bg++[d.n]) (aW P st d.c))=l.length*eX k:=by
  intro l
  induction l with
  | nil=>intro _;simp[fL]
  | cons d l ih =>
   intro hl;have:=xj nd (tM (hl d (List.mem_cons_self ..)));have ih:=ih λe he=>hl e (List.mem_cons_of_mem _ he);unfold fL at *
   rw[List.map_cons,List.map_cons,List.sum_cons,ih,List.length_cons]
   show eX ((bK ds (bg++[d.n])).length:Int).toNat+_=_;rw[Int.toNat_natCast,show (bK ds (bg++[d.n])).length=k by lia,Nat.add_mul];lia
 have e:=all (fP ds bg) λ_ h=>h;unfold tN;rw[e,hk,eX];have l:(fP ds bg).length<=k+1:=by rw[← hk];exact List.length_filter_le _ _
 have:=Nat.mul_le_mul_right (eX k) l;lia
structure mw(P:Pl)(ds:List Dr)(s:Int×Int)(t:Nd)(hp:List Nd):Prop where
 nd:∀u∈t::hp,∃bg st,Reach P ds s bg st/\u=c7 P ds bg st
 Sl:∀cA bZ,Reach P ds s cA bZ->bK ds cA = []->∃u∈t::hp,u.2.2.1 <+: cA
 low:∀u∈hp,¬ ltN u t
theorem mw.start(P:Pl)(ds:List Dr)(s:Int×Int):mw P ds s (c7 P ds [] s) [] :=
 ⟨λu hu=>⟨[],s,.nil,List.mem_singleton.mp hu⟩,λcA _ _ _=>⟨_,List.mem_singleton.mpr rfl,List.nil_prefix⟩,λ_ h=>nomatch h⟩
theorem mw.step{P:Pl}{ds:List Dr}{s:Int×Int}(nd:(ds.map (·.n)).Nodup){bg:List Int}{st:Int×Int}{hp fU nI:List Nd}{z:Nd}(I:mw P ds s (c7 P ds bg st) hp)(hr:Reach P ds s bg st)(hl:bK ds bg≠[])
  (p2:fU.Perm (tN P ds bg st++hp)) (p:fU.Perm (z::nI)) (lo:∀y∈fU,¬ ltN y z):mw P ds s z nI/\fL (z::nI)<fL (c7 P ds bg st::hp):=by
 have mem:∀u,u∈z::nI↔u∈tN P ds bg st++hp:=λu=>p.mem_iff.symm.trans p2.mem_iff;refine⟨⟨λu hu=>?_,λcA bZ h hf=>?_,λu hu=>lo u (p.mem_iff.mpr (List.mem_cons_of_mem _ hu))⟩,?_⟩
 ·rcases List.mem_append.mp ((mem u).mp hu) with h | h
  ·obtain⟨d,hd,rfl⟩:=List.mem_map.mp h;exact⟨_,_,hr.snoc hd,rfl⟩
  ·exact I.nd u (List.mem_cons_of_mem _ h)
 ·obtain⟨u,hu,nJ⟩:=I.Sl cA bZ h hf;rcases List.mem_cons.mp hu with e | e
  ·subst e;have nJ:bg <+: cA:=nJ;obtain⟨xs,e1,_,e3⟩:=hr.ext nd h nJ;cases xs with
   | nil=>rw[hf] at e3;exact absurd e3.length_eq (by cases e:bK ds bg with | nil=>exact absurd e hl | cons x l=>simp)
   | cons x xs =>
    have k9:bg++[x.n] <+: cA:=by rw[e1];exact⟨xs.map (·.n),by simp⟩
    obtain⟨bV,h2,_⟩:=h.pre k9;obtain⟨d,hd,en,_⟩:=h2.last nd hr;refine⟨c7 P ds (bg++[d.n]) (aW P st d.c),(mem _).mpr (List.mem_append_left _ (List.mem_map.mpr ⟨d,hd,rfl⟩)),?_⟩
    show bg++[d.n] <+: cA;rw[en];exact k9
  ·exact⟨u,(mem u).mpr (List.mem_append_right _ e),nJ⟩
 ·rw[← Si p,Si p2,Sk];have:=aeI (P:=P) (st:=st) nd hl
  show _<fL ([c7 P ds bg st]++hp);rw[Sk];have e:fL [c7 P ds bg st] = eX (bK ds bg).length:=by simp[fL,c7]
  lia
structure Sm(P:Pl)(ds:List Dr)(s:Int×Int)(bg:List Int)(e:Int):Prop where
 r:∃st,Reach P ds s bg st/\st.2=e
 f:bK ds bg = []
 m:∀cA bZ,Reach P ds s cA bZ->bK ds cA = []->e<=bZ.2
theorem aeJ{u t:Nd}(h:¬ ltN u t):t.1<=u.1:=by
 by_cases e:u.1<t.1
 ·exact absurd (.inl e) h
 ·lia
theorem mw.done{P:Pl}(ok:dZ P){ds:List Dr}(hd:∀d∈ds,∀q∈d.c,0<=q.1/\q.1<(P.rc.length:Int)){s:Int×Int}(s0:0<=s.1)(s1:s.1<P.rc.length)(nd:(ds.map (·.n)).Nodup){t:Nd}{hp:List Nd}(I:mw P ds s t hp)(h0:t.2.1<=0):Sm P ds s t.2.2.1 t.1:=by
 obtain⟨bg,st,hr,rfl⟩:=I.nd t (List.mem_cons_self ..);have hf:bK ds bg = []:=by
  have:((bK ds bg).length:Int)<=0:=h0;exact List.eq_nil_of_length_eq_zero (by lia)
 have e:(c7 P ds bg st).1=st.2:=by
  show pB P st.1 st.2 ((bK ds bg).map (·.c))=_;rw[hf];simp[pB]
 refine⟨⟨st,hr,e.symm⟩,hf,λcA bZ h qP=>?_⟩;obtain⟨u,hu,nJ⟩:=I.Sl cA bZ h qP;have le:(c7 P ds bg st).1<=u.1:=by
  rcases List.mem_cons.mp hu with e | e
  ·rw[e];exact Int.le_refl _
  ·exact aeJ (I.low u e)
 obtain⟨bg2,bV,xr,rfl⟩:=I.nd u hu;have i:=xr.xq hd s0 s1;have:=aeH ok hd nd xr i.1 i.2 h nJ qP;exact Int.le_trans le this
structure h_(K:PySem.W.Frag)(CA CD:Addr)(H:Hp)(ps:List Addr)(ds:List Dr):Prop where
 n:ps.length=ds.length
 t:∀(i:Nat) (p:Addr) (d:Dr),ps[i]? = some p->ds[i]? = some d->∃dx ap l ts m b bU,iG K CA CD H p d dx ap l ts m b bU
section
variable{K:PySem.W.Frag}{CA CD:Addr}{H H' H0:Hp}{ps:List Addr}{ds:List Dr}
theorem h_.nil:h_ K CA CD H [] []:=⟨rfl,λi p d e=>nomatch e⟩
theorem h_.snoc(h:h_ K CA CD H ps ds){p:Addr}{d:Dr}(hd:∃dx ap l ts m b bU,iG K CA CD H p d dx ap l ts m b bU):h_ K CA CD H (ps++[p]) (ds++[d]):=by
 refine⟨by simp[h.n],λi p' d' e1 e2=>?_⟩
 have hn:=h.n;by_cases hi:i<ps.length
 ·rw[List.getElem?_append_left hi] at e1;rw[List.getElem?_append_left (by lia)] at e2
  exact h.t i p' d' e1 e2
 ·rw[List.getElem?_append_right (by lia)] at e1
  rw[List.getElem?_append_right (by lia)] at e2
  have cO:i - ps.length=0:=by
   have:=(List.getElem?_eq_some_iff.mp e1).1;simp at this;lia
  rw[cO] at e1;rw[← hn,cO] at e2;simp at e1 e2;subst e1 e2;exact hd
theorem h_.same(h:h_ K CA CD H ps ds)(s:aj H H'):h_ K CA CD H' ps ds:=⟨h.n,λi p d e1 e2=>let ⟨dx,ap,l,ts,m,b,bU,a⟩:=h.t i p d e1 e2;⟨dx,ap,l,ts,m,b,bU,a.same s⟩⟩
theorem h_.AL(h:h_ K CA CD H ps ds){l:Addr}(hl:H l=some (.lst (ps.map V.ref))):gh K CA CD H l ps ds:=⟨hl,h.n,h.t⟩
end
theorem aeK{X:Cx}{K:PySem.W.Frag}(h:X.K=K)(hc:X.calm=true):fS X (.builtin "all") (λxs H Q=>∃(p:Addr) (bs:List Bool),xs = [.ref p]/\aA K H p (bs.map V.bl)/\Q (.bl (bs.all id)) H):=h▸acj hc
noncomputable def aeL(K:PySem.W.Frag)(CA CD:Addr):Sp:=λvs H Q _=>∃(l:Addr) (ps:List Addr) (ds:List Dr),vs = [.ref l]/\gh K CA CD H l ps ds/\Q (.bl (decide (ds.length<=7))) H
noncomputable def aeM(K:PySem.W.Frag)(CA CD:Addr):Sp:=λvs H Q _=>∃(l:Addr) (ps:List Addr) (ds:List Dr),vs = [.ref l]/\gh K CA CD H l ps ds/\ds.length<=7/\Q .aP H
noncomputable def aeN(K:PySem.W.Frag)(CA CD:Addr):Sp:=λvs H Q _=>∃(l b:Addr) (ps:List Addr) (ds:List Dr) (bg:List Int) (H0:Hp),vs = [.ref l,.ref b]/\aj H0 H/\gh K CA CD H0 l ps ds/\ds.length<=100/\H b=some (.tup (bg.map V.int))/\
 ∀(D:Addr) (dO:List Addr) (H':Hp),aj H H'->H D=none->H' D=some (.lst (dO.map V.ref))->h_ K CA CD H0 dO (bK ds bg)->Q (.ref D) H'
noncomputable def aeO(K:PySem.W.Frag)(CA CD:Addr):Sp:=λvs H Q _=>∃(l kd b:Addr) (ps:List Addr) (ds:List Dr) (az:List (Key×V)) (bg:List Int) (H0:Hp),vs = [.ref l,.ref kd,.ref b]/\aj H0 H/\gh K CA CD H0 l ps ds/\ds.length<=100/\AV H0 kd ds ds az/\H b=some (.tup (bg.map V.int))/\
 ∀(D:Addr) (dO:List Addr) (H':Hp),aj H H'->H D=none->H' D=some (.lst (dO.map V.ref))->h_ K CA CD H0 dO (fP ds bg)->Q (.ref D) H'
noncomputable def aeP(K:PySem.W.Frag)(cs:List Addr)(CA CD:Addr):Sp:=λvs H Q _=>∃(C p l b st:Addr) (P:Pl) (fp:List Addr) (ps:List Addr) (ds:List Dr) (bg:List Int) (s:Int×Int),vs = [.ref p,.ref l,.ref b,.ref st]/\C∈cs/\cF K C H p P fp/\dZ P/\0<=s.1/\s.1<P.rc.length/\gh K CA CD H l ps ds/\ds.length<=100/\(∀d∈ds,gg P d.c/\d.c.length<=1000)/\H b=some (.tup (bg.map V.int))/\H st=some (.tup [.int s.1,.int s.2])/\
 ∀(a:Addr) (H':Hp),aj H H'->H a=none->fK H' a (c7 P ds bg s)->Q (.ref a) H'
noncomputable def aeQ(K:PySem.W.Frag)(cs:List Addr)(CA CD:Addr):Sp:=λvs H Q _=>∃(C hp p l kd a:Addr) (P:Pl) (fp:List Addr) (ps:List Addr) (ds:List Dr) (az:List (Key×V)) (bg:List Int) (s:Int×Int) (zs:Ms) (H0:Hp),vs = [.ref hp,.ref p,.ref l,.ref kd,.ref a]/\aj H0 H/\H0 hp=none/\C∈cs/\cF K C H0 p P fp/\dZ P/\0<=s.1/\s.1<P.rc.length/\gh K CA CD H0 l ps ds/\ds.length<=7/\(∀d∈ds,gg P d.c/\d.c.length<=1000)/\AV H0 kd ds ds az/\fK H a (c7 P ds bg s)/\eN H hp zs/\gW fc zs.length (fm zs)/\zs.length<=15000/\bg.length<=100/\
 ∀(cI:Ms) (H':Hp),aj H0 H'->eN H' hp cI->gW fc cI.length (fm cI)->(cI.map (·.2)).Perm (tN P ds bg s++zs.map (·.2))->Q .aP H'
theorem aeR{K:PySem.W.Frag}{H:Hp}{σ:St}{g:TG}{tt:TT}{te tl:TE}{nt:Nat}{fv:List Nat}{Q:VK}(h:tl σ H λv H1=>kI (mR K λ_ H' Q'=>Q' v H') g tt te nt fv σ H1 Q):kI (mR K tl) g tt te nt fv σ H Q:=h
structure mz(H:Hp)(dQ:List Addr)(us:List Nd):Prop where
 n:dQ.length=us.length
 t:∀(i:Nat) (a:Addr) (u:Nd),dQ[i]? = some a->us[i]? = some u->∃p,H a=some (.tup [.ref p,.int u.1])/\H p=some (.tup (u.2.2.1.map V.int))
theorem mz.same{H H':Hp}{dQ:List Addr}{us:List Nd}(h:mz H dQ us)(s:aj H H'):mz H' dQ us:=⟨h.n,λi a u e1 e2=>let ⟨p,h1,h2⟩:=h.t i a u e1 e2;⟨p,s _ _ h1,s _ _ h2⟩⟩
theorem mz.eG{H:Hp}{dQ:List Addr}{us:List Nd}(h:mz H dQ us){D:Addr}{xs ys:List V}(hD:H D=some (.lst xs)):mz (upd H D (.lst ys)) dQ us:=⟨h.n,λi a u e1 e2=>by
 obtain⟨p,h1,h2⟩:=h.t i a u e1 e2;exact⟨p,by rw[aI (λz=>by rw[z,hD] at h1;cases h1)];exact h1,by rw[aI (λz=>by rw[z,hD] at h2;cases h2)];exact h2⟩⟩
theorem mz.snoc{H:Hp}{dQ:List Addr}{us:List Nd}(h:mz H dQ us){a p:Addr}{u:Nd}(h1:H a=some (.tup [.ref p,.int u.1]))(h2:H p=some (.tup (u.2.2.1.map V.int))):mz H (dQ++[a]) (us++[u]):=by
 refine⟨by simp[h.n],λi a' u' e1 e2=>?_⟩
 have hn:=h.n;by_cases hi:i<dQ.length
 ·rw[List.getElem?_append_left hi] at e1;rw[List.getElem?_append_left (by lia)] at e2
  exact h.t i a' u' e1 e2
 ·rw[List.getElem?_append_right (by lia)] at e1
  rw[List.getElem?_append_right (by lia)] at e2
  have cO:i - dQ.length=0:=by
   have:=(List.getElem?_eq_some_iff.mp e1).1;simp at this;lia
  rw[cO] at e1;rw[← hn,cO] at e2;simp at e1 e2;subst e1 e2;exact⟨p,h1,h2⟩
structure aeS(H:Hp)(l:Addr)(dQ:List Addr)(us:List Nd):Prop where
 l:H l=some (.lst (dQ.map V.ref))
 n:dQ.length=us.length
 t:∀(i:Nat) (a:Addr) (u:Nd),dQ[i]? = some a->us[i]? = some u->∃p,H a=some (.tup [.ref p,.int u.1])/\H p=some (.tup (u.2.2.1.map V.int))
noncomputable def aeT(K:PySem.W.Frag)(cs:List Addr)(CA CD:Addr):Sp:=λvs H Q _=>∃(C p l:Addr) (P:Pl) (fp:List Addr) (r b:Int) (ps:List Addr) (ds:List Dr),vs = [.ref p,.int r,.int b,.ref l]/\C∈cs/\cF K C H p P fp/\dZ P/\0<=r/\r<P.rc.length/\gh K CA CD H l ps ds/\ds.length<=7/\(ds.map (·.n)).Nodup/\(∀d∈ds,gg P d.c/\d.c.length<=1000)/\
 ∀(u pb lv:Addr) (dQ:List Addr) (t:Nd) (hp:List Nd) (H':Hp),aj H H'->H lv=none->H' u=some (.tup [.ref pb,.int t.1,.ref lv])->H' pb=some (.tup (t.2.2.1.map V.int))->aeS H' lv dQ (t::hp)->mw P ds (r,b) t hp->t.2.1<=0->Q (.ref u) H'
section
variable{prog:Program}{w:World}{A:Around}{E:Value->Shared->Prop}{s:Shared}
theorem aeU{t:Addr}{us:List Value}{R:List Value->Shared->Prop}(it:IsTup s.heap t us.toArray)(zN:us.length<=sizeLine)
  (k:R us { s with heap:=(s.heap.push (seqObj "list" #[] 0)).update s.heap.objs.size (Obj.mapSeq (· ++ us.toArray))}):wpAny (model prog w) A (collect (.ref t)) R E s:=by
 obtain⟨ob,g,tc,m,td⟩:=id it;have g1:=Heap.get?_push_of_some (seqObj "list" #[] 0) g;have fresh:(s.heap.push (seqObj "list" #[] 0)).get? s.heap.objs.size=some (seqObj "list" #[] 0):=Heap.get?_push_size _ rfl;unfold collect;refine wpAny_bind (wpAny_runValue (codeAny_builtin entry_proto_collect' (wpAny_bind (wpAny_newList (wpAny_pure ⟨Code.quiet_builtin _ (by decide +kernel),codeAny_builtin entry_list_iadd' ?_⟩)))))
 show wpAny _ _ (Builtin.List.listExtendWith (.ref s.heap.objs.size) (.ref t) _) _ _ ⟨s.heap.push (seqObj "list" #[] 0),_,_,_,_⟩;unfold Builtin.List.listExtendWith;refine wpAny_bind (wpAny_typeOf (T := "tuple") ⟨ob,g1,tc⟩ ?_);rw[if_pos (by rw[show (Value.type "tuple" == Value.type "tuple")=true from rfl];simp)]
 refine wpAny_bind (listItems_at g1 td (wpAny_bind (listItems_at (xs := #[]) (n:=0) fresh rfl ?_)));rw[if_neg (by simp)]
 refine wpAny_bind (listUpdate_at (xs := #[]) (n:=0) fresh rfl (wpAny_pure ?_) (Nat.zero_le _) (by simp only[Array.size_append,List.size_toArray,List.length_nil,Array.size_empty];lia))
 refine wpAny_bind (wpAny_load (get?_update_seq fresh _) ?_)
 show wpAny _ _ (pure ((#[]:Array Value)++us.toArray).toList) R E _;rw[show ((#[]:Array Value)++us.toArray).toList=us by simp];exact wpAny_pure k
theorem aeV{t:Addr}{us:List Value}{ns:List Int}{R:Value->Shared->Prop}(it:IsTup s.heap t us.toArray)(ai:IntsAre us ns)(lt:us.length<64)
  (k:∀(out:Array Value) (ms:List Int),IntsAre out.toList ms->ms.Perm ns->ms.Pairwise (·<=·)->R (.ref (s.heap.objs.size+1)) { s with heap:=sortedAll s.heap us out }):wpAny (model prog w) A (call (.builtin "sorted") [.ref t]) R E s:=by
 have z:((s.heap.push (seqObj "list" #[] 0)).update s.heap.objs.size (Obj.mapSeq (· ++ us.toArray))).objs.size=s.heap.objs.size+1:=(Heap.size_update ..).trans (size_push' ..);have o2:=Heap.get?_push_size ((s.heap.push (seqObj "list" #[] 0)).update s.heap.objs.size (Obj.mapSeq (· ++ us.toArray))) (o:=seqObj "list" us.toArray 0) rfl;rw[z] at o2;refine Calls.call_function_entry kind_sorted plain_sorted entry_sorted (args_sorted1 _) ?_;unfold Builtin.«sorted»;refine wpAny_bind (m:=checkCount "sorted" 1 1 _) (wpAny_pure (wpAny_bind (aeU it (Nat.le_trans (Nat.le_of_lt lt) (by decide)) (wpAny_bind (wpAny_newList ?_)))))
 rw[z];refine wpAny_bind (wpAny_holding (wpAny_call_entry slot_list_sort ⟨_,o2,rfl⟩ entry_list_sort (list_sort_tree o2 ai lt λout ms b1 b2 b3=>⟨_,rfl,?_⟩) (args_list_sort _)));exact wpAny_pure ⟨_,rfl,k out ms b1 b2 b3⟩
end
variable{X:Cx}
theorem aeW:fS X (.builtin "sorted") (λxs H Q=>∃(p:Addr) (ns:List Int),xs = [.ref p]/\aL X.K H p (ns.map V.int)/\ns.length<64/\
  ∀(l:Addr) (ms:List Int),H l=none->ms.Perm ns->ms.Pairwise (·<=·)->Q (.ref l) (upd H l (.lst (ms.map V.int)))):=by
 rintro pins s σ H xs us Q I r ⟨p,ns,rfl,hq,ju,q⟩;obtain⟨u,rfl,ru⟩:=vals1 r;cases ru;obtain⟨aC,rv,pl,hz⟩:=I.tuple hq;have hi:IntsAre aC ns:=intsAre_of rv;have hlen:=hi.length;refine aeV pl hi (by lia) λout ms a1 a2 a3=>?_
 obtain⟨e,he⟩:=sortedAll_at s.heap aC out;refine⟨.ref (s.heap.objs.size+1),upd H (s.heap.objs.size+1) (.lst (ms.map V.int)),I.laid (t':=s.toks) (λb o q=>sortedAll_old q) (Nat.le_succ _) ?_,rfl,q _ ms (I.aM.fresh (Nat.le_succ _)) a2 a3⟩;refine⟨?_,out.toList,e,wm a1,by simpa using he⟩
 rw[List.length_map,a2.length_eq];exact Nat.le_trans (Nat.le_of_lt ju) (by decide)
noncomputable def cL(ks:List Kn)(bg:List Int):List Kn:=ks.filter λk => !decide (k.n∈bg)
noncomputable def iI(P:Pl)(s:Int×Int)(ks:List Kn)(bg:List Int):Int×Int:=bg.foldl (λst n=>ks.foldl (λst k=>if k.n=n then aW P st k.c else st) st) s
structure Kd(ks:List Kn)(ds:List Dr):Prop where
 n:ds.length=ks.length
 e:∀(i:Nat) (k:Kn) (d:Dr),ks[i]? = some k->ds[i]? = some d->d.n=k.n/\d.c=k.c
 q:∀(i j:Nat) (k k':Kn) (d d':Dr),ks[i]? = some k->ds[i]? = some d->ks[j]? = some k'->ds[j]? = some d'->jS d d' = keepsK k k'
 up:ks.Pairwise λa b=>a.n<b.n
section
variable{ks:List Kn}{ds:List Dr}
theorem Kd.at(h:Kd ks ds){d:Dr}(hd:d∈ds):∃(i:Nat) (k:Kn),ks[i]? = some k/\ds[i]? = some d:=by
 obtain⟨i,hi,rfl⟩:=List.mem_iff_getElem.mp hd;have hk:i<ks.length:=by rw[← h.n];exact hi
 exact⟨i,ks[i],List.getElem?_eq_getElem hk,List.getElem?_eq_getElem hi⟩
theorem Kd.ta(h:Kd ks ds){k:Kn}(hk:k∈ks):∃(i:Nat) (d:Dr),ks[i]? = some k/\ds[i]? = some d:=by
 obtain⟨i,hi,rfl⟩:=List.mem_iff_getElem.mp hk;have hd:i<ds.length:=by rw[h.n];exact hi
 exact⟨i,ds[i],List.getElem?_eq_getElem hi,List.getElem?_eq_getElem hd⟩
theorem Kd.ns(h:Kd ks ds):ds.map (·.n)=ks.map (·.n):=ad5 h.n λi d k e1 e2=>(h.e i k d e2 e1).1
theorem Kd.nd(h:Kd ks ds):(ds.map (·.n)).Nodup:=by
 rw[h.ns];exact(List.pairwise_map.mpr h.up).imp λh=>Int.ne_of_lt h
theorem Kd.free(h:Kd ks ds){bg:List Int}{n:Int}:n∈gq (cL ks bg)↔∃d∈fP ds bg,d.n=n:=by
 unfold gq;constructor
 ·intro hn;obtain⟨k,hk,rfl⟩:=List.mem_map.mp hn;obtain⟨h1,h2⟩:=List.mem_filter.mp hk;obtain⟨h3,h4⟩:=List.mem_filter.mp h1;obtain⟨i,d,e1,e2⟩:=h.ta h3;obtain⟨en,_⟩:=h.e i k d e1 e2;refine⟨d,pC.mpr ⟨⟨List.mem_of_getElem? e2,by rw[en];simpa using h4⟩,λo ho=>?_⟩,en⟩
  obtain⟨x,hx,rfl⟩:=List.mem_map.mp ho;obtain⟨x1,x2⟩:=List.mem_filter.mp hx;obtain⟨j,k',f1,f2⟩:=h.at x1;rw[h.q i j k k' d x e1 e2 f1 f2] at x2;by_cases hb:x.n∈bg
  ·exact hb
  ·have:k'∈(cL ks bg).filter (keepsK k):=List.mem_filter.mpr ⟨List.mem_filter.mpr ⟨List.mem_of_getElem? f1,by rw[← (h.e j k' x f1 f2).1];simpa using hb⟩,x2⟩
   rw[List.isEmpty_iff.mp h2] at this;cases this
 ·rintro⟨d,hd,rfl⟩;obtain⟨⟨h1,h2⟩,h3⟩:=pC.mp hd;obtain⟨i,k,e1,e2⟩:=h.at h1;obtain⟨en,_⟩:=h.e i k d e1 e2;refine List.mem_map.mpr ⟨k,List.mem_filter.mpr ⟨List.mem_filter.mpr ⟨List.mem_of_getElem? e1,by rw[← en];simpa using h2⟩,?_⟩,en.symm⟩
  rw[List.isEmpty_iff];refine List.eq_nil_iff_forall_not_mem.mpr λk' kZ=>?_;obtain⟨h4,h5⟩:=List.mem_filter.mp kZ;obtain⟨h6,h7⟩:=List.mem_filter.mp h4;obtain⟨j,x,f1,f2⟩:=h.ta h6;have:=h3 x.n (List.mem_map.mpr ⟨x,List.mem_filter.mpr ⟨List.mem_of_getElem? f2,by rw[h.q i j k k' d x e1 e2 f1 f2];exact h5⟩,rfl⟩)
  rw[(h.e j k' x f1 f2).1] at this;simp[this] at h7
theorem So(ks:List Kn)(bg cg:List Int):cL (cL ks bg) cg=cL ks (bg++cg):=by
 unfold cL;rw[List.filter_filter];congr 1;funext k;by_cases h1:k.n∈bg <;> by_cases h2:k.n∈cg <;> simp[h1,h2]
theorem HN(ks:List Kn):cL ks [] = ks:=by simp[cL]
theorem Sq(P:Pl)(n:Int):∀(ks:List Kn) (s:Int×Int),(∀k∈ks,k.n≠n)->ks.foldl (λst k=>if k.n=n then aW P st k.c else st) s=s
 | [],_,_=>rfl
 | k::ks,s,h=>by
  rw[List.foldl_cons,if_neg (h k (List.mem_cons_self ..))];exact Sq P n ks s λx hx=>h x (List.mem_cons_of_mem _ hx)
theorem Ss(P:Pl){k:Kn}:∀ {ks:List Kn} {s:Int×Int},ks.Pairwise (λa b=>a.n<b.n)->k∈ks->ks.foldl (λst x=>if x.n=k.n then aW P st x.c else st) s=aW P s k.c
 | x::ks,s,up,h=>by
  rw[List.pairwise_cons] at up;rw[List.foldl_cons];rcases List.mem_cons.mp h with e | e
  ·subst e;rw[if_pos rfl];exact Sq P _ ks _ λy hy=>by have:=up.1 y hy;lia
  ·rw[if_neg (by have:=up.1 k e;lia)]
   exact Ss P up.2 e
theorem Kd.Su(h:Kd ks ds)(P:Pl){bg:List Int}{d:Dr}(hd:d∈fP ds bg)(s:Int×Int):iI P s (cL ks bg) [d.n] = aW P s d.c:=by
 obtain⟨⟨h1,h2⟩,_⟩:=pC.mp hd;obtain⟨i,k,e1,e2⟩:=h.at h1;obtain⟨en,ec⟩:=h.e i k d e1 e2;unfold iI;rw[List.foldl_cons,List.foldl_nil,en,ec];exact Ss P (h.up.sublist List.filter_sublist) (List.mem_filter.mpr ⟨List.mem_of_getElem? e1,by rw[← en];simpa using h2⟩)
theorem Kd.left(h:Kd ks ds){bg:List Int}:bK ds bg = []↔cL ks bg = []:=by
 unfold bK cL;rw[List.filter_eq_nil_iff,List.filter_eq_nil_iff];constructor
 ·intro g k hk;obtain⟨i,d,e1,e2⟩:=h.ta hk;have:=g d (List.mem_of_getElem? e2);rwa [(h.e i k d e1 e2).1] at this
 ·intro g d hd;obtain⟨i,k,e1,e2⟩:=h.at hd;have:=g k (List.mem_of_getElem? e1);rwa [(h.e i k d e1 e2).1]
theorem Kd.xu(h:Kd ks ds)(bg:List Int):(cL ks bg).length=(bK ds bg).length:=by
 have:=RT (f:=λk:Kn=>k.n) (g:=λd:Dr=>d.n) (as:=ks) (bs:=ds) (p:=λk => !decide (k.n∈bg)) (q:=λd => !decide (d.n∈bg)) h.n.symm λi k d e1 e2=>by
  rw[(h.e i k d e1 e2).1];exact⟨rfl,rfl⟩
 have:=congrArg List.length this;simpa[cL,bK] using this
end
noncomputable def endsF(P:Pl):Nat->Int×Int->List Kn->List Int
 | 0,s,_=>[s.2]
 | n+1,s,ks=>if ks.isEmpty then [s.2] else(gq ks).flatMap λm=>endsF P n (iI P s ks [m]) (cL ks [m])
theorem Sv{P:Pl}{ks:List Kn}{ds:List Dr}(h:Kd ks ds){s0:Int×Int}:∀(n:Nat) {bg:List Int} {st:Int×Int},Reach P ds s0 bg st->(cL ks bg).length<=n->∀x∈endsF P n st (cL ks bg),∃cA bZ,Reach P ds s0 cA bZ/\bK ds cA = []/\x=bZ.2
 | 0,bg,st,hr,hl,x,hx=>⟨bg,st,hr,h.left.mpr (List.length_eq_zero_iff.mp (by lia)),by simpa[endsF] using hx⟩
 | n+1,bg,st,hr,hl,x,hx=>by
  rw[endsF] at hx;split at hx
  ·rename_i he;exact⟨bg,st,hr,h.left.mpr (List.isEmpty_iff.mp he),by simpa using hx⟩
  ·obtain⟨m,hm,hx⟩:=List.mem_flatMap.mp hx;obtain⟨d,hd,rfl⟩:=h.free.mp hm;rw[h.Su P hd,So] at hx;have:=xj h.nd (tM hd);rw[h.xu] at hl;exact Sv h n (hr.snoc hd) (by rw[h.xu];lia) x hx
theorem Sw{P:Pl}{ks:List Kn}{ds:List Dr}(h:Kd ks ds){s0:Int×Int}{cA:List Int}{bZ:Int×Int}(AZ:Reach P ds s0 cA bZ)(hf:bK ds cA = [])(n:Nat):∀ {bg:List Int} {st:Int×Int},Reach P ds s0 bg st->(cL ks bg).length<=n->bg <+: cA->bZ.2∈endsF P n st (cL ks bg):=by
 have fin:∀ {bg:List Int} {st:Int×Int},Reach P ds s0 bg st->bg <+: cA->(cL ks bg = []/\bZ=st)\/∃d∈fP ds bg,bg++[d.n] <+: cA:=λ{bg st} hr hp=>by
  obtain⟨xs,e1,e2,e3⟩:=hr.ext h.nd AZ hp;rw[hf,List.append_nil] at e3;cases xs with
  | nil=>exact .inl ⟨h.left.mp (List.perm_nil.mp e3),e2⟩
  | cons x xs =>
   have k9:bg++[x.n] <+: cA:=by rw[e1];exact⟨xs.map (·.n),by simp⟩
   obtain⟨bV,h2,_⟩:=AZ.pre k9;obtain⟨d,hd,en,_⟩:=h2.last h.nd hr;exact .inr ⟨d,hd,by rw[en];exact k9⟩
 induction n with
 | zero =>
  intro bg st hr hl hp;rcases fin hr hp with⟨_,e⟩ | ⟨d,hd,_⟩
  ·rw[e];simp[endsF]
  ·have:=xj h.nd (tM hd);rw[h.xu] at hl;lia
 | succ n ih =>
  intro bg st hr hl hp;rcases fin hr hp with⟨e0,e⟩ | ⟨d,hd,k9⟩
  ·rw[e,e0];simp[endsF]
  ·have ll:=xj h.nd (tM hd);have l1:=h.xu bg;rw[endsF,if_neg (by intro z;rw[List.isEmpty_iff.mp z] at l1;simp at l1;lia)]
   refine List.mem_flatMap.mpr ⟨d.n,h.free.mpr ⟨d,hd,rfl⟩,?_⟩;rw[h.Su P hd,So];exact ih (hr.snoc hd) (by rw[h.xu];lia) k9
theorem HP{P:Pl}:∀(n:Nat) (s:Int×Int) (ks:List Kn),ks.length<=n->(endsF P n s ks).length<=eX n
 | 0,_,_,_=>Nat.le_refl _
 | n+1,s,ks,hl=>by
  rw[endsF];split
  ·exact Sh _
  ·have all:∀ms:List Int,(∀m∈ms,(cL ks [m]).length<=n)->(ms.flatMap λm=>endsF P n (iI P s ks [m]) (cL ks [m])).length<=ms.length*eX n:=by
    intro ms
    induction ms with
    | nil=>intro _;simp
    | cons m ms ih =>
     intro g;have:=ih λx hx=>g x (List.mem_cons_of_mem _ hx);have:=HP (P:=P) n (iI P s ks [m]) (cL ks [m]) (g m (List.mem_cons_self ..));rw[List.flatMap_cons,List.length_append,List.length_cons,Nat.add_mul];lia
   have l:(gq ks).length<=n+1:=by
    unfold gq;rw[List.length_map];exact Nat.le_trans (List.length_filter_le _ _) hl
   have:=all (gq ks) λm hm=>by
    unfold gq at hm;obtain⟨k,hk,rfl⟩:=List.mem_map.mp hm;have hk:=(List.mem_filter.mp hk).1;obtain⟨as,bs,rfl⟩:=List.append_of_mem hk;unfold cL;rw[List.filter_append,List.filter_cons,List.length_append];simp only[List.mem_singleton,decide_true,Bool.not_true,Bool.false_eq_true,if_false];have:=List.length_filter_le (λx:Kn => !decide (x.n=k.n)) as;have:=List.length_filter_le (λx:Kn => !decide (x.n=k.n)) bs;rw[List.length_append,List.length_cons] at hl;lia
   have:=Nat.mul_le_mul_right (eX n) l;rw[eX];lia
theorem aeX{P:Pl}{n:Int}{ks:List Kn}(hk:∀k∈ks,∀q∈k.c,0<=q.1/\q.1<n):∀ {bg:List Int} {s:Int×Int},0<=s.1->s.1<n->0<=(iI P s ks bg).1/\(iI P s ks bg).1<n:=by
 have one:∀(m:Int) (l:List Kn),(∀k∈l,k∈ks)->∀s:Int×Int,0<=s.1->s.1<n->0<=(l.foldl (λst k=>if k.n=m then aW P st k.c else st) s).1/\(l.foldl (λst k=>if k.n=m then aW P st k.c else st) s).1<n:=by
  intro m l
  induction l with
  | nil=>intro _ s a b;exact⟨a,b⟩
  | cons k l ih =>
   intro hl s a b;rw[List.foldl_cons];have g:=ih λx hx=>hl x (List.mem_cons_of_mem _ hx);split
   ·have i:=iX P (n:=n) k.c s a b (hk k (hl k (List.mem_cons_self ..)));exact g _ i.1 i.2
   ·exact g s a b
 intro bg
 induction bg with
 | nil=>intro s a b;exact⟨a,b⟩
 | cons m bg ih =>
  intro s a b;have i:=one m ks (λ_ h=>h) s a b;exact ih i.1 i.2
theorem Sx{ks:List Kn}(up:ks.Pairwise λa b=>a.n<b.n){m:Int}(hm:m∈gq ks):(cL ks [m]).length+1=ks.length:=by
 unfold gq at hm;obtain⟨k,hk,rfl⟩:=List.mem_map.mp hm;have hk:=(List.mem_filter.mp hk).1;obtain⟨as,bs,rfl⟩:=List.append_of_mem hk;rw[List.pairwise_append,List.pairwise_cons] at up;obtain⟨_,⟨u2,_⟩,u3⟩:=up;unfold cL;have e1:as.filter (λx:Kn => !decide (x.n∈[k.n]))=as:=List.filter_eq_self.mpr λx hx=>by have:=u3 x hx k (List.mem_cons_self ..);simp;lia
 have e2:bs.filter (λx:Kn => !decide (x.n∈[k.n]))=bs:=List.filter_eq_self.mpr λx hx=>by have:=u2 x hx;simp;lia
 rw[List.filter_append,List.filter_cons,e1,e2];simp;lia
theorem Sy{α β:Type}{f:α->List β}{B:Nat}:∀ {ms:List α},(∀m∈ms,(f m).length<=B)->(ms.flatMap f).length<=ms.length*B
 | [],_=>by simp
 | m::ms,h=>by
  have:=Sy (ms:=ms) λx hx=>h x (List.mem_cons_of_mem _ hx);have:=h m (List.mem_cons_self ..);rw[List.flatMap_cons,List.length_append,List.length_cons,Nat.add_mul];lia
structure Sz(ks:List Kn)(bg:List Int):Prop where
 p:bg.Perm (ks.map (·.n))
 f:∀(i:Nat) (n:Int),bg[i]? = some n->n∈gq (cL ks (bg.take i))
theorem Kd.ord{ks:List Kn}{ds:List Dr}(h:Kd ks ds){P:Pl}{s st:Int×Int}{bg:List Int}(hr:Reach P ds s bg st)(hf:bK ds bg = []):Sz ks bg:=by
 refine⟨?_,λi n hi=>?_⟩
 ·obtain⟨xs,e1,_,e3⟩:=Reach.ext h.nd .nil hr List.nil_prefix;rw[hf,List.append_nil,HL] at e3;rw[e1,← h.ns];exact(e3.map _).symm
 ·have hp:bg.take i++[n] <+: bg:=⟨bg.drop (i+1),by rw[← take_succ_get hi,List.take_append_drop]⟩
  obtain⟨bV,h2,_⟩:=hr.pre hp;obtain⟨qO,h1,_⟩:=hr.pre (List.take_prefix i bg);obtain⟨d,hd,en,_⟩:=h2.last h.nd h1;exact h.free.mpr ⟨d,hd,en⟩
theorem SA:∀ {a b:List Int},a.Perm b->a.Pairwise (·<=·)->b.Pairwise (· < ·)->a=b
 | [],b,p,_,_=>(List.nil_perm.mp p).symm
 | x::a,[],p,_,_=>absurd p.length_eq (by simp)
 | x::a,y::b,p,h1,h2=>by
  rw[List.pairwise_cons] at h1 h2;have e:x=y:=by
   have m1:x∈y::b:=p.mem_iff.mp (List.mem_cons_self ..);have m2:y∈x::a:=p.mem_iff.mpr (List.mem_cons_self ..);rcases List.mem_cons.mp m1 with e | e
   ·exact e
   ·rcases List.mem_cons.mp m2 with g | g
    ·exact g.symm
    ·have:=h1.1 y g;have:=h2.1 x e;lia
  subst e;rw[SA p.cons_inv h1.2 h2.2]
structure jT(H:Hp)(ts:List Addr)(ks:List Kn):Prop where
 n:ts.length=ks.length
 t:∀(i:Nat) (t:Addr) (k:Kn),ts[i]? = some t->ks[i]? = some k->∃b cl bu,fX H t k b cl bu
section
variable{H H':Hp}{ts:List Addr}{ks:List Kn}
theorem jT.nil:jT H [] []:=⟨rfl,λi p d e=>nomatch e⟩
theorem jT.snoc(h:jT H ts ks){t:Addr}{k:Kn}(hk:∃b cl bu,fX H t k b cl bu):jT H (ts++[t]) (ks++[k]):=by
 refine⟨by simp[h.n],λi p' d' e1 e2=>?_⟩
 have hn:=h.n;by_cases hi:i<ts.length
 ·rw[List.getElem?_append_left hi] at e1;rw[List.getElem?_append_left (by lia)] at e2
  exact h.t i p' d' e1 e2
 ·rw[List.getElem?_append_right (by lia)] at e1
  rw[List.getElem?_append_right (by lia)] at e2
  have cO:i - ts.length=0:=by
   have:=(List.getElem?_eq_some_iff.mp e1).1;simp at this;lia
  rw[cO] at e1;rw[← hn,cO] at e2;simp at e1 e2;subst e1 e2;exact hk
theorem jT.same(h:jT H ts ks)(s:aj H H'):jT H' ts ks:=⟨h.n,λi t k e1 e2=>let ⟨b,cl,bu,a⟩:=h.t i t k e1 e2;⟨b,cl,bu,a.same s⟩⟩
theorem jT.tD(h:jT H ts ks){l:Addr}(hl:H l=some (.lst (ts.map V.ref))):d9 H l ts ks:=⟨hl,h.n,h.t⟩
end
section
variable{K:PySem.W.Frag}{H:Hp}{σ:St}{g:TG}{tt:TT}{te tl:TE}{nt:Nat}{fv:List Nat}{Q:VK}
theorem aeY(a:Addr)(xs:List V)(Pv:Addr->Nat->List V->St->Hp->Prop)(kJ:∀Q:VK,Q (.ref a) H->tl σ H Q)(cS:aL K H a xs)
  (h0:∀D,H D=none->Pv D 0 [] (iB σ nt fv) (upd H D (.lst []))) (hD:∀D i ys σ H,Pv D i ys σ H->H D=some (.lst ys)/\ys.length<sizeLine/\aL K H a xs)
  (hs:∀D i x ys aB H2 (N:List V->St->Hp->Prop),(∀ys σ H,Pv D (i+1) ys σ H->N ys σ H)->xs[i]? = some x->Pv D i ys aB H2->g x aB H2 λcy H4=>tt cy H4 λb H5=>if b=true then te cy H5 λv H6=>H6 D=some (.lst ys)/\N (ys++[v]) cy (upd H6 D (.lst (ys++[v]))) else N ys cy H5)
  (hd:∀D ys aB H2,Pv D xs.length ys aB H2->Q (.ref D) H2):kI (Fw K tl) g tt te nt fv σ H Q:=by
 refine kJ _ ⟨a,rfl,⟨xs,cS⟩,λD m_=>?_⟩;refine⟨λi m ys aB H2=>m=xs.length - i/\i<=xs.length/\Pv D i ys aB H2,⟨_,rfl,Nat.zero_le _,h0 D m_⟩,?_⟩;rintro i m ys aB H2 ⟨rfl,iC,p⟩;obtain⟨d1,d2,d3⟩:=hD D i ys aB H2 p;refine⟨d1,d2,?_⟩;by_cases cj:i<xs.length
 ·refine .inr ⟨⟨xs,xs[i],d3,by simp[cj]⟩,λx H3 y=>?_⟩
  obtain⟨e1,e2⟩:=y;subst e1;exact hs D i x ys aB _ (λqQ bE H'=>∃m',m' < xs.length - i/\m' = xs.length - (i+1)/\i+1<=xs.length/\Pv D (i+1) qQ bE H') (λys σ H p=>⟨_,by lia,rfl,by lia,p⟩) (e2 xs d3) p
 ·have e:i=xs.length:=by lia
  subst e;exact .inl ⟨⟨xs,d3,Nat.le_refl _⟩,hd D ys aB H2 p⟩
end
noncomputable def aeZ(K:PySem.W.Frag):Sp:=λvs H Q _=>∃(kl b:Addr) (bN:List Addr) (ks:List Kn) (bg:List Int),vs = [.ref kl,.ref b]/\d9 H kl bN ks/\ks.length<=100/\H b=some (.tup (bg.map V.int))/\
 ∀(D:Addr) (ts:List Addr) (H':Hp),aj H H'->H D=none->d9 H' D ts (cL ks bg)->Q (.ref D) H'
noncomputable def ae0(K:PySem.W.Frag):Sp:=λvs H Q _=>∃(t kl b:Addr) (z:List (Int×Int)) (ao sk:Int) (sw:List Int) (za:Addr) (bq:List Addr) (ca sa:Addr) (r bt:Int) (bN:List Addr) (ks:List Kn) (bg:List Int),vs = [.ref t,.int r,.int bt,.ref kl,.ref b]/\
 gI H t z ao sk sw za bq ca sa/\gJ z ao sk sw/\0<=r/\r<(counts z).length/\d9 H kl bN ks/\(∀k∈ks,gg (bC z ao sk sw []) k.c/\k.c.length<=16)/\H b=some (.tup (bg.map V.int))/\
 ∀(u:Addr) (H':Hp),aj H H'->H u=none->H' u=some (.tup [.int (iI (bC z ao sk sw []) (r,bt) ks bg).1,.int (iI (bC z ao sk sw []) (r,bt) ks bg).2])->Q (.ref u) H'
noncomputable def ae1:Sp:=λvs H Q _=>∃(a:Addr) (ns:List Int),vs = [.ref a]/\H a=some (.tup (ns.map V.int))/\∀H',aj H H'->Q (.bl true) H'
noncomputable def ae2(K:PySem.W.Frag):Sp:=λvs H Q _=>∃(f kl:Addr) (bN:List Addr) (ks:List Kn) (bg:List Int),vs = [.ref f,.ref kl]/\H f=some (.tup (bg.map V.int))/\d9 H kl bN ks/\ks.length<=60/\ks.Pairwise (λa b=>a.n<b.n)/\Sz ks bg/\∀H',aj H H'->Q (.bl true) H'
noncomputable def SD(K:PySem.W.Frag)(m:Nat):Sp:=λvs H Q _=>∃(t sp kl:Addr) (z:List (Int×Int)) (ao sk:Int) (sw:List Int) (za:Addr) (bq:List Addr) (ca sa:Addr) (r bt:Int) (bN:List Addr) (ks:List Kn),vs = [.ref t,.ref sp,.ref kl]/\
 gI H t z ao sk sw za bq ca sa/\gJ z ao sk sw/\0<=r/\r<(counts z).length/\H sp=some (.tup [.int r,.int bt])/\d9 H kl bN ks/\(∀k∈ks,gg (bC z ao sk sw []) k.c/\k.c.length<=16)/\ks.Pairwise (λa b=>a.n<b.n)/\ks.length<m/\ks.length<=7/\
 ∀(l:Addr) (H':Hp),aj H H'->H l=none->H' l=some (.lst ((endsF (bC z ao sk sw []) ks.length (r,bt) ks).map V.int))->Q (.ref l) H'
theorem SE{X:Cx}{K:PySem.W.Frag}(h:X.K=K):zH X (Pr K):=h▸zI
theorem SG{X:Cx}{K:PySem.W.Frag}(h:X.K=K):cu X (binaryOp .Add) (r9 K):=h▸zK
theorem Reach.HQ{P P':Pl}{ds:List Dr}(h:∀s c,aW P s c=aW P' s c){s:Int×Int}:∀ {bg:List Int} {st:Int×Int},Reach P ds s bg st->Reach P' ds s bg st:=by
 intro bg st hr
 induction hr with
 | nil=>exact .nil
 | snoc hr hd ih=>rw[h];exact ih.snoc hd
theorem ae3{z:List (Int×Int)}{ao sk:Int}{sw:List Int}{nc:List (Int×Int)}{ks:List Kn}{ds:List Dr}(kd:Kd ks ds){s:Int×Int}{bg:List Int}{e M:Int}(W:Sm (bC z ao sk sw nc) ds s bg e)(h1:M∈endsF (bC z ao sk sw []) ks.length s ks)(h2:∀a∈endsF (bC z ao sk sw []) ks.length s ks,M<=a):e=M:=by
 obtain⟨⟨st,hr,rfl⟩,hf,hm⟩:=W;have hw:cL ks [] = ks:=HN ks;obtain⟨cA,bZ,AZ,qP,rfl⟩:=Sv kd (s0:=s) ks.length .nil (by rw[hw];exact Nat.le_refl _) M (by rw[hw];exact h1)
 have a:=hm cA bZ (AZ.HQ λs c=>(AM z ao sk sw nc c s).symm) qP;have b:=Sw kd (hr.HQ λs c=>AM z ao sk sw nc c s) hf ks.length .nil (by rw[hw];exact Nat.le_refl _) List.nil_prefix
 rw[hw] at b;have:=h2 _ b;lia
structure HR(K:PySem.W.Frag)(cs:List Addr)(CA CD:Addr)(H:Hp)(sa p:Addr)(r b:Int)(kl dl:Addr)(z:List (Int×Int))(ao sk:Int)(sw:List Int)(nc:List (Int×Int))(ks:List Kn)(ds:List Dr):Prop where
 sp:∃za bq ca qJ,gI H sa z ao sk sw za bq ca qJ
 wo:gJ z ao sk sw
 pl:∃C fp,C∈cs/\cF K C H p (bC z ao sk sw nc) fp
 r0:0<=r
 r1:r<(counts z).length
 kn:∃bN,d9 H kl bN ks
 du:∃ps,gh K CA CD H dl ps ds
 n7:ks.length<=7
 kd:Kd ks ds
 kc:∀k∈ks,gg (bC z ao sk sw []) k.c/\k.c.length<=16
section
variable{K:PySem.W.Frag}{cs:List Addr}{CA CD:Addr}{H H':Hp}{sa p:Addr}{r b:Int}{kl dl A0 A1:Addr}{z:List (Int×Int)}{ao sk:Int}{sw:List Int}{nc:List (Int×Int)}{ks:List Kn}{ds:List Dr}
theorem jR.same(h:jR K cs CA CD H sa p r b kl dl z ao sk sw nc ks ds)(s:aj H H'):jR K cs CA CD H' sa p r b kl dl z ao sk sw nc ks ds:=by
 obtain⟨⟨za,bq,ca,qJ,a⟩,wo,⟨C,fp,hC,hP⟩,nk,r0,r1,b0,b1,⟨bN,hk⟩,ok,⟨ps,hd⟩,dk⟩:=h;exact⟨⟨za,bq,ca,qJ,a.same s⟩,wo,⟨C,fp,hC,hP.same s⟩,nk,r0,r1,b0,b1,⟨bN,hk.same s⟩,ok,⟨ps,hd.same s⟩,dk⟩
theorem jR.four(h:jR K cs CA CD H sa p r b kl dl z ao sk sw nc ks ds){bN ps:List Addr}(hk:d9 H kl bN ks)(hd:gh K CA CD H dl ps ds)(s:aj H H')(h1:H' A0=some (.lst ((bN.take 4).map V.ref)))(h2:H' A1=some (.lst ((ps.take 4).map V.ref))):jR K cs CA CD H' sa p r b A0 A1 z ao sk sw nc (ks.take 4) (ds.take 4):=by
 obtain⟨sp,wo,pl,nk,r0,r1,b0,b1,_,ok,_,dn,dk⟩:=h.same s;have tk:∀ {α:Type} {l:List α} {i:Nat} {x:α},(l.take 4)[i]? = some x->l[i]? = some x:=λe=>by
  rw[List.getElem?_take] at e;split at e
  ·exact e
  ·cases e
 refine⟨sp,wo,pl,nk,r0,r1,b0,b1,⟨bN.take 4,h1,by rw[List.length_take,List.length_take,hk.n],λi t k e1 e2=>(hk.same s).t i t k (tk e1) (tk e2)⟩,⟨λk hk=>ok.ok k (List.mem_of_mem_take hk),ok.up.sublist (List.take_sublist _ _),by rw[List.length_take];have:=ok.n7;lia⟩,⟨ps.take 4,h2,by rw[List.length_take,List.length_take,hd.n],λi t k e1 e2=>(hd.same s).t i t k (tk e1) (tk e2)⟩,by rw[List.length_take,List.length_take,dn],λi k d e1 e2=>dk i k d (tk e1) (tk e2)⟩
theorem jR.lw(h:jR K cs CA CD H sa p r b kl dl z ao sk sw nc ks ds):HR K cs CA CD H sa p r b kl dl z ao sk sw nc ks ds:=by
 obtain⟨sp,wo,pl,nk,r0,r1,b0,b1,kn,ok,du,dn,dk⟩:=h;exact⟨sp,wo,pl,r0,r1,kn,du,ok.n7,⟨dn,λi k d e1 e2=>⟨(dk i k d e1 e2).1,by rw[(dk i k d e1 e2).2.2,(ok.ok k (get_mem e1)).c]⟩,λi j k k' d d' e1 e2 e3 e4=>aee (dk i k d e1 e2) (dk j k' d' e3 e4),ok.up⟩,λk hk=>(ok.ok k hk).cells nk wo⟩
noncomputable def jU(k:Kn):Kn:={ k with w:=false,bh:=[] }
structure A2(nc:List (Int×Int))(k:Kn)(d:Dr):Prop where
 n:d.n=k.n
 b:d.q.behind = []
 r:d.q.kind = "read"
 c:d.c=eW nc k.f k.m
theorem ae4{k k':Kn}{d d':Dr}(h:A2 nc k d)(h':A2 nc k' d'):jS d d' = keepsK (jU k) (jU k'):=by
 unfold jS keepsK wJ jU;have eB:¬ (("read" : Str) = "write"):=by decide
 simp[h.b,h.r,h'.r,eB]
theorem jR.reads(h:jR K cs CA CD H sa p r b kl dl z ao sk sw nc ks ds)(s:aj H H'){bN ps:List Addr}{kQ:List Dr}(hk:d9 H' A0 bN (ks.map jU))(hd:gh K CA CD H' A1 ps kQ)(dn:kQ.length=ks.length)(dk:∀(i:Nat) (k:Kn) (d:Dr),ks[i]? = some k->kQ[i]? = some d->A2 nc k d):HR K cs CA CD H' sa p r b A0 A1 z ao sk sw nc (ks.map jU) kQ:=by
 obtain⟨sp,wo,pl,nk,r0,r1,b0,b1,kn,ok,du,_,_⟩:=h.same s;have mg:∀ {i:Nat} {k:Kn},(ks.map jU)[i]? = some k->∃k0,ks[i]? = some k0/\k=jU k0:=λ{i k} e=>by
  rw[List.getElem?_map] at e;obtain⟨k0,e1,e2⟩:=Option.map_eq_some_iff.mp e;exact⟨k0,e1,e2.symm⟩
 refine⟨sp,wo,pl,r0,r1,⟨bN,hk⟩,⟨ps,hd⟩,by rw[List.length_map];exact ok.n7,⟨by rw[dn,List.length_map],λi k d e1 e2=>?_,λi j k k' d d' e1 e2 e3 e4=>?_,?_⟩,λk hk=>?_⟩
 ·obtain⟨k0,g,rfl⟩:=mg e1;exact⟨(dk i k0 d g e2).n,by rw[(dk i k0 d g e2).c];exact(ok.ok k0 (get_mem g)).c.symm⟩
 ·obtain⟨k0,g,rfl⟩:=mg e1;obtain⟨k1,g1,rfl⟩:=mg e3;exact ae4 (dk i k0 d g e2) (dk j k1 d' g1 e4)
 ·exact List.pairwise_map.mpr ok.up
 ·obtain⟨k0,HS,rfl⟩:=List.mem_map.mp hk;exact(ok.ok k0 HS).cells nk wo
end
noncomputable def pD(i:Nat):TE:=λσ H Q=>match σ[i]? with
 | some (some v)=>Q v H
 | _=>False
noncomputable def mI(g:Int->Int->V):R2:=λx y H Q=>match x,y with
 | .int i,.int j=>Q (g i j) H
 | _,_=>False
noncomputable def mC(C:Int->Int->Prop)(g:Int->Int->V):R2:=λx y H Q=>match x,y with
 | .int i,.int j=>C i j/\Q (g i j) H
 | _,_=>False
noncomputable def onR(x:V)(k:Addr->Prop):Prop:=match x with
 | .ref a=>k a
 | _=>False
noncomputable def qR(K:PySem.W.Frag)(o:Option HO)(f:Str)(k:V->Prop):Prop:=match o with
 | some (.ins C _ fs)=>(cR K C/\bQ K C f)/\match fs.lookup f with
  | some v=>k v
  | none=>False
 | _=>False
noncomputable def setM(K:PySem.W.Frag)(o:Option HO)(f:Str)(k:Addr->Addr->List (Str×V)->Prop):Prop:=match o with
 | some (.ins C dx fs)=>(cR K C/\bQ K C f/\fs.length<1000)/\k C dx fs
 | _=>False
theorem HU{K:PySem.W.Frag}{C dx:Addr}{fs:List (Str×V)}{f:Str}{k:V->Prop}(c:cR K C)(n:bQ K C f):qR K (some (.ins C dx fs)) f k=match fs.lookup f with
  | some v=>k v
  | none=>False:=propext ⟨λh=>h.2,λh=>⟨⟨c,n⟩,h⟩⟩
theorem HV{K:PySem.W.Frag}{C dx:Addr}{fs:List (Str×V)}{f:Str}{k:Addr->Addr->List (Str×V)->Prop}(c:cR K C)(n:bQ K C f)(l:fs.length<1000):setM K (some (.ins C dx fs)) f k=k C dx fs :=
 propext ⟨λh=>h.2,λh=>⟨⟨c,n,l⟩,h⟩⟩
theorem qR.o{K:PySem.W.Frag}{o:Option HO}{f:Str}{k:V->Prop}(h:qR K o f k):∃C dx fs v,o=some (.ins C dx fs)/\cR K C/\bQ K C f/\fs.lookup f=some v/\k v:=by
 unfold qR at h;split at h
 ·obtain⟨⟨c,n⟩,h⟩:=h;split at h
  ·exact⟨_,_,_,_,rfl,c,n,by assumption,h⟩
  ·exact h.elim
 ·exact h.elim
theorem setM.o{K:PySem.W.Frag}{o:Option HO}{f:Str}{k:Addr->Addr->List (Str×V)->Prop}(h:setM K o f k):∃C dx fs,o=some (.ins C dx fs)/\cR K C/\bQ K C f/\fs.length<1000/\k C dx fs:=by
 unfold setM at h;split at h
 ·exact⟨_,_,_,rfl,h.1.1,h.1.2.1,h.1.2.2,h.2⟩
 ·exact h.elim
section
variable{X:Cx}
theorem PE.mn{e:Expr}{t t':TE}(h:PE X e t)(m:∀σ H Q,t' σ H Q->t σ H Q):PE X e t':=λpins s σ H Q I q=>h pins s σ H Q I (m _ _ _ q)
theorem cu.mn{f:Value->Value->Sem Value}{r r':R2}(h:cu X f r)(m:∀x y H Q,r' x y H Q->r x y H Q):cu X f r':=λpins s σ H x y v u Q I rx ry q=>h pins s σ H x y v u Q I rx ry (m _ _ _ _ q)
theorem pD.o{i:Nat}{σ:St}{H:Hp}{Q:VK}(h:pD i σ H Q):∃v,σ[i]? = some (some v)/\Q v H:=by
 unfold pD at h;split at h
 ·exact⟨_,by assumption,h⟩
 ·exact h.elim
theorem aa(i:Nat){x:Str}{pos:Pos}(hN:X.N[i]? = some x:=by rfl)(hv:zb X.env.scope x:=by first | exact Or.inl rfl | exact Or.inr (Or.inl rfl) | exact Or.inr (Or.inr rfl))(hd:(x == ("__debug__" : Str))=false:=by decide)
  (eS:(x == ("__classdict__" : Str))=false:=by decide):PE X (.Name x pos) (pD i):=(ON hN hv hd eS).mn λ_ _ _ h=>h.o
theorem mI.o{g:Int->Int->V}{x y:V}{H:Hp}{Q:VK}(h:mI g x y H Q):gF g x y H Q:=by
 unfold mI at h;split at h
 ·exact⟨_,_,rfl,rfl,h⟩
 ·exact h.elim
theorem mC.o{C:Int->Int->Prop}{g:Int->Int->V}{x y:V}{H:Hp}{Q:VK}(h:mC C g x y H Q):rI C g x y H Q:=by
 unfold mC at h;split at h
 ·exact⟨_,_,rfl,rfl,h⟩
 ·exact h.elim
theorem dj:cu X (binaryOp .Add) (mI λi j=>.int (i+j)):=dz.mn λ_ _ _ _ h=>h.o
theorem k_:cu X (binaryOp .Sub) (mI λi j=>.int (i - j)):=lQ.mn λ_ _ _ _ h=>h.o
theorem jV:cu X (binaryOp .Mult) (mC qj λi j=>.int (i*j)):=rN.mn λ_ _ _ _ h=>h.o
theorem i9:cu X (binaryOp .FloorDiv) (mC vf λi j=>.int (i / j)):=rO.mn λ_ _ _ _ h=>h.o
theorem fj:cu X (binaryOp .Mod) (mC (λ_ j=>0<j) λi j=>.int (i % j)):=cB.mn λ_ _ _ _ h=>h.o
noncomputable def c0:Int->Int->Prop->Prop:=λi j k=>k
section
variable{f:Value->Value->Sem Value}{C:Int->Int->Prop}{c:Int->Int->Prop->Prop}{g:Int->Int->V}
end
noncomputable def xw(p:Int->Int->Prop)[∀i j,Decidable (p i j)](ta tb:TE):TT:=λσ H Q=>ta σ H λx H1=>tb σ H1 λy H2=>match x,y with
 | .int i,.int j=>if p i j then Q true H2 else Q false H2
 | _,_=>False
theorem ae5{p:Int->Int->Prop}[∀i j,Decidable (p i j)]{x y:V}{H:Hp}{Q:Bool->Hp->Prop} (h:match x,y with
 | .int i,.int j=>if p i j then Q true H else Q false H
 | _,_=>False):gF (λi j=>.bl (decide (p i j))) x y H λz H'=>∃k,z = .bl k/\Q k H':=by
 split at h
 ·refine⟨_,_,rfl,rfl,_,rfl,?_⟩;split at h
  ·rw[decide_eq_true (by assumption)];exact h
  ·rw[decide_eq_false (by assumption)];exact h
 ·exact h.elim
theorem dF{op:CmpOp}{a b:Expr}{pos:Pos}{ta tb:TE}{p:Int->Int->Prop}[∀i j,Decidable (p i j)](ho:cu X (compareOp op) (gF λi j=>.bl (decide (p i j))))(ha:PE X a ta)(hb:PE X b tb)(hm:behindInMarks op b=false):PT X (.Compare a [op] [b] pos) (xw p ta tb):=by
 intro pins s σ H Q I h;refine wpAny_isTrue_Compare1 (aU (ha pins s σ H _ I h) λv s1 ⟨x,H1,I1,r1,q1⟩=>aU (hb pins s1 σ H1 _ I1 q1) λu s2 ⟨y,H2,I2,r2,q2⟩ =>
  aU (ho pins s2 σ H2 x y v u _ I2 r1 r2 (ae5 q2)) λc s3 ⟨z,H3,I3,r3,zz⟩=>?_) hm
 obtain⟨k,e,q3⟩:=zz;subst e;cases r3;exact wpAny_truthy_bool ⟨H3,I3,q3⟩
theorem HW:cu X (compareOp .Eq) (gF λi j=>.bl (decide (i=j))):=λpins s σ H x y v u Q I rx ry ⟨i,j,e1,e2,q⟩=>by
 subst e1 e2;exact jj pins s σ H _ _ v u Q I rx ry ⟨rfl,by simpa only[V.int.injEq] using q⟩
theorem SH:cu X (compareOp .NotEq) (gF λi j=>.bl (decide (¬ i=j))):=λpins s σ H x y v u Q I rx ry ⟨i,j,e1,e2,q⟩=>by
 subst e1 e2;exact zy pins s σ H _ _ v u Q I rx ry ⟨rfl,by simpa only[V.int.injEq,decide_not] using q⟩
noncomputable def xx(c:TT)(t u:TS):TS:=λD σ H=>c σ H λb H1=>match b with
 | true=>t D σ H1
 | false=>u D σ H1
theorem ia{c:Expr}{a b:List Stmt}{tc:TT}{t u:TS}{pos:Pos}(hc:PT X c tc)(ha:fQ X a t)(hb:fQ X b u):PS X (.If c a b pos) (xx tc t u):=by
 intro pins s σ H D I h;refine wpAny_If (aU (hc pins s σ H _ I h) λd s1 ⟨H1,I1,q1⟩=>?_);cases d with
 | true=>exact ha pins s1 σ H1 D I1 q1
 | false=>exact hb pins s1 σ H1 D I1 q1
noncomputable def qT(t u:TT):TT:=λσ H Q=>t σ H λc H1=>match c with
 | true=>Q true H1
 | false=>u σ H1 Q
noncomputable def A3(t u:TT):TT:=λσ H Q=>t σ H λc H1=>match c with
 | true=>u σ H1 Q
 | false=>Q false H1
theorem ofM{b:Bool}{x y:Prop}:(if b=true then x else y)=(match b with
 | true=>x
 | false=>y):=by cases b <;> simp
theorem ae6{t u:TT}:ow t u=qT t u:=by
 funext σ H Q
 unfold ow qT;congr 1;funext c H1;exact ofM
theorem nK{a:Expr}{bs:List Expr}{tA tB:TT}{pos:Pos}(h:PW X (.BoolOp .Or (a::bs) pos) (ow tA tB)):PW X (.BoolOp .Or (a::bs) pos) (qT tA tB):=ae6▸h
noncomputable def tO(K:PySem.W.Frag):List V->Hp->VK->Prop:=λxs H Q=>match xs with
 | [.ref p]=>∃ys,(aA K H p ys\/aL K H p ys)/\Q (.int ys.length) H
 | _=>False
theorem eE:fS X (.builtin "len") (tO X.K):=λpins s σ H xs us Q I r h=>by
 unfold tO at h;split at h
 ·obtain⟨ys,hq,q⟩:=h;exact vI pins s σ H _ us Q I r ⟨_,ys,rfl,hq,q⟩
 ·exact h.elim
noncomputable def nM(K:PySem.W.Frag):R2:=λx y H Q=>match x,y with
 | .ref p,.int i=>∃xs,aA K H p xs/\∃v,dR xs i=some v/\Q v H
 | _,_=>False
noncomputable def nN(K:PySem.W.Frag):R2:=λx y H Q=>match x,y with
 | .ref p,.int i=>∃xs,aL K H p xs/\∃v,dR xs i=some v/\Q v H
 | _,_=>False
theorem kF.mn{r r':R2}(h:kF X r)(m:∀x y H Q,r' x y H Q->r x y H Q):kF X r':=λvalue slice pins s σ H x y v u Q I rx ry q hs=>h value slice pins s σ H x y v u Q I rx ry (m _ _ _ _ q) hs
theorem nM.o{K:PySem.W.Frag}{x y:V}{H:Hp}{Q:VK}(h:nM K x y H Q):r_ K x y H Q:=by
 unfold nM at h;split at h
 ·obtain⟨xs,hx,w,hw,q⟩:=h;exact⟨_,xs,_,w,rfl,rfl,hx,hw,q⟩
 ·exact h.elim
theorem nN.o{K:PySem.W.Frag}{x y:V}{H:Hp}{Q:VK}(h:nN K x y H Q):qp K x y H Q:=by
 unfold nN at h;split at h
 ·obtain⟨xs,hx,w,hw,q⟩:=h;exact⟨_,xs,_,w,rfl,rfl,hx,hw,q⟩
 ·exact h.elim
theorem bL:kF X (nM X.K):=mW.mn λ_ _ _ _ h=>h.o
theorem bH:kF X (nN X.K):=vD.mn λ_ _ _ _ h=>h.o
theorem HX{K:PySem.W.Frag}(h:X.K=K):kF X (nM K):=h▸bL
theorem jW{K:PySem.W.Frag}(h:X.K=K):kF X (nN K):=h▸bH
noncomputable def tQ(K:PySem.W.Frag)(ta:TE)(f:Str):TE:=λσ H Q=>ta σ H λx H1=>match x with
 | .ref a=>qR K (H1 a) f λv=>Q v H1
 | _=>False
noncomputable def xy(K:PySem.W.Frag)(ta tv:TE)(f:Str):TS:=λD σ H=>tv σ H λy H1=>ta σ H1 λx H2=>match x with
 | .ref a=>setM K (H2 a) f λC dx fs=>D.nx σ (upd H2 a (.ins C dx (eT f y fs)))
 | _=>False
theorem ae7{K:PySem.W.Frag}{f:Str}{x:V}{H:Hp}{Q:VK} (h:match x with
 | .ref a=>qR K (H a) f λv=>Q v H
 | _=>False):∃a C dx fs v,x = .ref a/\H a=some (.ins C dx fs)/\cR K C/\bQ K C f/\fs.lookup f=some v/\Q v H:=by
 split at h
 ·obtain⟨C,dx,fs,v,e⟩:=h.o;exact⟨_,C,dx,fs,v,rfl,e⟩
 ·exact h.elim
theorem ae8{K:PySem.W.Frag}{f:Str}{x:V}{H:Hp}{k:Addr->Addr->Addr->List (Str×V)->Prop} (h:match x with
 | .ref a=>setM K (H a) f (k a)
 | _=>False):∃a C dx fs,x = .ref a/\H a=some (.ins C dx fs)/\cR K C/\bQ K C f/\fs.length<1000/\k a C dx fs:=by
 split at h
 ·obtain⟨C,dx,fs,e⟩:=h.o;exact⟨_,C,dx,fs,rfl,e⟩
 ·exact h.elim
variable{o e value:Expr}{f:Str}{pos pos':Pos}{ta tv:TE}
theorem b_(he:PE X e ta)(hb:attributeBase e f X.env (eval e X.env)=eval e X.env):PE X (.Attribute e f pos) (tQ X.K ta f):=by
 intro pins s σ H Q I h;refine O7 hb (aU (he pins s σ H _ I h) λu s1 ⟨x,H1,I1,rx,q⟩=>?_);obtain⟨a,C,dx,fs,v,ex,ea,c,n,l,q1⟩:=ae7 q;subst ex;obtain rfl:u=Value.ref a:=rx;exact O4 I1 ea c n l λu' s2 I2 ru=>⟨v,H1,I2,ru,q1⟩
theorem HY{K:PySem.W.Frag}(h:X.K=K)(he:PE X e ta)(hb:attributeBase e f X.env (eval e X.env)=eval e X.env):PE X (.Attribute e f pos) (tQ K ta f):=h▸b_ he hb
theorem gu(ha:PE X o ta)(hv:PE X value tv)(hs:swapsWith value (some (.Attribute o f pos')) pos.line X.env=pure false):PS X (.Assign [.Attribute o f pos'] value pos) (xy X.K ta tv f):=by
 intro pins s σ H D I h;refine plainObj_wpAny_Assign_Attribute (aU (hv pins s σ H _ I h) λu s1 ⟨y,H1,I1,ry,q⟩=>aU (ha pins s1 σ H1 _ I1 q) λov s2 ⟨x,H2,I2,rx,q2⟩=>?_) hs;obtain⟨a,C,dx,fs,ex,ea,c,n,l,q3⟩:=ae8 (k:=λa C dx fs=>D.nx σ (upd H2 a (.ins C dx (eT f y fs)))) q2;subst ex;obtain rfl:ov=Value.ref a:=rx;exact O6 I2 ea c n l ry λs3 I3=>⟨σ,_,I3,q3⟩
end
theorem akh{α β:Type}{f:α->β}{a:α}{l:List α}:List.map f (a::l)=f a::List.map f l:=rfl
theorem aki{α β:Type}{f:α->β}:List.map f [] = []:=rfl
theorem akj{ta:TA}{σ H Q}:Ag ta σ H Q=(ta σ H λvs H1=>∃i j:Int,vs = [.int i,.int j]/\(-1000000000000<i/\i<1000000000000/\-1000000000000<j/\j<1000000000000)/\(j - i).toNat<=1000000/\
 ∀l,H1 l=none->Q (.ref l) (upd H1 l (.lst ((List.range (j - i).toNat).map λ(k:Nat)=>V.int (i+(k:Int)))))):=rfl
theorem akk{K:PySem.W.Frag}{x y H Q}:Ah K x y H Q=(∃l k xs,x = .ref l/\y = .int k/\H l=some (.tup xs)/\xs≠[]/\xs.length<=1000/\1<=k/\k<=1000/\∀p H',aj H H'->H' p=some (.tup (List.replicate k.toNat xs).flatten)->Q (.ref p) H'):=rfl
theorem akl{x vs H Q}:Af x vs H Q=(∃l a zs t,x = .ref l/\vs = [.ref a]/\H l=some (.lst (zV zs))/\Qu H zs/\GP H a t/\t∈zs.map (·.2)/\
 ∀(k:Nat) (h:k<zs.length),zs[k].2=t->Q .aP (upd H l (.lst (zV (zs.eraseIdx k))))):=rfl
theorem akm{x vs H Q}:vO x vs H Q=(∃l xs y,x = .ref l/\vs = []/\H l=some (.lst xs)/\xs[xs.length - 1]? = some y/\Q y (upd H l (.lst xs.dropLast))):=rfl
theorem akn{K:PySem.W.Frag}{neg:Bool}{x y H Q}:AG K neg x y H Q=(∃(a p:Addr) (c:List Int) (zs:Us),x = .ref a/\y = .ref p/\H a=some (.tup (c.map V.int))/\aA K H p (uV zs)/\AF H zs/\
 Q (.bl (if neg then !decide (c∈zs.map (·.2)) else decide (c∈zs.map (·.2)))) H):=rfl
theorem ako{x vs H Q}:AH x vs H Q=(∃(l a:Addr) (zs:Us) (c:List Int),x = .ref l/\vs = [.ref a]/\H l=some (.lst (uV zs))/\AF H zs/\H a=some (.tup (c.map V.int))/\c∈zs.map (·.2)/\
 ∀(k:Nat) (h:k<zs.length),zs[k].2=c->(∀m (hm:m<zs.length),m<k->zs[m].2≠c)->Q .aP (upd H l (.lst (uV (zs.eraseIdx k))))):=rfl
theorem akp{K:PySem.W.Frag}{te ts:TE}{σ H Q}:wW K te ts σ H Q=(te σ H λx H1=>ts σ H1 λk H2=>∃a xs,x = .ref a/\k = .int (-1)/\aA K H2 a xs/\∀p,H2 p=none->Q (.ref p) (upd H2 p (.lst xs.reverse))):=rfl
theorem akq{K:PySem.W.Frag}{x y H Q}:r9 K x y H Q=(∃a b xs ys,x = .ref a/\y = .ref b/\aL K H a xs/\aL K H b ys/\xs≠[]/\xs.length+ys.length<=sizeLine/\
 (ys = []->Q (.ref a) H)/\(ys≠[]->∀p,H p=none->Q (.ref p) (upd H p (.tup (xs++ys))))):=rfl
theorem akr{t:TS}{D σ H}:w5 t D σ H=(∃M:St->Hp->Prop,t { D with nx:=M } σ H/\∀gC H1,M gC H1->@Later ⟨D.nx⟩ gC H1):=rfl
theorem aks{i:Nat}{σ H Q}:pD i σ H Q=(match σ[i]? with
 | some (some v)=>Q v H
 | _=>False):=rfl
theorem akt{g:Int->Int->V}{x y H Q}:mI g x y H Q=(match x,y with
 | .int i,.int j=>Q (g i j) H
 | _,_=>False):=rfl
theorem aku{C:Int->Int->Prop}{g:Int->Int->V}{x y H Q}:mC C g x y H Q=(match x,y with
 | .int i,.int j=>C i j/\Q (g i j) H
 | _,_=>False):=rfl
theorem akv{p:Int->Int->Prop}[∀i j,Decidable (p i j)]{ta tb:TE}{σ H Q}:xw p ta tb σ H Q=(ta σ H λx H1=>tb σ H1 λy H2=>match x,y with
 | .int i,.int j=>if p i j then Q true H2 else Q false H2
 | _,_=>False):=rfl
theorem akw{c:TT}{t u:TS}{D σ H}:xx c t u D σ H=(c σ H λb H1=>match b with
 | true=>t D σ H1
 | false=>u D σ H1):=rfl
theorem akx{t u:TT}{σ H Q}:qT t u σ H Q=(t σ H λc H1=>match c with
 | true=>Q true H1
 | false=>u σ H1 Q):=rfl
theorem aky{t u:TT}{σ H Q}:A3 t u σ H Q=(t σ H λc H1=>match c with
 | true=>u σ H1 Q
 | false=>Q false H1):=rfl
theorem akz{K:PySem.W.Frag}{xs H Q}:tO K xs H Q=(match xs with
 | [.ref p]=>∃ys,(aA K H p ys\/aL K H p ys)/\Q (.int ys.length) H
 | _=>False):=rfl
theorem akA{K:PySem.W.Frag}{x y H Q}:nM K x y H Q=(match x,y with
 | .ref p,.int i=>∃xs,aA K H p xs/\∃v,dR xs i=some v/\Q v H
 | _,_=>False):=rfl
theorem akB{K:PySem.W.Frag}{x y H Q}:nN K x y H Q=(match x,y with
 | .ref p,.int i=>∃xs,aL K H p xs/\∃v,dR xs i=some v/\Q v H
 | _,_=>False):=rfl
theorem akC{K:PySem.W.Frag}{ta:TE}{f:Str}{σ H Q}:tQ K ta f σ H Q=(ta σ H λx H1=>match x with
 | .ref a=>qR K (H1 a) f λv=>Q v H1
 | _=>False):=rfl
theorem akD{K:PySem.W.Frag}{ta tv:TE}{f:Str}{D σ H}:xy K ta tv f D σ H=(tv σ H λy H1=>ta σ H1 λx H2=>match x with
 | .ref a=>setM K (H2 a) f λC dx fs=>D.nx σ (upd H2 a (.ins C dx (eT f y fs)))
 | _=>False):=rfl
theorem akE{cs:List Addr}{m:Str}{sp:Sp}{cC:List V}{E:XK}{ta:TE}{t:TA}{σ H Q}:sN cs m sp cC E ta t σ H Q=(ta σ H λx H1=>∃C a dx fs,x = .ref a/\H1 a=some (.ins C dx fs)/\C∈cs/\fs.lookup m=none/\t σ H1 λvs H2=>sp (x::(vs++cC)) H2 Q E):=rfl
theorem akG{K:PySem.W.Frag}{neg:Bool}{x y H Q}:oN K neg x y H Q=(∃p xs,y = .ref p/\(aA K H p xs\/aL K H p xs)/\jF x=true/\xs.all jF=true/\Q (.bl (if neg then !sf x xs else sf x xs)) H):=rfl
theorem akH{K:PySem.W.Frag}{T:String}{r:V->List V->Hp->VK->Prop}{to:TE}{σ H Q}:vK K T r to σ H Q=(to σ H λx H1=>oO K T x H1/\r x [] H1 Q):=rfl
theorem akI{x vs H Q}:zL x vs H Q=(∃l xs,x = .ref l/\vs = []/\H l=some (.lst xs)/\Q .aP (upd H l (.lst []))):=rfl
theorem akJ{r r':R2}{ta tb tc:TE}{σ H Q}:zA r r' ta tb tc σ H Q=(ta σ H λx H1=>tb σ H1 λy H2=>r x y H2 λz H3=>∃k,z = .bl k/\
 (if k=true then tc σ H3 λw' H4=>r' y w' H4 Q else Q (.bl false) H3)):=rfl
theorem akK{r:V->Option Int->Option Int->Hp->VK->Prop}{te:TE}{tl th:TO}{σ H Q}:vC r te tl th σ H Q=(te σ H λx H1=>tl σ H1 λl H2=>th σ H2 λu H3=>r x l u H3 Q):=rfl
theorem akL{t:TE}{σ H Q}:vB t σ H Q=(t σ H λx H1=>∃i,x = .int i/\Q (some i) H1):=rfl
theorem akM{z0 H Q}:vA z0 H Q=(Q none H):=rfl
theorem akN{K:PySem.W.Frag}{x lo hi H Q}:vF K x lo hi H Q=(∃a xs,x = .ref a/\aA K H a xs/\∀p,H p=none->Q (.ref p) (upd H p (.lst (cZ xs lo hi)))):=rfl
theorem akO{o i v H Q}:vE o i v H Q=(∃p xs k j,o = .ref p/\i = .int k/\H p=some (.lst xs)/\gT xs.length k=some j/\Q (upd H p (.lst (xs.set j v)))):=rfl
theorem akP{z0 H Q}:wg z0 H Q=(∀p,H p=none->Q (.ref p) (upd H p (.dT []))):=rfl
theorem akQ{z0 H Q}:we z0 H Q=(∀p,H p=none->Q (.ref p) (upd H p (.dK []))):=rfl
theorem akR{td ty tv:TE}{D σ H}:vZ td ty tv D σ H=(tv σ H λv H1=>td σ H1 λx H2=>ty σ H2 λy H3=>∃a H4,x = .ref a/\jJ H3 a y v H4/\D.nx σ H4):=rfl
theorem akS{td ty:TE}{σ H Q}:vW td ty σ H Q=(td σ H λx H1=>ty σ H1 λy H2=>∃a v,x = .ref a/\e7 H2 a y (some v)/\Q v H2):=rfl
theorem akT{ty td:TE}{σ H Q}:vX ty td σ H Q=(ty σ H λy H1=>td σ H1 λx H2=>∃a o,x = .ref a/\e7 H2 a y o/\Q (.bl o.isSome) H2):=rfl
theorem akU{ty td:TE}{σ H Q}:vY ty td σ H Q=(ty σ H λy H1=>td σ H1 λx H2=>∃a o,x = .ref a/\e7 H2 a y o/\Q (.bl (!o.isSome)) H2):=rfl
theorem akV{td ty:TE}{σ H Q}:wj td ty σ H Q=(td σ H λx H1=>∃a,x = .ref a/\Gi H1 a/\ty σ H1 λy H2=>∃o,e7 H2 a y o/\Q (o.getD .aP) H2):=rfl
theorem akW{z0 z1 z2}:uY z0 z1 z2=(False):=rfl
theorem akX{z0 H Q}:wz z0 H Q=(Q true H):=rfl
theorem akY{t:TT}{ta tb:TE}{σ H Q}:uR t ta tb σ H Q=(t σ H λc H1=>if c=true then ta σ H1 Q else tb σ H1 Q):=rfl
theorem akZ{t u:TS}{D σ H}:uT t u D σ H=(t { D with nx:=u D } σ H):=rfl
theorem ak0{te:TE}{g:TG}{D σ H}:p_ te g D σ H=(te σ H λx H1=>g x σ H1 D.nx):=rfl
theorem ak1{i:Nat}{v σ H Q}:lN i v σ H Q=(Q (σ.set i (some v)) H):=rfl
theorem ak2{vs σ H Q}:rM vs σ H Q=(vs = []/\Q σ H):=rfl
theorem ak3{t:TG}{u:lM}{vs σ H Q}:p8 t u vs σ H Q=(∃v r,vs=v::r/\t v σ H λbE H'=>u r bE H' Q):=rfl
theorem ak4{K:PySem.W.Frag}{n:Nat}{t:lM}{v σ H Q}:p9 K n t v σ H Q=(∃a xs,v = .ref a/\aL K H a xs/\xs.length=n/\t xs σ H Q):=rfl
theorem ak5{to ti:TE}{t:zm}{v σ H Q}:uZ to ti t v σ H Q=(to σ H λo H1=>ti σ H1 λi H2=>t o i v H2 λH3=>Q σ H3):=rfl
theorem ak6{i:Nat}{σ H Q}:rH i σ H Q=(∃v,σ[i]? = some (some v)/\Q v H):=rfl
theorem ak7{v:V}{z0 H Q}:tC v z0 H Q=(Q v H):=rfl
theorem ak8{r:R2}{ta tb:TE}{σ H Q}:oG r ta tb σ H Q=(ta σ H λx H1=>tb σ H1 λy H2=>r x y H2 Q):=rfl
theorem ak9{g:Int->Int->V}{x y H Q}:gF g x y H Q=(∃i j,x = .int i/\y = .int j/\Q (g i j) H):=rfl
theorem ak_{C:Int->Int->Prop}{g:Int->Int->V}{x y H Q}:rI C g x y H Q=(∃i j,x = .int i/\y = .int j/\C i j/\Q (g i j) H):=rfl
theorem ala{r:V->Hp->VK->Prop}{ta:TE}{σ H Q}:ve r ta σ H Q=(ta σ H λx H1=>r x H1 Q):=rfl
theorem alb{g:Int->V}{x H Q}:rU g x H Q=(∃i,x = .int i/\Q (g i) H):=rfl
theorem alc{t:TE}{σ H Q}:vj t σ H Q=(t σ H λx H'=>∃k,x = .bl k/\Q k H'):=rfl
theorem ald{t:TE}{σ H Q}:tB t σ H Q=(t σ H λx H1=>∃c,x = .bl c/\Q c H1):=rfl
theorem ale{c:TT}{t u:TS}{D σ H}:uX c t u D σ H=(c σ H λb H1=>if b=true then t D σ H1 else u D σ H1):=rfl
theorem alf{te:TE}{D σ H}:uW te D σ H=(te σ H D.rt):=rfl
theorem alg{D z0 H}:zj D z0 H=(D.rt .aP H):=rfl
theorem alh{te:TE}{D σ H}:uU te D σ H=(te σ H λ_ H1=>D.nx σ H1):=rfl
theorem ali{r:List V->Hp->VK->Prop}{t:TA}{σ H Q}:rY r t σ H Q=(t σ H λvs H1=>r vs H1 Q):=rfl
theorem alj{ta:TE}{tr:TA}{σ H Q}:vo ta tr σ H Q=(ta σ H λx H1=>tr σ H1 λxs H2=>Q (x::xs) H2):=rfl
theorem alk{z0 H Q}:rS z0 H Q=(Q [] H):=rfl
theorem alm{sp:Sp}{cC:List V}{E:XK}{t:TA}{σ H Q}:rT sp cC E t σ H Q=(t σ H λvs H1=>sp (vs++cC) H1 Q E):=rfl
theorem aln{D σ H}:uS D σ H=(D.nx σ H):=rfl
theorem alo{t u:TT}{σ H Q}:uM t u σ H Q=(t σ H λc H1=>if c=true then u σ H1 Q else Q false H1):=rfl
theorem alp{t u:TT}{σ H Q}:ow t u σ H Q=(t σ H λc H1=>if c=true then Q true H1 else u σ H1 Q):=rfl
theorem alq{t:TT}{σ H Q}:uN t σ H Q=(t σ H λc H1=>Q (!c) H1):=rfl
theorem alr{ta tb:TE}{σ H Q}:uO ta tb σ H Q=(ta σ H λx H1=>∃c,x = .bl c/\if c=true then tb σ H1 Q else Q (.bl false) H1):=rfl
theorem als{ta tb:TE}{σ H Q}:uP ta tb σ H Q=(ta σ H λx H1=>∃c,x = .bl c/\if c=true then Q (.bl true) H1 else tb σ H1 Q):=rfl
theorem alu{ta:TE}{σ H Q}:uQ ta σ H Q=(ta σ H λx H1=>∃c,x = .bl c/\Q (.bl (!c)) H1):=rfl
theorem alv{t:TA}{σ H Q}:vq t σ H Q=(t σ H λxs H1=>xs.length<=sizeLine/\∀p,H1 p=none->Q (.ref p) (upd H1 p (.lst xs))):=rfl
theorem alw{t:TA}{σ H Q}:vp t σ H Q=(t σ H λxs H1=>xs.length<=sizeLine/\∀p,H1 p=none->Q (.ref p) (upd H1 p (.tup xs))):=rfl
theorem alx{K:PySem.W.Frag}{T:String}{r:V->List V->Hp->VK->Prop}{to:TE}{t:TA}{σ H Q}:vL K T r to t σ H Q=(to σ H λx H1=>oO K T x H1/\t σ H1 λxs H2=>r x xs H2 Q):=rfl
theorem aly{x vs H Q}:vM x vs H Q=(∃l xs y,x = .ref l/\vs = [y]/\H l=some (.lst xs)/\xs.length<sizeLine/\Q .aP (upd H l (.lst (xs++[y])))):=rfl
theorem alz{x vs H Q}:vN x vs H Q=(∃l b xs zs,x = .ref l/\vs = [.ref b]/\H l=some (.lst xs)/\H b=some (.lst zs)/\xs.length+zs.length<=sizeLine/\Q .aP (upd H l (.lst (xs++zs)))):=rfl
theorem alA{x y H Q}:vP x y H Q=(∃l b xs zs,x = .ref l/\y = .ref b/\H l=some (.lst xs)/\H b=some (.lst zs)/\xs.length+zs.length<=sizeLine/\∀p,H p=none->Q (.ref p) (upd H p (.lst (xs++zs)))):=rfl
theorem alB{x y H Q}:vQ x y H Q=(∃l k xs,x = .ref l/\y = .int k/\H l=some (.lst xs)/\-(2 ^ 63)<=k/\k<2 ^ 63/\xs.length*k.toNat<=sizeLine/\
 ∀p,H p=none->Q (.ref p) (upd H p (.lst (List.replicate k.toNat xs).flatten))):=rfl
theorem alC{K:PySem.W.Frag}{x y H Q}:r_ K x y H Q=(∃p xs i v,x = .ref p/\y = .int i/\aA K H p xs/\dR xs i=some v/\Q v H):=rfl
theorem alD{K:PySem.W.Frag}{x y H Q}:qp K x y H Q=(∃p xs i v,x = .ref p/\y = .int i/\aL K H p xs/\dR xs i=some v/\Q v H):=rfl
theorem alE{x y H Q}:vg x y H Q=(jD x y=true/\Q (.bl (decide (x=y))) H):=rfl
theorem alF{x y H Q}:vh x y H Q=(jD x y=true/\Q (.bl (!decide (x=y))) H):=rfl
theorem alG{K:PySem.W.Frag}{ta:TE}{f:Str}{σ H Q}:rR K ta f σ H Q=(ta σ H λx H1=>∃a C dx fs v,x = .ref a/\H1 a=some (.ins C dx fs)/\cR K C/\bQ K C f/\fs.lookup f=some v/\Q v H1):=rfl
theorem alH{K:PySem.W.Frag}{ta tv:TE}{f:Str}{D σ H}:vn K ta tv f D σ H=(tv σ H λy H1=>ta σ H1 λx H2=>∃a C dx fs,x = .ref a/\H2 a=some (.ins C dx fs)/\cR K C/\bQ K C f/\fs.length<1000/\
 D.nx σ (upd H2 a (.ins C dx (eT f y fs)))):=rfl
theorem alI{C:Addr}{m:Str}{sp:Sp}{cC:List V}{E:XK}{ta:TE}{t:TA}{σ H Q}:zC C m sp cC E ta t σ H Q=(ta σ H λx H1=>∃a dx fs,x = .ref a/\H1 a=some (.ins C dx fs)/\fs.lookup m=none/\
 t σ H1 λvs H2=>sp (x::(vs++cC)) H2 Q E):=rfl
theorem alJ{C:Addr}{sp:Sp}{cC:List V}{E:XK}{t:TA}{σ H Q}:vt C sp cC E t σ H Q=(t σ H λvs H1=>∀x dx,H1 x=none->H1 dx=none->dx≠x->
 sp (.ref x::(vs++cC)) (upd (upd H1 dx (.own x)) x (.ins C dx [])) (λv H2=>v = .aP/\Q (.ref x) H2) E):=rfl
end _L
namespace _W
open PySem _L PyProof.Rows
theorem HZ{i j:Int}:jD (.int i) (.int j)=true:=rfl
theorem H_{i j:Str}:jD (.str i) (.str j)=true:=rfl
theorem Ia{i j:Bool}:jD (.bl i) (.bl j)=true:=rfl
theorem Ib: jD (.aP) (.aP)=true:=rfl
theorem Ic{i:Int}:jD (.aP) (.int i)=true:=rfl
theorem Ie{i:Int}:jD (.int i) (.aP)=true:=rfl
theorem Ig{i:Str}:jD (.aP) (.str i)=true:=rfl
theorem Ih{i:Str}:jD (.str i) (.aP)=true:=rfl
local macro_rules | `(tactic| wp_walk using $ts,*)=>do
 let a ← ("^aks ^akt ^aku ^akv ^akw ^akx ^aky ^akz ^akA ^akB ^akC HU ^akD HV AX ^akp ^akq ^akn ^ako ^akj nv ^akk ^akl ^akm ^akE ^akG ^akH ^akI ^akJ ^akr Hy ^akK ^akL ^akM ^akN ^akO and_assoc yX HO.ins.injEq zY sI eT String.reduceBEq List.lookup_cons List.lookup_nil aD HO.lst.injEq HO.dT.injEq HO.tup.injEq String.reduceEq false_and or_false false_or lW ^akP ^akQ ^akR ^akS ^akT ^akU ^akV Bool.not_eq_true' decide_eq_false_iff_not Classical.not_not ^akW if_false_left if_false_right ^akX ^akY iB List.length_map List.getElem?_nil ^akZ ^ak0 ^ak1 ^ak2 ^ak3 ^ak4 ^ak5 ^ak6 ^ak7 ^ak8 ^ak9 ^ak_ ^ala ^alb ^alc ^ald ^ale ^alf ^alg ^alh ^ali ^alj ^alk ^alm ^aln ^alo ^alp ^alq ^alr ^als ^alu ^alv ^alw ^alx oO ^aly ^alz ^alA ^alB ^alC ^alD ^alE ^alF HZ H_ Ia Ib Ic Ie Ig Ih qj vf zx ^alG ^alH ^alI ^alJ _L.start GB GC HF akh aki List.cons_append List.nil_append List.length_cons List.length_nil List.getElem?_cons_zero List.getElem?_cons_succ Option.some.injEq exists_eq_left exists_eq_left' exists_and_left exists_eq V.int.injEq V.ref.injEq V.bl.injEq V.ty.injEq V.str.injEq List.cons.injEq and_true true_and List.set_cons_zero List.set_cons_succ decide_eq_true_eq Nat.reduceSub Nat.reduceAdd List.replicate_succ List.replicate_zero List.replicate Int.reduceLT Int.reduceLE Int.reducePow Int.reduceToNat Int.reduceNeg Nat.reduceLT Nat.reduceLeDiff Nat.reducePow Int.reduceMul Int.reduceAdd Int.reduceSub and_self or_true true_or gt_iff_lt ge_iff_le if_true if_false Bool.false_eq_true reduceIte Nat.sub_self Nat.sub_zero".splitOn " ").toArray.mapM λx=>if x.startsWith "^" then `(Lean.Parser.Tactic.simpLemma| ↓ $(Lean.mkIdent (x.drop 1).toString.toName):ident) else `(Lean.Parser.Tactic.simpLemma| $(Lean.mkIdent x.toName):ident)
 let d:Array (Lean.TSyntax `term):=("T.afK T.DY T.lz T.lA T.Ls T.Lu T.Lv T.Lw T.Lx T.Ly T.Lz T.LA T.LB T.yg T.LF T.DZ T.D4 T.D5 T.D6 T.D7 T.D8 T.D9 T.D_ T.Ea T.Eb T.Ec T.Ed T.Ef T.Eg".splitOn " ").toArray.map λx=>⟨Lean.mkIdent x.toName⟩
 let b ← (ts.getElems.flatMap λt=>if t.raw.getId == `T then d else #[t]).mapM λt => `(Lean.Parser.Tactic.simpLemma| $t:term)
 let c:=a++b
 `(tactic| simp (maxSteps:=4000000) only[$c,*])
local macro_rules | `(tactic| walk_at "rdm") => `(tactic| wp_walk using and_self)
seal fQ PS PE PT PW PA PG rL PI PK PC PO sG
noncomputable def top(i:Nat):Stmt:=PySem.Challenge.pw_armswing_k66_least_by_all.main.body.getD i (.Pass ⟨0,0,0,0⟩)
noncomputable abbrev Ii:Stmt:=inClass (top 16) 0
noncomputable abbrev Ij:Stmt:=top 17
noncomputable abbrev Ik:Stmt:=top 18
noncomputable abbrev Il:Stmt:=top 19
noncomputable abbrev Im:Stmt:=top 20
noncomputable abbrev iJ:Stmt:=top 21
noncomputable abbrev jX:Stmt:=top 22
noncomputable abbrev Io:Stmt:=top 23
noncomputable abbrev Ip:Stmt:=top 25
noncomputable abbrev Iq:Stmt:=top 26
noncomputable abbrev Ir:Stmt:=top 27
noncomputable abbrev Iu:Stmt:=top 28
noncomputable abbrev Iv:Stmt:=top 30
noncomputable abbrev Iw:Stmt:=top 31
noncomputable abbrev Iz:Stmt:=inClass (top 32) 0
noncomputable abbrev IA:Stmt:=top 34
noncomputable abbrev IB:Stmt:=top 35
noncomputable abbrev IC:Stmt:=top 36
noncomputable abbrev ID:Stmt:=top 39
noncomputable abbrev IE:Stmt:=top 40
noncomputable abbrev IF:Stmt:=top 41
noncomputable abbrev IG:Stmt:=top 42
noncomputable abbrev II:Stmt:=top 43
noncomputable abbrev IJ:Stmt:=top 44
noncomputable abbrev IK:Stmt:=top 45
noncomputable abbrev IL:Stmt:=top 46
noncomputable abbrev IM:Stmt:=top 47
noncomputable abbrev IP:Stmt:=top 48
noncomputable abbrev IQ:Stmt:=top 49
noncomputable abbrev IS:Stmt:=top 57
noncomputable abbrev IT:Stmt:=top 58
noncomputable abbrev IU:Stmt:=top 59
noncomputable abbrev IV:Stmt:=top 60
noncomputable abbrev IW:Stmt:=top 61
noncomputable abbrev IX:Stmt:=top 62
noncomputable abbrev IY:Stmt:=top 63
noncomputable abbrev IZ:Stmt:=inClass (top 64) 0
noncomputable abbrev I0:Stmt:=inClass (top 64) 1
noncomputable abbrev I_:Stmt:=inClass (top 64) 2
noncomputable abbrev Ja:Stmt:=inClass (top 64) 4
noncomputable abbrev Jb:Stmt:=inClass (top 64) 5
noncomputable abbrev Jc:Stmt:=inClass (top 64) 6
noncomputable abbrev Jd:Stmt:=inClass (top 64) 7
noncomputable abbrev Je:Stmt:=inClass (top 64) 8
noncomputable abbrev Jf:Stmt:=inClass (top 64) 9
noncomputable abbrev Jg:Stmt:=inClass (top 64) 10
noncomputable abbrev Jh:Stmt:=top 66
noncomputable abbrev Ji:Stmt:=top 67
noncomputable abbrev Jj:Stmt:=top 68
noncomputable abbrev fZ:Stmt:=top 69
noncomputable abbrev Jk:Stmt:=top 70
noncomputable abbrev Jl:Stmt:=top 71
noncomputable abbrev Jm:Stmt:=inClass (top 72) 0
noncomputable abbrev Jo:Stmt:=top 74
noncomputable abbrev Jp:Stmt:=top 75
noncomputable abbrev Jq:Stmt:=top 76
noncomputable abbrev Jr:Stmt:=top 77
noncomputable abbrev Js:Stmt:=top 78
noncomputable abbrev Jt:Stmt:=top 79
noncomputable abbrev Ju:Stmt:=top 80
noncomputable abbrev Jv:Stmt:=top 81
noncomputable abbrev Jw:Stmt:=top 82
noncomputable abbrev Jx:Stmt:=top 83
noncomputable abbrev Jy:Stmt:=top 84
noncomputable abbrev Jz:Stmt:=top 85
noncomputable abbrev JA:Stmt:=top 86
noncomputable abbrev JB:Stmt:=top 87
noncomputable abbrev JC:Stmt:=top 88
noncomputable abbrev JD:Stmt:=top 89
noncomputable abbrev JE:Stmt:=top 90
noncomputable abbrev JF:Stmt:=top 91
noncomputable abbrev JG:Stmt:=top 92
noncomputable abbrev JH:Stmt:=top 93
noncomputable abbrev jY:Stmt:=top 94
theorem ae9:bA ["self", "kind", "first", "many", "marks", "at", "asker", "latest", "behind", "early"] ["self", "kind", "first", "many", "marks", "at", "asker", "latest", "behind", "early"] (aR Ii):=bG
theorem ae_:bA ["number", "least", "greatest", "words"] ["number", "least", "greatest", "words"] (aR Ij):=bG
theorem A4:bA ["behind", "ahead", "number"] ["behind"] (aR Ik):=bG
theorem afa:bA ["first", "many", "at", "asker", "latest", "behind"] ["first", "many", "at", "asker", "latest", "behind"] (aR Il):=bG
theorem afb:bA ["behind"] ["behind"] (aR Im):=bG
theorem SI:bA ["first", "many", "at", "asker", "latest", "behind", "others"] ["first", "many", "at", "asker", "latest", "behind"] (aR iJ):=bG
theorem JI:bA ["first", "marks", "at", "asker", "latest", "behind", "early", "others", "mark"] ["first", "marks", "at", "asker", "latest", "behind", "early"] (aR jX):=bG
theorem afc:bA ["one", "other"] ["one", "other"] (aR Io):=bG
theorem JJ:bA ["heap", "thing", "at"] ["heap", "thing"] (aR Ip):=bG
theorem JK:bA ["heap", "least", "last"] ["heap"] (aR Iq):=bG
theorem SJ:bA ["heap", "at", "child"] ["heap", "at"] (aR Ir):=bG
theorem xA:bA ["heap", "thing", "at", "child"] ["heap", "thing"] (aR Iu):=bG
theorem afd:bA ["plate", "ask"] ["plate", "ask"] (aR Iv):=bG
theorem afe:bA ["plate", "number", "ask", "e"] ["plate", "number", "ask"] (aR Iw):=bG
theorem afg:bA ["self", "plate", "number", "ask"] ["self", "plate", "number", "ask"] (aR Iz):=bG
theorem afh:bA ["plate", "ring", "place", "beat"] ["plate", "ring", "place", "beat"] (aR IA):=bG
theorem qU:bA ["plate", "ring", "beat", "cells", "rows", "other", "place", "begun"] ["plate", "ring", "beat", "cells"] (aR IB):=bG
theorem SK:bA ["plate", "ring", "beat", "cells", "rows"] ["plate", "ring", "beat", "cells"] (aR IC):=bG
theorem afi:bA ["dues"] ["dues"] (aR ID):=bG
theorem afj:bA ["dues"] ["dues"] (aR IE):=bG
theorem afk:bA ["due", "other"] ["due", "other"] (aR IF):=bG
theorem JL:bA ["dues", "kept", "due"] ["dues"] (aR IG):=bG
theorem afl:bA ["dues", "begun"] ["dues", "begun"] (aR II):=bG
theorem SM:bA ["dues", "kept", "begun", "left"] ["dues", "kept", "begun"] (aR IJ):=bG
theorem afm:bA ["plate", "due"] ["plate", "due"] (aR IK):=bG
theorem SN:bA ["plate", "ring", "beat", "dues", "one_by_one"] ["plate", "ring", "beat", "dues"] (aR IL):=bG
theorem SO:bA ["plate", "dues", "begun", "stop", "left"] ["plate", "dues", "begun", "stop"] (aR IM):=bG
theorem xB:bA ["heap", "plate", "dues", "kept", "node", "begun", "stop", "due", "later"] ["heap", "plate", "dues", "kept", "node"] (aR IP):=bG
theorem tR:bA ["plate", "ring", "beat", "dues", "kept", "heap", "node", "leaves"] ["plate", "ring", "beat", "dues"] (aR IQ):=bG
theorem A5:bA ["zones", "rings", "cells", "in_all"] ["zones"] (aR IS):=bG
theorem JM:bA ["zones", "lap", "skew", "rings", "cells"] ["zones", "lap", "skew"] (aR IT):=bG
theorem SQ:bA ["swing", "rings", "far"] ["swing", "rings"] (aR IU):=bG
theorem JN:bA ["swing", "far", "part"] ["swing"] (aR IV):=bG
theorem A6:bA ["zones", "counts", "rings", "cells"] ["zones"] (aR IW):=bG
theorem xC:bA ["ring_cells", "spares", "cells", "ring", "count", "place"] ["ring_cells", "spares"] (aR IX):=bG
theorem A7:bA ["number_cells", "numbers", "number", "cell"] ["number_cells"] (aR IY):=bG
theorem afn:bA ["self", "zones", "lap", "skew", "swing"] ["self", "zones", "lap", "skew", "swing"] (aR IZ):=bG
theorem afo:bA ["self"] ["self"] (aR I0):=bG
theorem afp:bA ["self"] ["self"] (aR I_):=bG
theorem afq:bA ["self", "ring"] ["self", "ring"] (aR Ja):=bG
theorem afr:bA ["self"] ["self"] (aR Jb):=bG
theorem afs:bA ["self", "ring", "place"] ["self", "ring", "place"] (aR Jc):=bG
theorem aft:bA ["self", "ring", "other"] ["self", "ring", "other"] (aR Jd):=bG
theorem afu:bA ["self", "ring", "place"] ["self", "ring", "place"] (aR Je):=bG
theorem afv:bA ["self", "number"] ["self", "number"] (aR Jf):=bG
theorem afw:bA ["self", "ring", "place"] ["self", "ring", "place"] (aR Jg):=bG
theorem afx:bA ["spares", "ring_cells"] ["spares", "ring_cells"] (aR Jh):=bG
theorem A8:bA ["plate", "bad", "found", "ring", "place"] ["plate", "bad"] (aR Ji):=bG
theorem afy:bA ["number_cells", "bad_cells"] ["number_cells", "bad_cells"] (aR Jj):=bG
theorem afz:bA ["ring", "rings"] ["ring", "rings"] (aR fZ):=bG
theorem A9:bA ["ring_cells", "spares", "ring", "used", "other", "count", "place"] ["ring_cells", "spares", "ring", "used"] (aR Jk):=bG
theorem tT:bA ["ring_cells", "spares", "number_cells", "bad_cells", "moves", "used", "number", "cell", "other"] ["ring_cells", "spares", "number_cells", "bad_cells"] (aR Jl):=bG
theorem xD:bA ["self", "zones", "lap", "skew", "swing", "spares", "bad", "bad_cells", "number", "cell", "other"] ["self", "zones", "lap", "skew", "swing", "spares", "bad"] (aR Jm):=bG
theorem afA:bA ["_law_script", "_law_k"] ["_law_script", "_law_k"] (aR Jo):=bG
theorem xE:bA ["_law_cell", "_law_many", "_law_found", "_law_number", "_law_k"] ["_law_cell", "_law_many"] (aR Jp):=bG
theorem qV:bA ["_law_xs", "_law_rings", "_law_step", "_law_far", "_law_k", "_law_least"] ["_law_xs", "_law_rings"] (aR Jq):=bG
theorem jZ:bA ["_law_cell", "_law_more", "_law_xs", "_law_zones", "_law_k", "_law_whole_here", "_law_counts", "_law_many", "_law_cells", "_law_lap"] ["_law_cell", "_law_more"] (aR Jr):=bG
theorem tU:bA ["_law_spec_here", "_law_cell", "_law_xs", "_law_spares", "_law_bad", "_law_k", "_law_ring"] ["_law_spec_here", "_law_cell"] (aR Js):=bG
theorem nO:bA ["_law_spec_here", "_law_ring", "_law_beat", "_law_cells", "_law_rows", "_law_other", "_law_place", "_law_part", "_law_free", "_law_begun"] ["_law_spec_here", "_law_ring", "_law_beat", "_law_cells"] (aR Jt):=bG
theorem A_:bA ["_law_spec_here", "_law_ring", "_law_beat", "_law_cells", "_law_row"] ["_law_spec_here", "_law_ring", "_law_beat", "_law_cells"] (aR Ju):=bG
theorem pF:bA ["_law_plate_here", "_law_spec_here", "_law_spot_here", "_law_cell", "_law_places", "_law_at", "_law_known_here", "_law_k", "_law_first"] ["_law_plate_here", "_law_spec_here", "_law_spot_here", "_law_cell"] (aR Jv):=bG
theorem xF:bA ["_law_spec_here", "_law_spot_here", "_law_known_here", "_law_one", "_law_found", "_law_k"] ["_law_spec_here", "_law_spot_here", "_law_known_here"] (aR Jw):=bG
theorem fq:bA ["_law_script", "_law_plate_here", "_law_spec_here", "_law_spot_here", "_law_most", "_law_cell", "_law_chains", "_law_many", "_law_far", "_law_known_here", "_law_number", "_law_there", "_law_k", "_law_xs", "_law_first", "_law_size", "_law_cells", "_law_latest", "_law_behind"] ["_law_script", "_law_plate_here", "_law_spec_here", "_law_spot_here", "_law_most"] (aR Jx):=bG
theorem SR:bA ["_law_one", "_law_cell", "_law_marks"] ["_law_one", "_law_cell"] (aR Jy):=bG
theorem afB:bA ["_law_one", "_law_other"] ["_law_one", "_law_other"] (aR Jz):=bG
theorem afC:bA ["_law_known_here"] ["_law_known_here"] (aR JA):=bG
theorem afD:bA ["_law_found"] ["_law_found"] (aR JB):=bG
theorem afE:bA ["_law_known_here", "_law_begun"] ["_law_known_here", "_law_begun"] (aR JC):=bG
theorem xG:bA ["_law_spec_here", "_law_ring", "_law_beat", "_law_known_here", "_law_begun", "_law_number", "_law_one"] ["_law_spec_here", "_law_ring", "_law_beat", "_law_known_here", "_law_begun"] (aR JD):=bG
theorem afF:bA ["_law_found"] ["_law_found"] (aR JE):=bG
theorem SS:bA ["_law_found", "_law_known_here", "_law_k"] ["_law_found", "_law_known_here"] (aR JF):=bG
theorem qW:bA ["_law_script", "_law_most", "_law_spec_here", "_law_plate_here", "_law_ring", "_law_beat", "_law_known_here", "_law_dues"] ["_law_script", "_law_most"] (aR JG):=bG
theorem xH:bA ["_law_spec_here", "_law_spot_here", "_law_known_here", "_law_ends_here", "_law_number", "_law_there"] ["_law_spec_here", "_law_spot_here", "_law_known_here"] (aR JH):=bG
theorem j0:bA ["_law_script", "_law_spec_here", "_law_plate_here", "_law_ring", "_law_beat", "_law_known_here", "_law_dues", "_law_found"] ["_law_script"] (aR jY):=bG
set_option genInjectivity false
set_option genSizeOf false
structure i_ where
 Ba:Addr
 Bb:FuncData
 Bc:Addr
 Bd:FuncData
 Be:Addr
 Bf:FuncData
 Bg:Addr
 Bh:FuncData
 Bj:Addr
 Bk:FuncData
 Bl:Addr
 xJ:FuncData
 JO:Tok
 Bm:Addr
 Bo:FuncData
 afG:Tok
 Bp:Addr
 Bq:FuncData
 Br:Addr
 Bs:FuncData
 Bt:Addr
 Bu:FuncData
 Bv:Addr
 Bw:FuncData
 Bx:Addr
 By:FuncData
 BA:Addr
 BB:FuncData
 BC:Addr
 BD:FuncData
 BE:Addr
 BF:FuncData
 BG:Addr
 BH:FuncData
 BI:Addr
 BJ:FuncData
 BK:Addr
 BL:FuncData
 BN:Addr
 BO:FuncData
 BP:Addr
 BQ:FuncData
 BR:Addr
 BS:FuncData
 BU:Addr
 BV:FuncData
 BW:Addr
 BX:FuncData
 BY:Addr
 BZ:FuncData
 B0:Addr
 B3:FuncData
 B4:Addr
 B5:FuncData
 B6:Addr
 B7:FuncData
 B8:Addr
 B9:FuncData
 B_:Addr
 Ca:FuncData
 Cb:Addr
 Cc:FuncData
 Cd:Addr
 Ce:FuncData
 Cf:Addr
 Cg:FuncData
 Ci:Addr
 Cj:FuncData
 Ck:Addr
 Cm:FuncData
 Cn:Addr
 Co:FuncData
 Cp:Addr
 Cq:FuncData
 xK:Addr
 Cr:FuncData
 tV:Addr
 Cs:FuncData
 tW:Addr
 Ct:FuncData
 tX:Addr
 Cu:FuncData
 tY:Addr
 Cv:FuncData
 tZ:Addr
 Cw:FuncData
 t_:Addr
 Cy:FuncData
 uc:Addr
 Cz:FuncData
 ue:Addr
 CB:FuncData
 uf:Addr
 CC:FuncData
 CF:Addr
 CG:FuncData
 CH:Addr
 CI:FuncData
 CJ:Addr
 CK:FuncData
 xM:Addr
 ug:FuncData
 CL:Addr
 CM:FuncData
 CN:Addr
 CO:FuncData
 CQ:Addr
 CS:FuncData
 CT:Addr
 CU:FuncData
 CV:Addr
 CW:FuncData
 CY:Addr
 CZ:FuncData
 C0:Addr
 C1:FuncData
 C2:Addr
 C3:FuncData
 C4:Addr
 C5:FuncData
 C6:Addr
 C7:FuncData
 C8:Addr
 C9:FuncData
 C_:Addr
 Dc:FuncData
 Dd:Addr
 De:FuncData
 Df:Addr
 Dg:FuncData
 Dh:Addr
 Di:FuncData
 Dj:Addr
 Dk:FuncData
 Dm:Addr
 Dn:FuncData
 Dp:Addr
 Dq:FuncData
 Ds:Addr
 Dt:FuncData
 Du:Addr
 Dv:FuncData
 Dw:Addr
 Dy:FuncData
 Dz:Addr
 DA:FuncData
 xN:Addr
 xO:FuncData
 DB:Addr
 DC:FuncData
 bM:Addr
 bX:Addr
 bw:Addr
 a_:Addr
 bf:Addr
 aV:Addr
 xP:Tok
 xQ:Tok
 xR:Tok
 xS:Tok
 xT:Tok
 xU:Tok
 xV:Tok
 xW:Tok
 xX:Tok
 xY:Tok
 xZ:Tok
 x8:Tok
 x9:Tok
 x_:Tok
structure Tx(K:W.Frag)(mg:Str->Option Value)(A:i_):Prop where
 SV:aJ K "__init__" "Ask.__init__" Ii A.Ba A.Bb
 JP:Binds K A.Bb ["self", "kind", "first", "many", "marks", "at", "asker", "latest", "behind", "early"] []
 nQ:aJ K "check_between" "check_between" Ij A.Bc A.Bd
 pG:Binds K A.Bd ["number", "least", "greatest", "words"] []
 pH:mg "check_between" = some (.ref A.Bc)
 JQ:aJ K "check_behind" "check_behind" Ik A.Be A.Bf
 SW:Binds K A.Bf ["behind"] []
 SX:mg "check_behind" = some (.ref A.Be)
 DE:aJ K "check_fields" "check_fields" Il A.Bg A.Bh
 JR:Binds K A.Bh ["first", "many", "at", "asker", "latest", "behind"] []
 JS:mg "check_fields" = some (.ref A.Bg)
 DF:aJ K "told_behind" "told_behind" Im A.Bj A.Bk
 JT:Binds K A.Bk ["behind"] []
 JU:mg "told_behind" = some (.ref A.Bj)
 DG:wH K "reading" "reading" iJ A.Bl A.xJ
 SY:Binds K A.xJ ["first", "many", "at", "asker", "latest", "behind"] [.int 0 A.JO,.none,.none]
 S0:Binds K A.xJ ["first", "many", "at", "asker", "latest", "behind"] []
 JV:mg "reading" = some (.ref A.Bl)
 JW:wH K "writing" "writing" jX A.Bm A.Bo
 S2:Binds K A.Bo ["first", "marks", "at", "asker", "latest", "behind", "early"] []
 S3:mg "writing" = some (.ref A.Bm)
 JX:aJ K "clash" "clash" Io A.Bp A.Bq
 S4:Binds K A.Bq ["one", "other"] []
 S5:mg "clash" = some (.ref A.Bp)
 JY:aJ K "heap_put" "heap_put" Ip A.Br A.Bs
 S6:Binds K A.Bs ["heap", "thing"] []
 S7:mg "heap_put" = some (.ref A.Br)
 JZ:aJ K "heap_take" "heap_take" Iq A.Bt A.Bu
 S8:Binds K A.Bu ["heap"] []
 S9:mg "heap_take" = some (.ref A.Bt)
 DH:aJ K "lesser_child" "lesser_child" Ir A.Bv A.Bw
 J0:Binds K A.Bw ["heap", "at"] []
 J4:mg "lesser_child" = some (.ref A.Bv)
 J5:aJ K "sink" "sink" Iu A.Bx A.By
 S_:Binds K A.By ["heap", "thing"] []
 Tc:mg "sink" = some (.ref A.Bx)
 J6:aJ K "stretch" "stretch" Iv A.BA A.BB
 Td:Binds K A.BB ["plate", "ask"] []
 Te:mg "stretch" = some (.ref A.BA)
 J7:aJ K "stretch_by_number" "stretch_by_number" Iw A.BC A.BD
 Tf:Binds K A.BD ["plate", "number", "ask"] []
 Tg:mg "stretch_by_number" = some (.ref A.BC)
 Ti:aJ K "__init__" "Due.__init__" Iz A.BE A.BF
 J8:Binds K A.BF ["self", "plate", "number", "ask"] []
 J9:aJ K "next_begin" "next_begin" IA A.BG A.BH
 Tj:Binds K A.BH ["plate", "ring", "place", "beat"] []
 Tn:mg "next_begin" = some (.ref A.BG)
 J_:aJ K "way" "way" IB A.BI A.BJ
 To:Binds K A.BJ ["plate", "ring", "beat", "cells"] []
 Tp:mg "way" = some (.ref A.BI)
 DI:aJ K "way_end" "way_end" IC A.BK A.BL
 Ka:Binds K A.BL ["plate", "ring", "beat", "cells"] []
 Kc:mg "way_end" = some (.ref A.BK)
 Ke:aJ K "are_few" "are_few" ID A.BN A.BO
 Tq:Binds K A.BO ["dues"] []
 Tr:mg "are_few" = some (.ref A.BN)
 Kf:aJ K "check_few" "check_few" IE A.BP A.BQ
 Tt:Binds K A.BQ ["dues"] []
 Tu:mg "check_few" = some (.ref A.BP)
 Kg:aJ K "keeps_behind" "keeps_behind" IF A.BR A.BS
 Tv:Binds K A.BS ["due", "other"] []
 Tw:mg "keeps_behind" = some (.ref A.BR)
 Kh:aJ K "behind_among" "behind_among" IG A.BU A.BV
 Tz:Binds K A.BV ["dues"] []
 TF:mg "behind_among" = some (.ref A.BU)
 DJ:aJ K "left_behind" "left_behind" II A.BW A.BX
 Kl:Binds K A.BX ["dues", "begun"] []
 Km:mg "left_behind" = some (.ref A.BW)
 Ko:aJ K "next_behind" "next_behind" IJ A.BY A.BZ
 TH:Binds K A.BZ ["dues", "kept", "begun"] []
 TJ:mg "next_behind" = some (.ref A.BY)
 Kq:aJ K "passing_beats" "passing_beats" IK A.B0 A.B3
 TL:Binds K A.B3 ["plate", "due"] []
 TM:mg "passing_beats" = some (.ref A.B0)
 Kr:aJ K "bound_of" "bound_of" IL A.B4 A.B5
 TN:Binds K A.B5 ["plate", "ring", "beat", "dues"] []
 TQ:mg "bound_of" = some (.ref A.B4)
 DK:aJ K "beginning" "beginning" IM A.B6 A.B7
 Ks:Binds K A.B7 ["plate", "dues", "begun", "stop"] []
 Ku:mg "beginning" = some (.ref A.B6)
 Kv:aJ K "put_longer_ones" "put_longer_ones" IP A.B8 A.B9
 TR:Binds K A.B9 ["heap", "plate", "dues", "kept", "node"] []
 TU:mg "put_longer_ones" = some (.ref A.B8)
 Kw:aJ K "least_way" "least_way" IQ A.B_ A.Ca
 TV:Binds K A.Ca ["plate", "ring", "beat", "dues"] []
 TX:mg "least_way" = some (.ref A.B_)
 Ky:aJ K "check_zones" "check_zones" IS A.Cb A.Cc
 TY:Binds K A.Cc ["zones"] []
 TZ:mg "check_zones" = some (.ref A.Cb)
 Kz:aJ K "check_turning" "check_turning" IT A.Cd A.Ce
 T3:Binds K A.Ce ["zones", "lap", "skew"] []
 T4:mg "check_turning" = some (.ref A.Cd)
 KA:aJ K "check_swing" "check_swing" IU A.Cf A.Cg
 T5:Binds K A.Cg ["swing", "rings"] []
 T6:mg "check_swing" = some (.ref A.Cf)
 KC:aJ K "check_no_detour" "check_no_detour" IV A.Ci A.Cj
 T7:Binds K A.Cj ["swing"] []
 T8:mg "check_no_detour" = some (.ref A.Ci)
 KD:aJ K "cells_by_ring" "cells_by_ring" IW A.Ck A.Cm
 T9:Binds K A.Cm ["zones"] []
 T_:mg "cells_by_ring" = some (.ref A.Ck)
 DM:aJ K "cells_by_number" "cells_by_number" IX A.Cn A.Co
 KG:Binds K A.Co ["ring_cells", "spares"] []
 KH:mg "cells_by_number" = some (.ref A.Cn)
 DN:aJ K "numbers_by_cell" "numbers_by_cell" IY A.Cp A.Cq
 KI:Binds K A.Cq ["number_cells"] []
 KJ:mg "numbers_by_cell" = some (.ref A.Cp)
 Ua:aJ K "__init__" "Plate.__init__" IZ A.xK A.Cr
 KL:Binds K A.Cr ["self", "zones", "lap", "skew", "swing"] []
 Ub:aJ K "rings" "Plate.rings" I0 A.tV A.Cs
 afH:Binds K A.Cs ["self"] []
 Uc:Meth K A.bw "rings" A.tV
 Ud:Meth K A.a_ "rings" A.tV
 Ue:aJ K "total" "Plate.total" I_ A.tW A.Ct
 ya:Binds K A.Ct ["self"] []
 Ug:Meth K A.bw "total" A.tW
 Uh:Meth K A.a_ "total" A.tW
 Ui:aJ K "beats_of" "Plate.beats_of" Ja A.tX A.Cu
 DO:Binds K A.Cu ["self", "ring"] []
 Uj:Meth K A.bw "beats_of" A.tX
 Uk:Meth K A.a_ "beats_of" A.tX
 Ul:aJ K "lap_beats" "Plate.lap_beats" Jb A.tY A.Cv
 Um:Binds K A.Cv ["self"] []
 Uo:Meth K A.bw "lap_beats" A.tY
 Uq:Meth K A.a_ "lap_beats" A.tY
 Ur:aJ K "begins" "Plate.begins" Jc A.tZ A.Cw
 Ut:Binds K A.Cw ["self", "ring", "place"] []
 Uu:Meth K A.bw "begins" A.tZ
 Uv:Meth K A.a_ "begins" A.tZ
 Uw:aJ K "swing_of" "Plate.swing_of" Jd A.t_ A.Cy
 Ux:Binds K A.Cy ["self", "ring", "other"] []
 Uy:Meth K A.bw "swing_of" A.t_
 Uz:Meth K A.a_ "swing_of" A.t_
 UA:aJ K "has_cell" "Plate.has_cell" Je A.uc A.Cz
 KN:Binds K A.Cz ["self", "ring", "place"] []
 UB:Meth K A.bw "has_cell" A.uc
 UC:Meth K A.a_ "has_cell" A.uc
 UD:aJ K "cell_at" "Plate.cell_at" Jf A.ue A.CB
 KO:Binds K A.CB ["self", "number"] []
 UE:Meth K A.bw "cell_at" A.ue
 UG:Meth K A.a_ "cell_at" A.ue
 UH:aJ K "number_of" "Plate.number_of" Jg A.uf A.CC
 KP:Binds K A.CC ["self", "ring", "place"] []
 UI:Meth K A.bw "number_of" A.uf
 UJ:Meth K A.a_ "number_of" A.uf
 KQ:aJ K "check_spares" "check_spares" Jh A.CF A.CG
 UK:Binds K A.CG ["spares", "ring_cells"] []
 UL:mg "check_spares" = some (.ref A.CF)
 KR:aJ K "bad_by_cell" "bad_by_cell" Ji A.CH A.CI
 UM:Binds K A.CI ["plate", "bad"] []
 UN:mg "bad_by_cell" = some (.ref A.CH)
 KS:aJ K "bad_numbers" "bad_numbers" Jj A.CJ A.CK
 UO:Binds K A.CK ["number_cells", "bad_cells"] []
 UP:mg "bad_numbers" = some (.ref A.CJ)
 KU:aJ K "nearest_rings" "nearest_rings" fZ A.xM A.ug
 UQ:Binds K A.ug ["ring", "rings"] []
 UR:mg "nearest_rings" = some (.ref A.xM)
 KW:aJ K "free_kept_cell" "free_kept_cell" Jk A.CL A.CM
 US:Binds K A.CM ["ring_cells", "spares", "ring", "used"] []
 UT:mg "free_kept_cell" = some (.ref A.CL)
 KY:aJ K "lay_elsewhere" "lay_elsewhere" Jl A.CN A.CO
 UU:Binds K A.CO ["ring_cells", "spares", "number_cells", "bad_cells"] []
 UW:mg "lay_elsewhere" = some (.ref A.CN)
 UX:aJ K "__init__" "Mended.__init__" Jm A.CQ A.CS
 UY:Binds K A.CS ["self", "zones", "lap", "skew", "swing", "spares", "bad"] []
 j8:aJ K "_law_cell_at" "_law_cell_at" Jo A.CT A.CU
 lg:Binds K A.CU ["_law_script", "_law_k"] []
 lq:mg "_law_cell_at" = some (.ref A.CT)
 yc:aJ K "_law_stream" "_law_stream" Jp A.CV A.CW
 DP:Binds K A.CW ["_law_cell", "_law_many"] []
 DQ:mg "_law_stream" = some (.ref A.CV)
 KZ:aJ K "_law_swing" "_law_swing" Jq A.CY A.CZ
 UZ:Binds K A.CZ ["_law_xs", "_law_rings"] []
 U0:mg "_law_swing" = some (.ref A.CY)
 K3:aJ K "_law_spec" "_law_spec" Jr A.C0 A.C1
 U1:Binds K A.C1 ["_law_cell", "_law_more"] []
 U3:mg "_law_spec" = some (.ref A.C0)
 K4:aJ K "_law_plate" "_law_plate" Js A.C2 A.C3
 U4:Binds K A.C3 ["_law_spec_here", "_law_cell"] []
 U5:mg "_law_plate" = some (.ref A.C2)
 K5:aJ K "_law_walk" "_law_walk" Jt A.C4 A.C5
 U6:Binds K A.C5 ["_law_spec_here", "_law_ring", "_law_beat", "_law_cells"] []
 U7:mg "_law_walk" = some (.ref A.C4)
 yd:aJ K "_law_behind_way" "_law_behind_way" Ju A.C6 A.C7
 DR:Binds K A.C7 ["_law_spec_here", "_law_ring", "_law_beat", "_law_cells"] []
 DS:mg "_law_behind_way" = some (.ref A.C6)
 K6:aJ K "_law_beside" "_law_beside" Jv A.C8 A.C9
 U8:Binds K A.C9 ["_law_plate_here", "_law_spec_here", "_law_spot_here", "_law_cell"] []
 U9:mg "_law_beside" = some (.ref A.C8)
 K7:aJ K "_law_tight" "_law_tight" Jw A.C_ A.Dc
 U_:Binds K A.Dc ["_law_spec_here", "_law_spot_here", "_law_known_here"] []
 Va:mg "_law_tight" = some (.ref A.C_)
 K8:aJ K "_law_known" "_law_known" Jx A.Dd A.De
 Vb:Binds K A.De ["_law_script", "_law_plate_here", "_law_spec_here", "_law_spot_here", "_law_most"] []
 Vc:mg "_law_known" = some (.ref A.Dd)
 K9:aJ K "_law_ask" "_law_ask" Jy A.Df A.Dg
 Vd:Binds K A.Dg ["_law_one", "_law_cell"] []
 Ve:mg "_law_ask" = some (.ref A.Df)
 K_:aJ K "_law_keeps" "_law_keeps" Jz A.Dh A.Di
 Vf:Binds K A.Di ["_law_one", "_law_other"] []
 Vg:mg "_law_keeps" = some (.ref A.Dh)
 yf:aJ K "_law_free_ones" "_law_free_ones" JA A.Dj A.Dk
 DT:Binds K A.Dk ["_law_known_here"] []
 DU:mg "_law_free_ones" = some (.ref A.Dj)
 DV:aJ K "_law_whole" "_law_whole" JB A.Dm A.Dn
 La:Binds K A.Dn ["_law_found"] []
 Lb:mg "_law_whole" = some (.ref A.Dm)
 DW:aJ K "_law_without" "_law_without" JC A.Dp A.Dq
 Lc:Binds K A.Dq ["_law_known_here", "_law_begun"] []
 Ld:mg "_law_without" = some (.ref A.Dp)
 Le:aJ K "_law_spot" "_law_spot" JD A.Ds A.Dt
 Vh:Binds K A.Dt ["_law_spec_here", "_law_ring", "_law_beat", "_law_known_here", "_law_begun"] []
 Vi:mg "_law_spot" = some (.ref A.Ds)
 Lf:aJ K "_law_numbers" "_law_numbers" JE A.Du A.Dv
 Vj:Binds K A.Dv ["_law_found"] []
 Vk:mg "_law_numbers" = some (.ref A.Du)
 Lh:aJ K "_law_is_order" "_law_is_order" JF A.Dw A.Dy
 Vl:Binds K A.Dy ["_law_found", "_law_known_here"] []
 Vm:mg "_law_is_order" = some (.ref A.Dw)
 Li:aJ K "_law_start" "_law_start" JG A.Dz A.DA
 Vn:Binds K A.DA ["_law_script", "_law_most"] []
 Vo:mg "_law_start" = some (.ref A.Dz)
 DX:aJ K "_law_ends" "_law_ends" JH A.xN A.xO
 Lj:Binds K A.xO ["_law_spec_here", "_law_spot_here", "_law_known_here"] []
 Lk:mg "_law_ends" = some (.ref A.xN)
 Vp:aJ K "law" "law" jY A.DB A.DC
 afI:Binds K A.DC ["_law_script"] []
 afJ:mg "law" = some (.ref A.DB)
 Vq:Qh K A.bw "__init__" A.xK
 Ll:W.findIn K (.ref A.a_) "__class__" = some (some (.builtin "object.__class__"))
 Lm:W.specialIn K (.builtin "object.__class__") "__get__" = some (some (.builtin "getset_descriptor.__get__"))
 Ln:W.takesIn K (.builtin "object.__class__")=some true
 Lo:W.mroIn K A.a_ (.type "object")=some true
 Lp:W.kitOne K (.ref A.a_) (.ref A.bw)=some true
 afK:cR K A.bM
 Lq:Mk K A.bM A.Ba
 Lr:mg "Ask" = some (.ref A.bM)
 Ls:bQ K A.bM "kind"
 Lu:bQ K A.bM "first"
 Lv:bQ K A.bM "many"
 Lw:bQ K A.bM "marks"
 Lx:bQ K A.bM "at"
 Ly:bQ K A.bM "asker"
 Lz:bQ K A.bM "latest"
 LA:bQ K A.bM "behind"
 LB:bQ K A.bM "early"
 DY:cR K A.bX
 LC:Mk K A.bX A.BE
 LD:mg "Due" = some (.ref A.bX)
 yg:bQ K A.bX "number"
 LF:bQ K A.bX "ask"
 DZ:bQ K A.bX "cells"
 lz:cR K A.bw
 Vr:Mk K A.bw A.xK
 LG:mg "Plate" = some (.ref A.bw)
 D4:bQ K A.bw "ring_cells"
 D5:bQ K A.bw "lap"
 D6:bQ K A.bw "skew"
 D7:bQ K A.bw "swing"
 D8:bQ K A.bw "number_cells"
 D9:bQ K A.bw "cell_numbers"
 lA:cR K A.a_
 Vs:Mk K A.a_ A.CQ
 Vt:mg "Mended" = some (.ref A.a_)
 D_:bQ K A.a_ "ring_cells"
 Ea:bQ K A.a_ "lap"
 Eb:bQ K A.a_ "skew"
 Ec:bQ K A.a_ "swing"
 Ed:bQ K A.a_ "number_cells"
 Ef:bQ K A.a_ "cell_numbers"
 Eg:bQ K A.a_ "moves"
 Vu:mg "MOST_CELLS" = some (.int 16 A.xP)
 Vv:mg "GREATEST_FIRST" = some (.int 1000000 A.xQ)
 Vw:mg "GREATEST_MARK" = some (.int 1000000000 A.xR)
 Vx:mg "GREATEST_AT" = some (.int 1000000000000 A.xS)
 Vy:mg "GREATEST_ASKER" = some (.int 20 A.xT)
 Vz:mg "GREATEST_LATEST" = some (.int 10000000000000 A.xU)
 VA:mg "GREATEST_BEHIND" = some (.int 99 A.xV)
 VB:mg "MOST_DUES" = some (.int 7 A.xW)
 VC:mg "MOST_ZONES" = some (.int 5 A.xX)
 VD:mg "MOST_RINGS_IN_ZONE" = some (.int 40 A.xY)
 VE:mg "MOST_CELLS_IN_RING" = some (.int 60 A.xZ)
 VF:mg "LEAST_RINGS" = some (.int 2 A.x8)
 VG:mg "MOST_RINGS" = some (.int 120 A.x9)
 LH:mg "MOST_BEATS" = some (.int 1000000000 A.x_)
 uh:mg "abs" = none
 Eh:mg "all" = none
 Ei:mg "bool" = none
 Ej:mg "dict" = none
 um:mg "enumerate" = none
 qX:mg "int" = none
 qY:mg "isinstance" = none
 dm:mg "len" = none
 nR:mg "list" = none
 Ek:mg "max" = none
 nT:mg "min" = none
 eY:mg "range" = none
 uo:mg "sorted" = none
 uq:mg "sum" = none
 pI:mg "tuple" = none
 VH:A.ug.code = .ref A.bf
theorem Tx.afL{K:W.Frag}{mg:Str->Option Value}{A:i_}(T:Tx K mg A):CP K A.bw:=⟨T.lz,T.D4,T.D5,T.D6,T.D7,T.D8,T.D9⟩
theorem Tx.afM{K:W.Frag}{mg:Str->Option Value}{A:i_}(T:Tx K mg A):CP K A.a_:=⟨T.lA,T.D_,T.Ea,T.Eb,T.Ec,T.Ed,T.Ef⟩
theorem Tx.alK{K:W.Frag}{mg:Str->Option Value}{A:i_}(T:Tx K mg A):∀C∈[A.bw,A.a_],cR K C/\Meth K C "rings" A.tV:=by
 intro C hC;simp only[List.mem_cons,List.not_mem_nil,or_false] at hC;rcases hC with rfl | rfl
 ·exact⟨T.lz,T.Uc⟩
 ·exact⟨T.lA,T.Ud⟩
theorem Tx.El{K:W.Frag}{mg:Str->Option Value}{A:i_}(T:Tx K mg A):∀C∈[A.bw,A.a_],cR K C/\Meth K C "total" A.tW:=by
 intro C hC;simp only[List.mem_cons,List.not_mem_nil,or_false] at hC;rcases hC with rfl | rfl
 ·exact⟨T.lz,T.Ug⟩
 ·exact⟨T.lA,T.Uh⟩
theorem Tx.LI{K:W.Frag}{mg:Str->Option Value}{A:i_}(T:Tx K mg A):∀C∈[A.bw,A.a_],cR K C/\Meth K C "beats_of" A.tX:=by
 intro C hC;simp only[List.mem_cons,List.not_mem_nil,or_false] at hC;rcases hC with rfl | rfl
 ·exact⟨T.lz,T.Uj⟩
 ·exact⟨T.lA,T.Uk⟩
theorem Tx.afN{K:W.Frag}{mg:Str->Option Value}{A:i_}(T:Tx K mg A):∀C∈[A.bw,A.a_],cR K C/\Meth K C "lap_beats" A.tY:=by
 intro C hC;simp only[List.mem_cons,List.not_mem_nil,or_false] at hC;rcases hC with rfl | rfl
 ·exact⟨T.lz,T.Uo⟩
 ·exact⟨T.lA,T.Uq⟩
theorem Tx.afO{K:W.Frag}{mg:Str->Option Value}{A:i_}(T:Tx K mg A):∀C∈[A.bw,A.a_],cR K C/\Meth K C "begins" A.tZ:=by
 intro C hC;simp only[List.mem_cons,List.not_mem_nil,or_false] at hC;rcases hC with rfl | rfl
 ·exact⟨T.lz,T.Uu⟩
 ·exact⟨T.lA,T.Uv⟩
theorem Tx.afP{K:W.Frag}{mg:Str->Option Value}{A:i_}(T:Tx K mg A):∀C∈[A.bw,A.a_],cR K C/\Meth K C "swing_of" A.t_:=by
 intro C hC;simp only[List.mem_cons,List.not_mem_nil,or_false] at hC;rcases hC with rfl | rfl
 ·exact⟨T.lz,T.Uy⟩
 ·exact⟨T.lA,T.Uz⟩
theorem Tx.VI{K:W.Frag}{mg:Str->Option Value}{A:i_}(T:Tx K mg A):∀C∈[A.bw,A.a_],cR K C/\Meth K C "has_cell" A.uc:=by
 intro C hC;simp only[List.mem_cons,List.not_mem_nil,or_false] at hC;rcases hC with rfl | rfl
 ·exact⟨T.lz,T.UB⟩
 ·exact⟨T.lA,T.UC⟩
theorem Tx.VJ{K:W.Frag}{mg:Str->Option Value}{A:i_}(T:Tx K mg A):∀C∈[A.bw,A.a_],cR K C/\Meth K C "cell_at" A.ue:=by
 intro C hC;simp only[List.mem_cons,List.not_mem_nil,or_false] at hC;rcases hC with rfl | rfl
 ·exact⟨T.lz,T.UE⟩
 ·exact⟨T.lA,T.UG⟩
theorem Tx.VL{K:W.Frag}{mg:Str->Option Value}{A:i_}(T:Tx K mg A):∀C∈[A.bw,A.a_],cR K C/\Meth K C "number_of" A.uf:=by
 intro C hC;simp only[List.mem_cons,List.not_mem_nil,or_false] at hC;rcases hC with rfl | rfl
 ·exact⟨T.lz,T.UI⟩
 ·exact⟨T.lA,T.UJ⟩
local macro_rules | `(tactic| walk_at "rdt") => `(tactic| wp_walk using $(Lean.mkIdent `T))
section
variable{P:Program}{w:World}{K:W.Frag}{mg:Str->Option Value}{base:Heap}{A:i_}
theorem VM(T:Tx K mg A)(aG:bx mg base A.bf A.aV):aX P w K mg base br 1 A.Ba A.Bb ["self", "kind", "first", "many", "marks", "at", "asker", "latest", "behind", "early"] (acr A.bM):=by
 refine T.SV.ok ae9 (λvs H Q E h=>?_) (λaO Ar outer s H vs Q E hr h=>?_)
 ·obtain⟨p,dx,v1,v2,v3,v4,v5,v6,v7,v8,v9,rfl,_⟩:=h
  rfl
 ·obtain⟨p,dx,v1,v2,v3,v4,v5,v6,v7,v8,v9,rfl,hp,q⟩:=h;refine⟨_,(aF (gu (aa 0) (aa 1) rfl)
   (aF (gu (aa 0) (aa 2) rfl)
   (aF (gu (aa 0) (aa 3) rfl)
   (aF (gu (aa 0) (aa 4) rfl)
   (aF (gu (aa 0) (aa 5) rfl)
   (aF (gu (aa 0) (aa 6) rfl)
   (aF (gu (aa 0) (aa 7) rfl)
   (aF (gu (aa 0) (aa 8) rfl)
   (aK (gu (aa 0) (aa 9) rfl)))))))))),?_⟩
  wp_walk using T,hp;exact q
theorem LJ(T:Tx K mg A)(aG:bx mg base A.bf A.aV):aX P w K mg base br 1 A.Bc A.Bd ["number", "least", "greatest", "words"] acn:=by
 refine T.nQ.ok ae_ (λvs H Q E h=>?_) (λaO Ar outer s H vs Q E hr h=>?_)
 ·obtain⟨n,lo,hi,w,rfl,_⟩:=h
  rfl
 ·obtain⟨n,lo,hi,w,rfl,h1,h2,q⟩:=h;refine⟨_,(aK (ia (PW.pt (nK (iN (dF fz (aa 0) (aa 1) (bI _)) (iM (dF iQ (aa 0) (aa 2) (bI _)))))) fR bT)),?_⟩;walk_at "rdm";exact⟨by lia,by lia,q⟩
theorem VN(T:Tx K mg A)(aG:bx mg base A.bf A.aV):aX P w K mg base br 1 A.Bj A.Bk ["behind"] (acq K):=by
 refine T.DF.ok afb (λvs H Q E h=>?_) (λaO Ar outer s H vs Q E hr h=>?_)
 ·obtain⟨v,ns,rfl,_⟩:=h
  rfl
 ·obtain⟨v,ns,rfl,hv,q⟩:=h;refine⟨_,(aK (bF (ZX (cW OZ (aa 0) oq (bI _)) (cE au) (jm FW rfl T.pI boot_tuple (ah (aa 0) au))))),?_⟩;walk_at "rdm";rcases hv with⟨rfl,rfl⟩ | ⟨a,rfl,hS | hS⟩
  ·exact ite_yes rfl λt nt=>q t _ (aj.put nt) aD
  ·exact ite_no (by simp) ⟨a,rfl,_,.inl ⟨hS,λl nl=>q l _ (aj.put nl) aD⟩⟩
  ·exact ite_no (by simp) ⟨a,rfl,_,.inr ⟨aL.of hS,q a _ (aj.refl _) hS⟩⟩
theorem afQ(T:Tx K mg A)(aG:bx mg base A.bf A.aV):aX P w K mg base br 1 A.Bp A.Bq ["one", "other"] (acv K A.bM):=by
 refine T.JX.ok afc (λvs H Q E h=>?_) (λaO Ar outer s H vs Q E hr h=>?_)
 ·obtain⟨p,r,x,y,m,b,dx,m',b',kL,rfl,_⟩:=h
  rfl
 ·obtain⟨p,r,x,y,m,b,dx,m',b',kL,rfl,hx,hy,q⟩:=h;refine⟨_,(aF (c9 (PW.pt (rK (cW zy (b_ (aa 0) rfl) kr (bI _)) (rJ (cW zy (b_ (aa 1) rfl) kr (bI _))))) (aK (bF iL)) bT)
   (aK (bF (oz (gR fz (b_ (aa 0) rfl) (aE dj (b_ (aa 1) rfl) (b_ (aa 1) rfl)) (bI _)) (lK (gR fz (b_ (aa 1) rfl) (aE dj (b_ (aa 0) rfl) (b_ (aa 0) rfl)) (bI _))))))),?_⟩
  wp_walk using T,hx.o,hy.o;unfold wJ at q;by_cases k1:x.kind = "write" <;> by_cases k2:y.kind = "write" <;> by_cases k3:x.first<y.first+y.many <;> simpa[k1,k2,k3] using q
theorem afR(T:Tx K mg A)(aG:bx mg base A.bf A.aV):aX P w K mg base br 1 A.Br A.Bs ["heap", "thing"] aev:=by
 refine T.JY.ok JJ (λvs H Q E h=>?_) (λaO Ar outer s H vs Q E hr h=>?_)
 ·obtain⟨l,a,t,zs,rfl,_⟩:=h
  rfl
 ·obtain⟨l,a,t,zs,rfl,hl,hn,ha,hh,q⟩:=h;have j9:_+16<cLine:=Nat.lt_of_le_of_lt (Nat.add_le_add_left (by decide:16<=64) _) hr.units
  refine⟨_,(aF (c8 (jG PySem.F.plainAttrs_list PySem.F.slot_list_append PySem.F.type_list_append jH (aa 0) (ah (aa 1) au)))
   (aF (aQ (i:=2) JJ.nd rfl (Or.inl rfl) (aE k_ (bR eE rfl T.dm boot_len (ah (aa 0) au)) ak))
   (aF (Ft PassesOwn.never (PW.pt (rK (dF iQ (aa 2) ak (bI _)) (rJ (cW (HK j9) (aa 1) (aH bL (aa 0) (aE i9 (aE k_ (aa 2) ak) ak) (λ_ _=>rfl)) (bI _)))))
   (aF (qa (aH bL (aa 0) (aE i9 (aE k_ (aa 2) ak) ak) (λ_ _=>rfl)) (u5 (aa 0) (aa 2) set_list))
   (aK (aQ (i:=2) JJ.nd rfl (Or.inl rfl) (aE i9 (aE k_ (aa 2) ak) ak)))))
   (aK (qa (aa 1) (u5 (aa 0) (aa 2) set_list)))))),?_⟩
  walk_at "rdm";refine⟨⟨_,aA.of hl.l⟩,_,hl.l,R5 (by rw[g9];lia),?_⟩
  have e0:((mV zs++[V.ref a]).length:Int) - 1=(zs.length:Int):=by rw[List.length_append,g9];simp
  have e1:mV zs++[V.ref a] = mV (zs++[(a,t)]):=aen zs (a,t);refine⟨_,.inl (aA.of aD),?_⟩;rw[e0,e1];refine⟨λm σ H'=>∃(ys:Ms),σ = [some (.ref l),some (.ref a),some (.int (m:Int))]/\H' = upd H l (.lst (mV ys))/\m<ys.length/\ys.length=zs.length+1/\gr H ys/\Up fc ys.length m (fm ys) (a,t)/\(ys.eraseIdx m).Perm zs,⟨zs.length,zs++[(a,t)],rfl,rfl,by simp,by simp,?_,ael hh,acd⟩,?_⟩
  ·intro z hz;rcases List.mem_append.mp hz with hz | hz
   ·exact hl.z z hz
   ·rw[List.mem_singleton.mp hz];exact ha
  ·rintro k σ H' ⟨ys,rfl,rfl,hk,hy,hZ,up,pe⟩;walk_at "rdm";refine bW (λh0=>?_) (λh0=>?_)
   ·have k1:1<=k:=by lia
    have pk:=kO k1;have hp:par k<ys.length:=by lia
    have g1:dR (mV ys) (((k:Int) - 1) / 2)=some (.ref ys[par k].1):=by rw[Qw k1];exact eN.get hp
    refine⟨_,aA.of aD,_,g1,_,rfl,_,ha.eG hl.l,_,(hZ _ (List.getElem_mem hp)).eG hl.l,bW (λh4=>?_) (λh4=>?_)⟩
    ·refine⟨_,λ_ _ h=>h,_,aA.of aD,_,g1,_,by rw[g9];exact sR hk,par k,pk,by rw[Qw k1],ys.set k ys[par k],?_,by rw[List.length_set];exact hp,by rw[List.length_set];exact hy,R6 hZ (hZ _ (List.getElem_mem hp)),?_,(Qq hk hp (by lia)).trans pe⟩
     ·rw[tH]
     ·rw[List.length_set,tK hk];have:=up.step qN k1 hk (by rw[gK hp];exact h4)
      rw[gK hp] at this;exact this
    ·skip
     refine⟨_,by rw[g9];exact sR hk,?_⟩
     rw[show (mV ys).set k (V.ref a)=mV (ys.set k (a,t)) from tH ys k (a,t)];refine q _ ((sQ hk (a,t)).trans (pe.cons _)) ?_;rw[List.length_set,tK hk];exact up.done (λ_=>by rw[gK hp];exact h4)
   ·skip
    refine⟨_,by rw[g9];exact sR hk,?_⟩
    rw[show (mV ys).set k (V.ref a)=mV (ys.set k (a,t)) from tH ys k (a,t)];refine q _ ((sQ hk (a,t)).trans (pe.cons _)) ?_;rw[List.length_set,tK hk];exact up.done (λz=>absurd z (by lia))
theorem afS(T:Tx K mg A)(aG:bx mg base A.bf A.aV):aX P w K mg base br 1 A.Bv A.Bw ["heap", "at"] aes:=by
 refine T.DH.ok SJ (λvs H Q E h=>?_) (λaO Ar outer s H vs Q E hr h=>?_)
 ·obtain⟨l,zs,k,rfl,_⟩:=h
  rfl
 ·obtain⟨l,zs,k,rfl,hl,hk,q⟩:=h;have j9:_+16<cLine:=Nat.lt_of_le_of_lt (Nat.add_le_add_left (by decide:16<=64) _) hr.units
  refine⟨_,(aF (aQ (i:=2) SJ.nd rfl (Or.inl rfl) (aE dj (aE jV ak (aa 1)) ak))
   (aF (c9 (PW.pt (rK (dF fz (aE dj (aa 2) ak) (bR eE rfl T.dm boot_len (ah (aa 0) au)) (bI _)) (rJ (cW (HK j9) (aH bL (aa 0) (aE dj (aa 2) ak) (λ_ _=>rfl)) (aH bL (aa 0) (aa 2) (λ_ _=>rfl)) (bI _))))) (aK (bF (aE dj (aa 2) ak))) bT)
   (aK (bF (aa 2))))),?_⟩
  walk_at "rdm";refine⟨_,.inl (aA.of hl.l),bW (λh1=>?_) (λh1=>?_)⟩
  ·rw[g9] at h1;have h2:2*k+1+1<zs.length:=by lia
   have h3:2*k+1<zs.length:=by lia
   have g1:=eN.get h2;have g2:=eN.get h3
   push_cast at g1 g2
   refine⟨_,aA.of hl.l,_,g1,_,aA.of hl.l,_,g2,?_⟩;refine⟨_,rfl,_,rfl,_,hl.th h2,_,hl.th h3,bW (λh4=>?_) (λh4=>?_)⟩
   ·have e:fY zs k=2*k+1+1:=by
     unfold fY;rw[if_pos ⟨h2,by rw[gK h2,gK h3];exact h4⟩]
    rw[e] at q
    push_cast at q
    exact q
   ·have e:fY zs k=2*k+1:=by
     unfold fY;rw[if_neg (λz=>h4 (by have:=z.2;rw[gK h2,gK h3] at this;exact this))]
    rw[e] at q
    push_cast at q
    exact q
  ·rw[g9] at h1;have e:fY zs k=2*k+1:=by unfold fY;rw[if_neg (λz=>h1 (by lia))]
   rw[e] at q
   push_cast at q
   exact q
theorem afT(T:Tx K mg A)(aG:bx mg base A.bf A.aV):aX P w K mg base br 1 A.BN A.BO ["dues"] (aeL K A.bM A.bX):=by
 refine T.Ke.ok afi (λvs H Q E h=>?_) (λaO Ar outer s H vs Q E hr h=>?_)
 ·obtain⟨l,ps,ds,rfl,_⟩:=h
  rfl
 ·obtain⟨l,ps,ds,rfl,hd,q⟩:=h;refine⟨_,(aK (bF (gR Z_ (bR eE rfl T.dm boot_len (ah (aa 0) au)) (iw (v:=.int 7) rfl T.VB ⟨_,rfl⟩) (bI _)))),?_⟩;walk_at "rdm";refine⟨_,.inl (aA.of hd.l),?_⟩;rw[List.length_map,hd.n,show decide (((ds.length:Nat):Int)<=7)=decide (ds.length<=7) from by simp only[decide_eq_decide];lia]
  exact q
theorem VO(T:Tx K mg A)(aG:bx mg base A.bf A.aV):aX P w K mg base br 1 A.BW A.BX ["dues", "begun"] (aeN K A.bM A.bX):=by
 refine T.DJ.ok afl (λvs H Q E h=>?_) (λaO Ar outer s H vs Q E hr h=>?_)
 ·obtain⟨l,b,ps,ds,bg,H0,rfl,_⟩:=h
  rfl
 ·obtain⟨l,b,ps,ds,bg,H0,rfl,s0,hd,nU,hb,q⟩:=h;refine⟨_,(aK (bF (gm (N:=["due", "begun"]) (nt:=1) (fv:=[1]) (cD.of rfl rfl (by rfl) (by rfl) (by repeat (first | exact trivial | refine⟨rfl,?_⟩)) (by rfl) (by rfl) (by rfl) (by decide) (by decide +kernel)) rfl (c_ (aa 0)) (λC s H fp=>(bB (i:=0) (show List.Nodup (["due", "begun"]:List Str) by decide +kernel) rfl (Or.inl rfl))) (λC s H fp=>(lV (cW (QB (K:=K) rfl) (HY (K:=K) rfl (aa 0) rfl) (aa 1) rfl))) (λC s H fp=>(aa 0))))),?_⟩
  walk_at "rdt";have iK:=hd.n;refine gU l (ps.map V.ref) (λD i ys aB H2=>∃(u:Option V) (dO:List Addr),ys=dO.map V.ref/\aB = [u,some (.ref b)]/\H2 D=some (.lst ys)/\aj H H2/\H D=none/\h_ K A.bM A.bX H0 dO (bK (ds.take i) bg)) (λQ q=>q) (aA.of (s0 _ _ hd.l)) ?_ ?_ ?_ ?_
  ·intro D hD;exact⟨none,[],rfl,rfl,aD,aj.put hD,hD,h_.nil⟩
  ·rintro D i ys aB H2 ⟨u,dO,rfl,rfl,e1,e2,e3,e4⟩;refine⟨e1,fD ?_,aA.of (e2 _ _ (s0 _ _ hd.l))⟩;have:=List.length_filter_le (λd:Dr => !decide (d.n∈bg)) (ds.take i);rw[List.length_take] at this;have e5:=e4.n;unfold bK at e5;rw[List.length_map];lia
  ·rintro D i x ys aB H2 N hN hx ⟨u,dO,rfl,rfl,e1,e2,e3,e4⟩;obtain⟨dp,jc,rfl⟩:=dM hx;have hi:i<ds.length:=by rw[← iK];exact cN jc
   obtain⟨dx,ap,la,ts,m,b',bU,hD⟩:=hd.t i dp ds[i] jc (List.getElem?_eq_getElem hi);have dP:=e2 _ _ (s0 _ _ hD.o);unfold nH at dP;have et:=tG (p:=λd:Dr => !decide (d.n∈bg)) (List.getElem?_eq_getElem hi);wp_walk using T,dP;refine⟨_,.inr (aL.of (e2 _ _ hb)),rfl,sS _,bW (λh1=>?_) λh1=>?_⟩
   ·rw[nA] at h1;refine⟨e1,hN _ _ _ ⟨_,dO++[dp],by simp,rfl,aD,aj.put2 e2 e3,e3,?_⟩⟩
    unfold bK at e4 ⊢;rw[et,if_pos (by simpa using h1)]
    exact e4.snoc ⟨_,_,_,_,_,_,_,hD⟩
   ·rw[nA] at h1;refine hN _ _ _ ⟨_,dO,rfl,rfl,e1,e2,e3,?_⟩;unfold bK at e4 ⊢;rw[et,if_neg (by simpa using h1),List.append_nil]
    exact e4
  ·rintro D ys aB H2 ⟨u,dO,rfl,rfl,e1,e2,e3,e4⟩;rw[List.length_map,iK,List.take_length] at e4;exact q D dO H2 e2 e3 e1 e4
theorem afU(T:Tx K mg A)(aG:bx mg base A.bf A.aV):aX P w K mg base br 1 A.Cb A.Cc ["zones"] (abC K):=by
 refine T.Ky.ok A5 (λvs H Q E h=>?_) (λaO Ar outer s H vs Q E hr h=>?_)
 ·obtain⟨a,ts,z,rfl,_⟩:=h
  rfl
 ·obtain⟨a,ts,z,rfl,hz,ok,q⟩:=h;refine⟨_,(aF (ia (PW.pt (nK (iN (dF fz (bR eE rfl T.dm boot_len (ah (aa 0) au)) ak (bI _)) (iM (dF iQ (bR eE rfl T.dm boot_len (ah (aa 0) au)) (iw (v:=.int 5) rfl T.VC ⟨_,rfl⟩) (bI _)))))) fR bT)
   (aF (cQ PassesOwn.never rfl (c_ (aa 0)) (ji rfl (cV (bB (i:=1) A5.nd rfl (Or.inl rfl)) (cV (bB (i:=2) A5.nd rfl (Or.inl rfl)) iO)))
   (aF (ia (PW.pt (nK (iN (dF fz (aa 1) ak (bI _)) (iM (dF iQ (aa 1) (iw (v:=.int 40) rfl T.VD ⟨_,rfl⟩) (bI _)))))) fR bT)
   (aK (ia (PW.pt (nK (iN (dF fz (aa 2) ak (bI _)) (iM (dF iQ (aa 2) (iw (v:=.int 60) rfl T.VE ⟨_,rfl⟩) (bI _)))))) fR bT))))
   (aF (aQ (i:=3) A5.nd rfl (Or.inl rfl) (bR (Gv rfl) rfl T.uq boot_sum (ah (gm (N:=["zone"]) (nt:=1) (fv:=[]) (cD.of rfl rfl (by rfl) (by rfl) (by repeat (first | exact trivial | refine⟨rfl,?_⟩)) (by rfl) (by rfl) (by rfl) (by decide) (by decide +kernel)) rfl (c_ (aa 0)) (λC s H fp=>(bB (i:=0) (show List.Nodup (["zone"]:List Str) by decide +kernel) rfl (Or.inl rfl))) (λC s H fp=>iT) (λC s H fp=>(aH (jW (K:=K) rfl) (aa 0) ak (λ_ _=>rfl)))) au)))
   (aK (ia (PW.pt (nK (iN (dF fz (aa 3) (iw (v:=.int 2) rfl T.VF ⟨_,rfl⟩) (bI _)) (iM (dF iQ (aa 3) (iw (v:=.int 120) rfl T.VG ⟨_,rfl⟩) (bI _)))))) fR bT))))),?_⟩
  walk_at "rdm";have hn:=hz.n;have l1:=ok.l1;have l5:=ok.l5;refine⟨_,.inl hz.sq,by simp only[List.length_map];lia,_,.inl hz.sq,by simp only[List.length_map];lia,?_⟩
  refine rl a (ts.map V.ref) (λi σ H'=>∃r c,σ = [some (.ref a),r,c,none]/\H' = H) (λQ q=>q) hz.sq ⟨none,none,rfl,rfl⟩ (by rintro i σ H' _ ⟨r,c,rfl,rfl⟩;exact hz.sq) ?_ ?_
  ·rintro i x σ H' N hN hx ⟨r,c,rfl,rfl⟩;obtain⟨t,p,rfl,hp,ht⟩:=hz.at hx;refine kK (aL.of ht) rfl ?_;walk_at "rdm";obtain⟨h1,h2,h3,h4⟩:=ok.r p (get_mem hp);exact⟨by lia,by lia,by lia,by lia,hN _ _ ⟨_,_,rfl,rfl⟩⟩
  ·rintro σ H' ⟨r,c,rfl,rfl⟩;walk_at "rdm";refine gU a (ts.map V.ref) (λD i ys aB H2=>ys=((z.take i).map λp=>V.int p.1)/\H2 D=some (.lst ys)/\aj H' H2/\H' D=none/\i<=z.length/\∃u,aB = [u]) (λQ q=>q) hz.sq ?_ ?_ ?_ ?_
   ·intro D hD;exact⟨rfl,aD,aj.put hD,hD,Nat.zero_le _,_,rfl⟩
   ·rintro D i ys aB H2 ⟨e,e1,e2,e3,e4,_⟩;refine⟨e1,?_,e2.seq hz.sq⟩;rw[e];refine fD ?_;simp only[List.length_map,List.length_take];lia
   ·rintro D i x ys aB H2 N hN hx ⟨e,e1,e2,e3,e4,u,rfl⟩;obtain⟨t,p,rfl,hp,ht⟩:=hz.at hx;have hl:=cN hp;walk_at "rdm";refine⟨_,aL.of (e2 _ _ ht),_,rfl,e1,hN _ _ _ ⟨?_,aD,aj.put2 e2 e3,e3,hl,_,rfl⟩⟩;rw[take_succ_get hp,List.map_append,e];rfl
   ·rintro D ys aB H2 ⟨e,e1,e2,e3,e4,u,rfl⟩;have e5:ys=(z.map λp=>p.1).map V.int:=by
     rw[e,lenZ hz.n,List.take_length,List.map_map];rfl
    rw[e5] at e1;walk_at "rdm";have s2:=ok.s2;have s1:=ok.zZ;exact⟨_,aA.of e1,by lia,by lia,q _ e2⟩
theorem afV(T:Tx K mg A)(aG:bx mg base A.bf A.aV):aX P w K mg base br 1 A.Cd A.Ce ["zones", "lap", "skew"] (abD K):=by
 refine T.Kz.ok JM (λvs H Q E h=>?_) (λaO Ar outer s H vs Q E hr h=>?_)
 ·obtain⟨a,ts,z,ao,bY,rfl,_⟩:=h
  rfl
 ·obtain⟨a,ts,z,ao,bY,rfl,hz,ok,h1,h2,h3,h4,hd,q⟩:=h;refine⟨_,(aF (ia (PW.pt (nK (iN (dF fz (aa 1) ak (bI _)) (iM (dF iQ (aa 1) (iw (v:=.int 1000000000) rfl T.LH ⟨_,rfl⟩) (bI _)))))) fR bT)
   (aF (cQ PassesOwn.never rfl (c_ (aa 0)) (ji rfl (cV (bB (i:=3) JM.nd rfl (Or.inl rfl)) (cV (bB (i:=4) JM.nd rfl (Or.inl rfl)) iO)))
   (aK (ia (dF SH (aE fj (aa 1) (aa 4)) ak (bI _)) fR bT)))
   (aK (ia (PW.pt (nK (iN (dF fz (aa 2) ak (bI _)) (iM (dF rP (aa 2) (aa 1) (bI _)))))) fR bT)))),?_⟩
  walk_at "rdm";refine⟨by lia,by lia,?_⟩
  refine rl a (ts.map V.ref) (λi σ H'=>∃r c,σ = [some (.ref a),some (.int ao),some (.int bY),r,c]/\H' = H) (λQ q=>q) hz.sq ⟨none,none,rfl,rfl⟩ (by rintro i σ H' _ ⟨r,c,rfl,rfl⟩;exact hz.sq) ?_ ?_
  ·rintro i x σ H' N hN hx ⟨r,c,rfl,rfl⟩;obtain⟨t,p,rfl,hp,ht⟩:=hz.at hx;refine kK (aL.of ht) rfl ?_;obtain⟨g1,g2,g3,g4⟩:=ok.r p (get_mem hp);have g5:=hd p (get_mem hp);walk_at "rdm";exact⟨by lia,g5,hN _ _ ⟨_,_,rfl,rfl⟩⟩
  ·rintro σ H' ⟨r,c,rfl,rfl⟩;walk_at "rdm";exact⟨by lia,by lia,q⟩
theorem afW(T:Tx K mg A)(aG:bx mg base A.bf A.aV):aX P w K mg base br 1 A.Ci A.Cj ["swing"] (abF K):=by
 refine T.KC.ok JN (λvs H Q E h=>?_) (λaO Ar outer s H vs Q E hr h=>?_)
 ·obtain⟨a,sw,n,rfl,_⟩:=h
  rfl
 ·obtain⟨a,sw,n,rfl,hS,ok,hn,q⟩:=h;refine⟨_,(aK (cQ PassesOwn.never rfl (qd rfl T.eY (ah ak (ah (bR eE rfl T.dm boot_len (ah (aa 0) au)) au))) (bB (i:=1) JN.nd rfl (Or.inl rfl))
   (aK (cQ PassesOwn.never rfl (qd rfl T.eY (ah ak (ah (aE dj (aE i9 (aa 1) ak) ak) au))) (bB (i:=2) JN.nd rfl (Or.inl rfl))
   (aK (c9 (cW iQ (aH bL (aa 0) (aa 1) (λ_ _=>rfl)) (aE dz (aH bL (aa 0) (aa 2) (λ_ _=>rfl)) (aH bL (aa 0) (aE k_ (aa 1) (aa 2)) (λ_ _=>rfl))) (bI _)) fR bT)))))),?_⟩
  walk_at "rdm";have hl:=ok.len;have h2:=ok.two;refine sJ 2 (sw.length:Int) (λi σ H'=>∃r c,σ = [some (.ref a),r,c]/\H' = H) (λQ q=>?_) (by lia) (by lia) (by lia) (by lia) ⟨none,none,rfl,rfl⟩ ?_ ?_
  ·walk_at "rdm";refine⟨_,.inl hS,?_⟩;simpa using q
  ·rintro i σ H' N hN hi ⟨r,c,rfl,rfl⟩;walk_at "rdm";refine sJ 1 ((2+(i:Int)) / 2+1) (λj σ H2=>∃c,σ = [some (.ref a),some (.int (2+(i:Int))),c]/\H2=H') (λQ q=>?_) (by lia) (by lia) (by lia) (by lia) ⟨_,rfl,rfl⟩ ?_ ?_
   ·walk_at "rdm";exact q
   ·rintro j σ H2 N2 f9 hj ⟨c,rfl,rfl⟩;walk_at "rdm";have e1:((2:Int)+(i:Int)).toNat=(1+j)+(1+i - j):=by lia
    have e2:((1:Int)+(j:Int)).toNat=1+j:=by lia
    have e3:((2:Int)+(i:Int) - (1+(j:Int))).toNat=1+i - j:=by lia
    have g:=ok.no (1+j) (1+i - j) (by lia) (by lia) (by lia)
    refine⟨_,hS,_,fF (by lia) (by lia),_,hS,_,fF (by lia) (by lia),_,hS,_,fF (by lia) (by lia),?_⟩
    walk_at "rdm";rw[e1,e2,e3];exact⟨by lia,f9 _ _ ⟨_,rfl,rfl⟩⟩
   ·rintro σ H2 ⟨c,rfl,rfl⟩;exact hN _ _ ⟨_,_,rfl,rfl⟩
  ·rintro σ H' ⟨r,c,rfl,rfl⟩;exact q
theorem afX(T:Tx K mg A)(aG:bx mg base A.bf A.aV):aX P w K mg base br 1 A.Ck A.Cm ["zones"] (abG K):=by
 refine T.KD.ok A6 (λvs H Q E h=>?_) (λaO Ar outer s H vs Q E hr h=>?_)
 ·obtain⟨a,ts,z,rfl,_⟩:=h
  rfl
 ·obtain⟨a,ts,z,rfl,hz,ok,q⟩:=h;refine⟨_,(aF (aQ (i:=1) A6.nd rfl (Or.inl rfl) (dG au))
   (aF (cQ PassesOwn.never rfl (c_ (aa 0)) (ji rfl (cV (bB (i:=2) A6.nd rfl (Or.inl rfl)) (cV (bB (i:=3) A6.nd rfl (Or.inl rfl)) iO)))
   (aK (c8 (jG PySem.F.plainAttrs_list PySem.F.slot_list_extend PySem.F.type_list_extend aaR (aa 1) (ah (aE PJ (dG (ah (aa 3) au)) (aa 2)) au)))))
   (aK (bF (aa 1))))),?_⟩
  walk_at "rdm";refine λl hl=>?_;refine rl a (ts.map V.ref) (λi σ H'=>∃r c,σ = [some (.ref a),some (.ref l),r,c]/\aj H H'/\H' l=some (.lst ((counts (z.take i)).map V.int))) (λQ q=>q) (aj.put hl |>.seq hz.sq) ⟨none,none,rfl,aj.put hl,aD⟩ (by rintro i σ H' _ ⟨r,c,rfl,hs,_⟩;exact hs.seq hz.sq) ?_ ?_
  ·rintro i x σ H' N hN hx ⟨r,c,rfl,hs,h1⟩;obtain⟨t,p,rfl,hp,ht⟩:=hz.at hx;refine kK (aL.of (hs _ _ ht)) rfl ?_;obtain⟨g1,g2,g3,g4⟩:=ok.r p (get_mem hp);have g5:=P_ ok i;walk_at "rdm";refine⟨⟨_,aA.of h1⟩,λp1 mD=>⟨by lia,by lia,by lia,λp2 fU=>?_⟩⟩
   have s1:=(aj.put (o:=.lst [V.int p.2]) mD).trans (aj.put (o:=.lst (List.replicate p.1.toNat [V.int p.2]).flatten) fU);refine⟨_,s1 _ _ h1,?_,hN _ _ ⟨_,_,rfl,aj.put2 (hs.trans s1) hl,?_⟩⟩
   ·simp only[Qa,List.length_map,List.length_replicate];lia
   ·rw[aD,take_succ_get hp,P9,List.map_append,Qa];simp[counts]
  ·rintro σ H' ⟨r,c,rfl,hs,h1⟩;walk_at "rdm";rw[lenZ hz.n,List.take_length] at h1;exact q _ _ hs hl h1
theorem VP(T:Tx K mg A)(aG:bx mg base A.bf A.aV):aX P w K mg base br 1 A.Cn A.Co ["ring_cells", "spares"] (abH K):=by
 refine T.DM.ok xC (λvs H Q E h=>?_) (λaO Ar outer s H vs Q E hr h=>?_)
 ·obtain⟨a,rc,s,rfl,_⟩:=h
  rfl
 ·obtain⟨a,rc,s,rfl,hS,hl,hc,fO,AW,q⟩:=h;refine⟨_,(aF (aQ (i:=2) xC.nd rfl (Or.inl rfl) (dG au))
   (aF (cQ PassesOwn.never rfl (Gu rfl T.um (ah (aa 0) au)) (ji rfl (cV (bB (i:=3) xC.nd rfl (Or.inl rfl)) (cV (bB (i:=4) xC.nd rfl (Or.inl rfl)) iO)))
   (aK (cQ PassesOwn.never rfl (jB rfl T.eY (ah (aE k_ (aa 4) (aa 1)) au)) (bB (i:=5) xC.nd rfl (Or.inl rfl))
   (aK (c8 (jG PySem.F.plainAttrs_list PySem.F.slot_list_append PySem.F.type_list_append jH (aa 2) (ah (cE (ah (aa 3) (ah (aa 5) au))) au)))))))
   (aK (bF (aa 2))))),?_⟩
  walk_at "rdm";refine λl cS=>?_;have o9:=aby (s:=s) fO (λc hx=>hc c hx);refine re a (rc.map V.int) (λi σ H'=>∃r c pl ts,σ = [some (.ref a),some (.int s),some (.ref l),r,c,pl]/\aj H H'/\(∀t∈ts,H t=none)/\Zn H' l ts (dY s 0 (rc.take i))) (λQ q=>?_) (aj.put cS |>.seq hS)
   ⟨none,none,none,[],rfl,aj.put cS,(by intro t ht;cases ht),aD,rfl,by intro i t p h;simp at h⟩ (by rintro i σ H' _ ⟨r,c,pl,ts,rfl,hs,_⟩;exact hs.seq hS) ?_ ?_
  ·walk_at "rdm";exact q
  ·rintro i x σ H' T1 N hN hx ⟨r,c,pl,ts,rfl,hs,lB,hz⟩ hT;obtain⟨c0,LK,rfl⟩:=dM hx;obtain⟨g1,g2⟩:=hc c0 (get_mem LK);refine kK (aL.of aD) rfl ?_;walk_at "rdm";have VQ:=aj.put (o:=.tup [.int i,.int c0]) hT;refine z9 (c0 - s) (λj σ H2=>∃pl ts,σ = [some (.ref a),some (.int s),some (.ref l),some (.int i),some (.int c0),pl]/\aj H H2/\(∀t∈ts,H t=none)/\Zn H2 l ts (dY s 0 (rc.take i)++(List.range j).map λ(k:Nat)=>((i:Int),(k:Int)))) (λQ q=>?_) (by lia) (by lia) ?_ ?_ ?_
   ·walk_at "rdm";exact q
   ·exact⟨_,ts,rfl,hs.trans VQ,lB,by simpa using hz.same VQ⟩
   ·rintro j σ H2 N2 f9 hj ⟨pl,ts,rfl,lP,LL,pJ⟩;walk_at "rdm";refine⟨⟨_,pJ.sq⟩,λp hp=>⟨_,aj.put hp _ _ pJ.l,?_,f9 _ _ ⟨_,ts++[p],rfl,aj.put2 (lP.trans (aj.put hp)) cS,?_,?_⟩⟩⟩
    ·have h1:=pJ.n;have h2:=o9 i;simp only[List.length_map,List.length_append,List.length_range] at h1 ⊢;lia
    ·intro t ht;rcases List.mem_append.mp ht with ht | ht
     ·exact LL t ht
     ·rw[List.mem_singleton.mp ht];exact lP.free hp
    ·have:=pJ.snoc hp (i:Int) (j:Int);rw[List.range_succ,List.map_append,← List.append_assoc];exact this
   ·rintro σ H2 ⟨pl,ts,rfl,lP,LL,pJ⟩;refine hN _ _ ⟨_,_,_,ts,rfl,lP,LL,?_⟩;rw[take_succ_get LK,P6];have hi:=cN LK;simpa[dY,Nat.min_eq_left (Nat.le_of_lt hi)] using pJ
  ·rintro σ H' ⟨r,c,pl,ts,rfl,hs,lB,hz⟩;walk_at "rdm";rw[List.length_map,List.take_length] at hz;exact q _ _ _ hs cS lB hz
theorem VR(T:Tx K mg A)(aG:bx mg base A.bf A.aV):aX P w K mg base br 1 A.Cp A.Cq ["number_cells"] (abI K):=by
 refine T.DN.ok A7 (λvs H Q E h=>?_) (λaO Ar outer s H vs Q E hr h=>?_)
 ·obtain⟨a,ts,z,rfl,_⟩:=h
  rfl
 ·obtain⟨a,ts,z,rfl,hz,hlen,q⟩:=h;have hu:=mY hr;refine⟨_,(aF (aQ (i:=1) A7.nd rfl (Or.inl rfl) Gh)
   (aF (cQ PassesOwn.never rfl (Gu rfl T.um (ah (aa 0) au)) (ji rfl (cV (bB (i:=2) A7.nd rfl (Or.inl rfl)) (cV (bB (i:=3) A7.nd rfl (Or.inl rfl)) iO)))
   (aK (v_ hu (aa 1) (aa 3) (aa 2) rfl)))
   (aK (bF (aa 1))))),?_⟩
  walk_at "rdm";refine λd hd=>?_;refine re a (ts.map V.ref) (λi σ H'=>∃r c,σ = [some (.ref a),some (.ref d),r,c]/\aj H H'/\i<=z.length/\H' d=some (.dT (gH 0 (z.take i) []))) (λQ q=>?_) (aj.put hd |>.seq hz.sq)
   ⟨none,none,rfl,aj.put hd,Nat.zero_le _,aD⟩ (by rintro i σ H' _ ⟨r,c,rfl,hs,_⟩;exact hs.seq hz.sq) ?_ ?_
  ·walk_at "rdm";exact q
  ·rintro i x σ H' T1 N hN hx ⟨r,c,rfl,hs,hi,h1⟩ hT;obtain⟨t,p,rfl,hp,ht⟩:=hz.at hx;refine kK (aL.of aD) rfl ?_;walk_at "rdm";have AW:=hs.trans (aj.put (o:=.tup [.int i,.ref t]) hT);have hl:=P8 (z.take i) 0 [];have nX:=cN hp;rw[List.length_take,List.length_nil] at hl;refine⟨_,jJ.t (k:=kT p) (aj.put hT _ _ h1) (AW _ _ ht) (by rw[lW];lia),hN _ _ ⟨_,_,rfl,aj.put2 AW hd,nX,?_⟩⟩
   rw[aD,take_succ_get hp,P7];simp[gH,Nat.min_eq_left (Nat.le_of_lt nX)]
  ·rintro σ H' ⟨r,c,rfl,hs,hi,h1⟩;walk_at "rdm";rw[lenZ hz.n,List.take_length] at h1;exact q _ _ hs hd h1
theorem alL(T:Tx K mg A)(aG:bx mg base A.bf A.aV):aX P w K mg base br 1 A.tV A.Cs ["self"] (abL K):=by
 refine T.Ub.ok afo (λvs H Q E h=>?_) (λaO Ar outer s H vs Q E hr h=>?_)
 ·obtain⟨C,p,P,fp,rfl,_⟩:=h
  rfl
 ·obtain⟨C,p,P,fp,rfl,hP,q⟩:=h;obtain⟨dx,a1,a2,a3,a4,ts,fs,rfl,h⟩:=hP;refine⟨_,(aK (bF (bR eE rfl T.dm boot_len (ah (b_ (aa 0) rfl) au)))),?_⟩;wp_walk using T,h.o,h.f1,h.f2,h.f3,h.f4,h.f5,h.f6,h.m1,h.m2,h.m3,h.m4,h.m5,h.m6,h.m7,h.m8,h.m9,h.fH,h.fW,h.cp.cl,h.cp.n1,h.cp.n2,h.cp.n3,h.cp.n4,h.cp.n5,h.cp.n6;exact⟨_,.inl (aA.of h.rc),by simpa  using q⟩
theorem afY(T:Tx K mg A)(aG:bx mg base A.bf A.aV):aX P w K mg base br 1 A.tW A.Ct ["self"] (abM K):=by
 refine T.Ue.ok afp (λvs H Q E h=>?_) (λaO Ar outer s H vs Q E hr h=>?_)
 ·obtain⟨C,p,P,fp,rfl,_⟩:=h
  rfl
 ·obtain⟨C,p,P,fp,rfl,hP,q⟩:=h;obtain⟨dx,a1,a2,a3,a4,ts,fs,rfl,h⟩:=hP;refine⟨_,(aK (bF (bR eE rfl T.dm boot_len (ah (b_ (aa 0) rfl) au)))),?_⟩;wp_walk using T,h.o,h.f1,h.f2,h.f3,h.f4,h.f5,h.f6,h.m1,h.m2,h.m3,h.m4,h.m5,h.m6,h.m7,h.m8,h.m9,h.fH,h.fW,h.cp.cl,h.cp.n1,h.cp.n2,h.cp.n3,h.cp.n4,h.cp.n5,h.cp.n6;exact⟨_,.inl (h.nc.sq),by simpa[h.nc.n] using q⟩
theorem LM(T:Tx K mg A)(aG:bx mg base A.bf A.aV):aX P w K mg base br 1 A.tX A.Cu ["self", "ring"] (abO K):=by
 refine T.Ui.ok afq (λvs H Q E h=>?_) (λaO Ar outer s H vs Q E hr h=>?_)
 ·obtain⟨C,p,P,fp,r,rfl,_⟩:=h
  rfl
 ·obtain⟨C,p,P,fp,r,rfl,hP,h0,h1,h2,h3,q⟩:=h;obtain⟨dx,a1,a2,a3,a4,ts,fs,rfl,h⟩:=hP;refine⟨_,(aK (bF (aE rO (b_ (aa 0) rfl) (aH bL (b_ (aa 0) rfl) (aa 1) (λ_ _=>rfl))))),?_⟩;wp_walk using T,h.o,h.f1,h.f2,h.f3,h.f4,h.f5,h.f6,h.m1,h.m2,h.m3,h.m4,h.m5,h.m6,h.m7,h.m8,h.m9,h.fH,h.fW,h.cp.cl,h.cp.n1,h.cp.n2,h.cp.n3,h.cp.n4,h.cp.n5,h.cp.n6;refine⟨_,aA.of h.rc,_,fF h0 h1,?_⟩;walk_at "rdm";exact⟨h2,by lia,q⟩
theorem afZ(T:Tx K mg A)(aG:bx mg base A.bf A.aV):aX P w K mg base br 1 A.tY A.Cv ["self"] (abN K):=by
 refine T.Ul.ok afr (λvs H Q E h=>?_) (λaO Ar outer s H vs Q E hr h=>?_)
 ·obtain⟨C,p,P,fp,rfl,_⟩:=h
  rfl
 ·obtain⟨C,p,P,fp,rfl,hP,q⟩:=h;obtain⟨dx,a1,a2,a3,a4,ts,fs,rfl,h⟩:=hP;refine⟨_,(aK (bF (b_ (aa 0) rfl))),?_⟩;wp_walk using T,h.o,h.f1,h.f2,h.f3,h.f4,h.f5,h.f6,h.m1,h.m2,h.m3,h.m4,h.m5,h.m6,h.m7,h.m8,h.m9,h.fH,h.fW,h.cp.cl,h.cp.n1,h.cp.n2,h.cp.n3,h.cp.n4,h.cp.n5,h.cp.n6;exact q
theorem af0(T:Tx K mg A)(aG:bx mg base A.bf A.aV):aX P w K mg base br 1 A.t_ A.Cy ["self", "ring", "other"] (abK K):=by
 refine T.Uw.ok aft (λvs H Q E h=>?_) (λaO Ar outer s H vs Q E hr h=>?_)
 ·obtain⟨C,p,P,fp,i,j,rfl,_⟩:=h
  rfl
 ·obtain⟨C,p,P,fp,i,j,rfl,hP,hi,q⟩:=h;obtain⟨dx,a1,a2,a3,a4,ts,fs,rfl,h⟩:=hP;refine⟨_,(aK (bF (aH bL (b_ (aa 0) rfl) (bR FH rfl T.uh boot_abs (ah (aE k_ (aa 1) (aa 2)) au)) (λ_ _=>rfl)))),?_⟩;wp_walk using T,h.o,h.f1,h.f2,h.f3,h.f4,h.f5,h.f6,h.m1,h.m2,h.m3,h.m4,h.m5,h.m6,h.m7,h.m8,h.m9,h.fH,h.fW,h.cp.cl,h.cp.n1,h.cp.n2,h.cp.n3,h.cp.n4,h.cp.n5,h.cp.n6;refine⟨_,aA.of h.sw,_,fF (k:=if i - j<0 then -(i - j) else i - j) (by split <;> lia) (by split <;> lia),?_⟩
  have e:(if i - j<0 then -(i - j) else i - j).toNat=(i - j).natAbs:=by split <;> lia
  rw[e];exact q
theorem VS(T:Tx K mg A)(aG:bx mg base A.bf A.aV):aX P w K mg base br 1 A.uc A.Cz ["self", "ring", "place"] (abQ K):=by
 refine T.UA.ok afu (λvs H Q E h=>?_) (λaO Ar outer s H vs Q E hr h=>?_)
 ·obtain⟨C,p,P,fp,r,c,rfl,_⟩:=h
  rfl
 ·obtain⟨C,p,P,fp,r,c,rfl,hP,q⟩:=h;obtain⟨dx,a1,a2,a3,a4,ts,fs,rfl,h⟩:=hP;refine⟨_,(aF (ia (PW.pt (nK (iN (dF fz (aa 1) ak (bI _)) (iM (dF rP (aa 1) (bR eE rfl T.dm boot_len (ah (b_ (aa 0) rfl) au)) (bI _)))))) (aK (bF iL)) bT)
   (aK (bF (oz (gR rP (aa 2) ak (bI _)) (lK (gR fz (aa 2) (aH bL (b_ (aa 0) rfl) (aa 1) (λ_ _=>rfl)) (bI _))))))),?_⟩
  wp_walk using h.o,h.f1,h.f2,h.f3,h.f4,h.f5,h.f6,h.m1,h.m2,h.m3,h.m4,h.m5,h.m6,h.m7,h.m8,h.m9,h.fH,h.fW,h.cp.cl,h.cp.n1,h.cp.n2,h.cp.n3,h.cp.n4,h.cp.n5,h.cp.n6;refine bW (λh0=>?_) (λh0=>⟨_,.inl (aA.of h.rc),bW (λh1=>?_) (λh1=>?_)⟩)
  ·rw[decide_eq_false (by lia)] at q;exact q
  ·rw[List.length_map] at h1;rw[decide_eq_false (by lia)] at q;exact q
  ·rw[List.length_map] at h1;refine bW (λh2=>⟨_,aA.of h.rc,_,fF (by lia) (by lia),?_⟩) (λh2=>?_)
   ·walk_at "rdm";have e:decide (c<P.rc.getD r.toNat 0)=decide (0<=r/\r<P.rc.length/\0<=c/\c<P.rc.getD r.toNat 0):=by
     by_cases h3:c<P.rc.getD r.toNat 0
     ·rw[decide_eq_true h3,decide_eq_true ⟨by lia,by lia,h2,h3⟩]
     ·rw[decide_eq_false h3,decide_eq_false (by lia)]
    rw[e];exact q
   ·rw[decide_eq_false (by lia)] at q;exact q
theorem VT(T:Tx K mg A)(aG:bx mg base A.bf A.aV):aX P w K mg base br 1 A.ue A.CB ["self", "number"] (abR K):=by
 refine T.UD.ok afv (λvs H Q E h=>?_) (λaO Ar outer s H vs Q E hr h=>?_)
 ·obtain⟨C,p,P,fp,k,rfl,_⟩:=h
  rfl
 ·obtain⟨C,p,P,fp,k,rfl,hP,h0,h1,q⟩:=h;obtain⟨dx,a1,a2,a3,a4,ts,fs,rfl,h⟩:=hP;refine⟨_,(aF (ia (PW.pt (nK (iN (dF fz (aa 1) ak (bI _)) (iM (dF rP (aa 1) (bR eE rfl T.dm boot_len (ah (b_ (aa 0) rfl) au)) (bI _)))))) fR bT)
   (aK (bF (aH bL (b_ (aa 0) rfl) (aa 1) (λ_ _=>rfl))))),?_⟩
  wp_walk using h.o,h.f1,h.f2,h.f3,h.f4,h.f5,h.f6,h.m1,h.m2,h.m3,h.m4,h.m5,h.m6,h.m7,h.m8,h.m9,h.fH,h.fW,h.cp.cl,h.cp.n1,h.cp.n2,h.cp.n3,h.cp.n4,h.cp.n5,h.cp.n6;have hn:=h.nc.n;refine⟨by lia,_,.inl h.nc.sq,by rw[List.length_map];lia,?_⟩
  have hk:k.toNat<ts.length:=by lia
  have g1:(ts.map V.ref)[k.toNat]? = some (V.ref ts[k.toNat]):=by simp[hk]
  obtain⟨t,q',e1,e2,e3⟩:=h.nc.at g1;have ek:k=(k.toNat:Int):=by lia
  refine⟨_,h.nc.sq,V.ref ts[k.toNat],?_,?_⟩
  ·have:=oM g1;rwa [← ek] at this
  ·rw[e1];exact q t q' e2 e3
theorem af1(T:Tx K mg A)(aG:bx mg base A.bf A.aV):aX P w K mg base br 1 A.CF A.CG ["spares", "ring_cells"] (abX K):=by
 refine T.KQ.ok afx (λvs H Q E h=>?_) (λaO Ar outer s H vs Q E hr h=>?_)
 ·obtain⟨a,rc,s,rfl,_⟩:=h
  rfl
 ·obtain⟨a,rc,s,rfl,hS,hl,h0,hc,q⟩:=h;refine⟨_,(aK (c9 (PW.pt (iN (dF fz (aa 0) ak (bI _)) (iM (cW rP (aa 0) (bR (Gw rfl) rfl T.nT boot_min (ah (aa 1) au)) (bI _))))) fR bT)),?_⟩;walk_at "rdm";refine⟨by lia,_,hS,hl,λM hM Em=>⟨?_,q⟩⟩
  have:=hc M hM;lia
theorem af2(T:Tx K mg A)(aG:bx mg base A.bf A.aV):aX P w K mg base br 1 A.CJ A.CK ["number_cells", "bad_cells"] (abZ K):=by
 refine T.KS.ok afy (λvs H Q E h=>?_) (λaO Ar outer s H vs Q E hr h=>?_)
 ·obtain⟨a,d,ts,z,az,rfl,_⟩:=h
  rfl
 ·obtain⟨a,d,ts,z,az,rfl,hz,hlen,hd,q⟩:=h;have hu:=mY hr;refine⟨_,(aK (bF (gm (N:=["number", "cell", "bad_cells"]) (nt:=2) (fv:=[1]) (cD.of rfl rfl (by rfl) (by rfl) (by repeat (first | exact trivial | refine⟨rfl,?_⟩)) (by rfl) (by rfl) (by rfl) (by decide) (by decide +kernel)) rfl (Gu rfl T.um (ah (aa 0) au)) (λC s H fp=>(Qi (K:=K) (n:=2) rfl rfl (cV (bB (i:=0) (show List.Nodup (["number", "cell", "bad_cells"]:List Str) by decide +kernel) rfl (Or.inl rfl)) (cV (bB (i:=1) (show List.Nodup (["number", "cell", "bad_cells"]:List Str) by decide +kernel) rfl (Or.inl rfl)) iO)))) (λC s H fp=>(lV (Fp (PY hu (aa 1) (aa 2))))) (λC s H fp=>(aa 0))))),?_⟩
  walk_at "rdm";refine rcE a (ts.map V.ref) (λD i ys aB H2=>ys=(iV az 0 (z.take i)).map V.int/\H2 D=some (.lst ys)/\aj H H2/\H D=none/\i<=z.length/\∃u v,aB = [u,v,some (.ref d)]) (λQ q=>by walk_at "rdm";exact q) hz.sq ?_ ?_ ?_ ?_
  ·intro D hD;exact⟨rfl,aD,aj.put hD,hD,Nat.zero_le _,_,_,rfl⟩
  ·rintro D i ys aB H2 ⟨e,e1,e2,e3,e4,_⟩;refine⟨e1,?_,e2.seq hz.sq⟩;have:=GJ az (z.take i) 0;rw[e,lW,List.length_map];rw[List.length_take] at this;lia
  ·rintro D i x ys aB H2 T1 N hN hx ⟨e,e1,e2,e3,e4,u,v,rfl⟩ hT;obtain⟨t,p,rfl,hp,ht⟩:=hz.at hx;have hl:=cN hp;refine kK (aL.of aD) rfl ?_;walk_at "rdm";have s1:=e2.trans (aj.put (o:=.tup [.int i,.ref t]) hT);refine⟨_,e7.t (k:=kT p) (s1 _ _ hd) (s1 _ _ ht),?_⟩;have eD:upd H2 T1 (.tup [.int i,.ref t]) D=some (.lst ys):=aj.put hT _ _ e1;refine bW (λhb=>⟨eD,hN _ _ _ ⟨?_,aD,aj.put2 s1 e3,e3,hl,_,_,rfl⟩⟩) (λhb=>hN _ _ _ ⟨?_,eD,s1,e3,hl,_,_,rfl⟩)
   ·rw[take_succ_get hp,GI,if_pos hb,List.map_append,e,List.length_take,Nat.min_eq_left (Nat.le_of_lt hl),Nat.zero_add];rfl
   ·rw[take_succ_get hp,GI,if_neg hb,List.append_nil,e]
  ·rintro D ys aB H2 ⟨e,e1,e2,e3,e4,u,v,rfl⟩;rw[lenZ hz.n,List.take_length] at e;rw[e] at e1;exact q _ _ e2 e3 e1
theorem af3(T:Tx K mg A)(aG:bx mg base A.bf A.aV):aX P w K mg base br 1 A.xM A.ug ["ring", "rings"] (ac4 A.aV (nC fZ) (nF "nearest_rings")):=by
 refine T.KU.okC afz (λvs H Q E h=>?_) (λAr outer s H vs Q E hr h=>?_)
 ·obtain⟨r,n,rfl,_⟩:=h
  rfl
 ·obtain⟨r,n,rfl,h2,ju,tab,q⟩:=h;have l6:(Ar.deeper (envOfC "nearest_rings" (aR fZ) s.heap.objs.size A.xM A.ug.code)).in1.in1.depth<recursionLimit:=hr.depth;refine⟨_,(aK (bF (acZ (c:=A.bf) (P:=A.aV) (ps:=["other"]) (fs:=["ring"]) (fv:=[0]) rfl T.uo rfl T.eY aG T.VH (kU.of rfl rfl rfl rfl (by rfl) (by rfl) (by repeat (first | exact trivial | refine⟨rfl,?_⟩)) (by rfl) (by rfl) (by rfl) (by decide +kernel)) rfl rfl rfl (λ_ _ _ _=>rfl) (λf c2 s2 H2=>(cE (ah (bR FH rfl T.uh boot_abs (ah (aE lQ (pv 0) (pv 1)) au)) (ah (pv 0) au)))) rfl l6 rfl rfl rfl (ah (pv 1) au)))),?_⟩
  simp only[Q8,o7,pD,mI,mC,xw,xx,qT,A3,tO,nM,nN,tQ,HU,xy,HV,AX,wW,r9,AG,AH,Ag,nv,Ah,Af,vO,sN,oN,vK,zL,zA,w5,Hy,vC,vB,vA,vF,vE,and_assoc,yX,HO.ins.injEq,zY,sI,eT,String.reduceBEq,List.lookup_cons,List.lookup_nil,aD,HO.lst.injEq,HO.dT.injEq,HO.tup.injEq,String.reduceEq,false_and,or_false,false_or,lW,wg,we,vZ,vW,vX,vY,wj,Bool.not_eq_true',decide_eq_false_iff_not,Classical.not_not,uY,if_false_left,if_false_right,wz,uR,iB,List.length_map,List.getElem?_nil,uT,p_,lN,rM,p8,p9,uZ,rH,tC,oG,gF,rI,ve,rU,vj,tB,uX,uW,zj,uU,rY,vo,rS,rT,uS,uM,ow,uN,uO,uP,uQ,vq,vp,vL,oO,vM,vN,vP,vQ,r_,qp,vg,vh,HZ,H_,Ia,Ib,Ic,Ie,Ig,Ih,qj,vf,zx,rR,vn,zC,vt,_L.start,GB,GC,HF,List.map_cons,List.map_nil,List.cons_append,List.nil_append,List.append_nil,List.length_cons,List.length_nil,List.getElem?_cons_zero,List.getElem?_cons_succ,Option.some.injEq,exists_eq_left,exists_eq_left',exists_and_left,exists_eq,V.int.injEq,V.ref.injEq,V.bl.injEq,V.ty.injEq,V.str.injEq,List.cons.injEq,and_true,true_and,List.set_cons_zero,List.set_cons_succ,decide_eq_true_eq,Nat.reduceSub,Nat.reduceAdd,List.replicate_succ,List.replicate_zero,List.replicate,Int.reduceLT,Int.reduceLE,Int.reducePow,Int.reduceToNat,Int.reduceNeg,Nat.reduceLT,Nat.reduceLeDiff,Nat.reducePow,Int.reduceMul,Int.reduceAdd,Int.reduceSub,and_self,or_true,true_or,gt_iff_lt,ge_iff_le,if_true,if_false,Bool.false_eq_true,reduceIte,Nat.sub_self,Nat.sub_zero];refine⟨n,rfl,h2,ju,i8 r,λj hj=>⟨by unfold i8;dsimp only;lia,by unfold i8;dsimp only;lia⟩,λi j hi hj e=>by unfold i8 at e;injection e with e1 e2;lia,tab,λj H2 hj sb tb=>?_,λD is H' a b c d e=>q D is H' a b c d e⟩
  have e:(if (j:Int) - r<0 then -((j:Int) - r) else(j:Int) - r)=(i8 r j).1:=by unfold i8;dsimp only;split <;> lia
  refine⟨_,rfl,_,rfl,λp hp=>⟨hp,?_⟩⟩;rw[e]
  rfl
theorem LN(T:Tx K mg A)(aG:bx mg base A.bf A.aV):aX P w K mg base br 1 A.CT A.CU ["_law_script", "_law_k"] (iU K):=by
 refine T.j8.ok afA (λvs H Q E h=>?_) (λaO Ar outer s H vs Q E hr h=>?_)
 ·obtain⟨a,ns,k,rfl,_⟩:=h
  rfl
 ·obtain⟨a,ns,k,rfl,hS,hl,hk,q⟩:=h;refine⟨_,(aF (ia (dF fz (aa 1) (bR eE rfl T.dm boot_len (ah (aa 0) au)) (bI _)) (aK (bF (aH bL (aa 0) (aa 1) (λ_ _=>rfl)))) bT)
   (aK (bF ak))),?_⟩
  walk_at "rdm";refine⟨_,.inl hS,bW (λcj=>⟨_,hS,_,fF hk (by simpa using cj),q⟩) λAo=>?_⟩
  have e:eg ns k=0:=by
   unfold eg;rw[List.length_map] at Ao;rw[List.getD_eq_getElem?_getD,List.getElem?_eq_none (by lia)];rfl
  rw[e] at q;exact q
theorem LO(T:Tx K mg A)(aG:bx mg base A.bf A.aV):aX P w K mg base br 1 A.CV A.CW ["_law_cell", "_law_many"] adE:=by
 refine T.yc.ok xE (λvs H Q E h=>?_) (λaO Ar outer s H vs Q E hr h=>?_)
 ·obtain⟨c,m,rfl,_⟩:=h
  rfl
 ·obtain⟨c,m,rfl,m0,m1,q⟩:=h;refine⟨_,(aF (aQ (i:=2) xE.nd rfl (Or.inl rfl) (dG au))
   (aF (aQ (i:=3) xE.nd rfl (Or.inl rfl) (aE dj (aE fj (aa 0) ak) ak))
   (aF (cQ PassesOwn.never rfl (jB rfl T.eY (ah (aE dj (aa 1) ak) au)) (bB (i:=4) xE.nd rfl (Or.inl rfl))
   (aF (aQ (i:=3) xE.nd rfl (Or.inl rfl) (aE fj (aE dj (aE dj (aE jV (aa 3) (aa 3)) (aE jV ak (aa 3))) (aa 4)) ak))
   (aK (c8 (jG PySem.F.plainAttrs_list PySem.F.slot_list_append PySem.F.type_list_append jH (aa 2) (ah (aa 3) au))))))
   (aK (bF (kE se (aa 2) (kD ak) kC)))))),?_⟩
  walk_at "rdm";intro p hp;refine z9 (m+1) (λi σ H'=>∃(x4:Option V) (nn:Int) (ns:List Int),σ = [some (.int c),some (.int m),some (.ref p),some (.int nn),x4]/\H' = upd H p (.lst (ns.map V.int))/\ns.length=i/\0<=nn/\nn<2147531918/\∀x∈ns,0<=x/\x<2147483647) (λQ q=>?_) (by lia) (by lia) ⟨none,_,[],rfl,rfl,rfl,by lia,by lia,λ_ h=>nomatch h⟩ ?_ ?_
  ·walk_at "rdm";exact q
  ·rintro i σ H' N hN hi ⟨x4,nn,ns,rfl,rfl,hn,n0,n1,nb⟩;walk_at "rdm";have k0:=Int.emod_nonneg (nn*nn+48271*nn+(i:Int)) (show (2147483647:Int)≠0 by decide)
   have k1:=Int.emod_lt_of_pos (nn*nn+48271*nn+(i:Int)) (show (0:Int)<2147483647 by decide)
   refine⟨.inl ⟨by lia,by lia⟩,⟨_,aA.of aD⟩,by lia,hN _ _ ⟨_,_,ns++[(nn*nn+48271*nn+(i:Int)) % 2147483647],rfl,?_,by simp[hn],k0,by lia,λx hx=>?_⟩⟩
   ·rw[List.map_append];rfl
   ·rcases List.mem_append.mp hx with hx | hx
    ·exact nb x hx
    ·rw[List.mem_singleton.mp hx];exact⟨k0,k1⟩
  ·rintro σ H' ⟨x4,nn,ns,rfl,rfl,hn,n0,n1,nb⟩;walk_at "rdm";refine⟨_,aA.of aD,λl hl=>?_⟩;have wD:l≠p:=(bO aD hl).symm;have zW:H l=none:=by rw[aI wD] at hl;exact hl
   refine q l (ns.drop 1) _ (aj.put2 (aj.put hp) zW) zW ?_ ⟨by rw[List.length_drop];lia,λx hx=>nb x (List.mem_of_mem_drop hx)⟩
   rw[aD,ach (by lia)]
theorem af4(T:Tx K mg A)(aG:bx mg base A.bf A.aV):aX P w K mg base br 1 A.CY A.CZ ["_law_xs", "_law_rings"] (adF K):=by
 refine T.KZ.ok qV (λvs H Q E h=>?_) (λaO Ar outer s H vs Q E hr h=>?_)
 ·obtain⟨xa,xs,m,rfl,_⟩:=h
  rfl
 ·obtain⟨xa,xs,m,rfl,hx,X,h2,tw,q⟩:=h;refine⟨_,(aF (c9 (cW jj (aE cB (aH bL (aa 0) ak (λ_ _=>rfl)) ak) ak (bI _)) (aF (aQ (i:=2) qV.nd rfl (Or.inl rfl) (aE dz ak (aE cB (aH bL (aa 0) ak (λ_ _=>rfl)) ak)))
   (aF (c9 (cW jj (aE cB (aE rO (aH bL (aa 0) ak (λ_ _=>rfl)) ak) ak) ak (bI _)) (aK (aQ (i:=2) qV.nd rfl (Or.inl rfl) (aE dz ak (aE cB (aH bL (aa 0) ak (λ_ _=>rfl)) (aE oH ak ak))))) bT)
   (aF (aQ (i:=3) qV.nd rfl (Or.inl rfl) (dG (ah ak au)))
   (aF (cQ PassesOwn.never rfl (qd rfl T.eY (ah ak (ah (aa 1) au))) (bB (i:=4) qV.nd rfl (Or.inl rfl))
   (aF (c8 (jG PySem.F.plainAttrs_list PySem.F.slot_list_append PySem.F.type_list_append jH (aa 3) (ah (aE dz (aH bL (aa 3) (qi qk ak) (λ_ _=>rfl)) (aa 2)) au)))
   (aK (aQ (i:=2) qV.nd rfl (Or.inl rfl) (aE lQ (aa 2) (aE cB (aH bL (aa 0) (aE dj ak (aE fj (aa 4) ak)) (λ_ _=>rfl)) (aE dj (aa 2) ak)))))))
   (aK (bF (aa 3))))))) bT)
   (aF (aQ (i:=5) qV.nd rfl (Or.inr rfl) (aE dz ak (aE cB (aH bL (aa 0) ak (λ_ _=>rfl)) (aE oH ak ak))))
   (aK (bF (aE su (dG (ah ak au)) (bR abo rfl T.uo boot_sorted (ah (gm (N:=["_law_k", "_law_least", "_law_xs"]) (nt:=1) (fv:=[5,0]) (cD.of rfl rfl (by rfl) (by rfl) (by repeat (first | exact trivial | refine⟨rfl,?_⟩)) (by rfl) (by rfl) (by rfl) (by decide) (by decide +kernel)) rfl (qd rfl T.eY (ah ak (ah (aa 1) au))) (λC s H fp=>(bB (i:=0) (show List.Nodup (["_law_k", "_law_least", "_law_xs"]:List Str) by decide +kernel) rfl (Or.inl rfl))) (λC s H fp=>iT) (λC s H fp=>(aE dz (aa 1) (aE cB (aH (HX (K:=K) rfl) (aa 2) (aE dj ak (aE fj (aa 0) ak)) (λ_ _=>rfl)) (aE dj (aa 1) ak))))) au))))))),?_⟩
  have xl:=X.n;have g:∀k:Int,0<=k->k<24->dR (xs.map V.int) k=some (.int (xs.getD k.toNat 0)):=λk h0 h1=>fF h0 (by lia)
  walk_at "rdm";refine⟨_,aA.of hx,_,g 10 (by decide) (by decide),?_⟩
  walk_at "rdm";refine bW (λh8=>⟨_,aA.of hx,_,g 11 (by decide) (by decide),_,rfl,_,aA.of hx,_,g 11 (by decide) (by decide),_,rfl,bW (λh9=>⟨_,aA.of hx,_,g 11 (by decide) (by decide),by decide,_,rfl,?_⟩) λh9=>?_⟩) λh8=>⟨_,aA.of hx,_,g 11 (by decide) (by decide),by decide,_,rfl,?_⟩
  ·skip
   intro l hl;have fO:1<=(1+xs.getD (Int.toNat 11) 0 % 10000000)/\(1+xs.getD (Int.toNat 11) 0 % 10000000)<=10000000:=⟨by have:=(X.md 11 (k:=10000000) (by decide)).1;lia,by have:=(X.md 11 (k:=10000000) (by decide)).2;lia⟩
   generalize (1+xs.getD (Int.toNat 11) 0 % 10000000)=s0 at fO ⊢;refine sJ 1 m (λj σ H'=>∃kk,σ = [some (.ref xa),some (.int m),some (.int (fJ xs s0 j)),some (.ref l),kk,none]/\aj H H'/\H' l=some (.lst (((List.range (1+j)).map (sumF (fJ xs s0))).map V.int)))
    (λQ q=>?_) (by lia) (by lia) (by lia) (by lia) ⟨none,rfl,aj.put hl,?_⟩ ?_ ?_
   ·walk_at "rdm";exact q
   ·rw[aD];simp[List.range_succ,sumF,fJ]
   ·rintro j σ H' N hN hj ⟨kk,rfl,hs,h1⟩;have b:=AI xs fO.1 j;have VU:0<=(1+(j:Int)) % 10/\(1+(j:Int)) % 10<10:=⟨Int.emod_nonneg _ (by decide),Int.emod_lt_of_pos _ (by decide)⟩
    walk_at "rdm";refine⟨⟨_,aA.of h1⟩,_,aA.of h1,_,GD (by simp;lia),?_⟩
    wp_walk using h1;refine⟨by rw[List.length_range];lia,_,aA.of (by rw[aI (bO hx hl)];exact hs _ _ hx),_,g _ (by lia) (by lia),_,rfl,by lia,hN _ _ ⟨some (.int (1+(j:Int))),?_,aj.put2 hs hl,?_⟩⟩
    ·rw[fJ]
    ·rw[aD,show 1+(j+1)=1+j+1 by lia,List.range_succ,List.map_append,List.map_append,List.length_range,_L.range_getD (by lia)]
     congr 4;simp only[List.map_cons,List.map_nil,List.cons.injEq,and_true,V.int.injEq];rw[show 1+j - 1=j by lia,show 1+j=j+1 by lia,sumF]
   ·rintro σ H' ⟨kk,rfl,hs,h1⟩;walk_at "rdm";have e:1+(m - 1).toNat=m.toNat:=by lia
    rw[e] at h1;have so:=Rt (f:=fJ xs s0) fO.1 fO.2 (AI xs fO.1) (n:=m.toNat) (by lia) (by lia)
    rw[show ((m.toNat:Nat):Int)=m by lia] at so
    exact q _ _ _ hs hl h1 so
  ·skip
   intro l hl;have fO:1<=(1+xs.getD (Int.toNat 11) 0 % 1000)/\(1+xs.getD (Int.toNat 11) 0 % 1000)<=10000000:=⟨by have:=(X.md 11 (k:=1000) (by decide)).1;lia,by have:=(X.md 11 (k:=1000) (by decide)).2;lia⟩
   generalize (1+xs.getD (Int.toNat 11) 0 % 1000)=s0 at fO ⊢;refine sJ 1 m (λj σ H'=>∃kk,σ = [some (.ref xa),some (.int m),some (.int (fJ xs s0 j)),some (.ref l),kk,none]/\aj H H'/\H' l=some (.lst (((List.range (1+j)).map (sumF (fJ xs s0))).map V.int)))
    (λQ q=>?_) (by lia) (by lia) (by lia) (by lia) ⟨none,rfl,aj.put hl,?_⟩ ?_ ?_
   ·walk_at "rdm";exact q
   ·rw[aD];simp[List.range_succ,sumF,fJ]
   ·rintro j σ H' N hN hj ⟨kk,rfl,hs,h1⟩;have b:=AI xs fO.1 j;have VU:0<=(1+(j:Int)) % 10/\(1+(j:Int)) % 10<10:=⟨Int.emod_nonneg _ (by decide),Int.emod_lt_of_pos _ (by decide)⟩
    walk_at "rdm";refine⟨⟨_,aA.of h1⟩,_,aA.of h1,_,GD (by simp;lia),?_⟩
    wp_walk using h1;refine⟨by rw[List.length_range];lia,_,aA.of (by rw[aI (bO hx hl)];exact hs _ _ hx),_,g _ (by lia) (by lia),_,rfl,by lia,hN _ _ ⟨some (.int (1+(j:Int))),?_,aj.put2 hs hl,?_⟩⟩
    ·rw[fJ]
    ·rw[aD,show 1+(j+1)=1+j+1 by lia,List.range_succ,List.map_append,List.map_append,List.length_range,_L.range_getD (by lia)]
     congr 4;simp only[List.map_cons,List.map_nil,List.cons.injEq,and_true,V.int.injEq];rw[show 1+j - 1=j by lia,show 1+j=j+1 by lia,sumF]
   ·rintro σ H' ⟨kk,rfl,hs,h1⟩;walk_at "rdm";have e:1+(m - 1).toNat=m.toNat:=by lia
    rw[e] at h1;have so:=Rt (f:=fJ xs s0) fO.1 fO.2 (AI xs fO.1) (n:=m.toNat) (by lia) (by lia)
    rw[show ((m.toNat:Nat):Int)=m by lia] at so
    exact q _ _ _ hs hl h1 so
  ·intro l0 cS;have hL:1<=1+xs.getD (Int.toNat 11) 0 % 100000000/\1+xs.getD (Int.toNat 11) 0 % 100000000<=100000000:=⟨by have:=(X.md 11 (k:=100000000) (by decide)).1;lia,by have:=(X.md 11 (k:=100000000) (by decide)).2;lia⟩
   generalize 1+xs.getD (Int.toNat 11) 0 % 100000000=L at hL ⊢;have s0:=aj.put (o:=.lst [V.int 0]) cS;refine Qd 1 m (λD i ys aB H2=>∃ns:List Int,ys=ns.map V.int/\ns.length=i/\(∀x∈ns,L<=x/\x<=2*L)/\H2 D=some (.lst ys)/\aj (upd H l0 (.lst [V.int 0])) H2/\upd H l0 (.lst [V.int 0]) D=none/\i<=60/\∃u,aB = [u,some (.int L),some (.ref xa)])
    (λQ q=>?_) (by lia) (by lia) (by lia) (by lia) ?_ ?_ ?_ ?_
   ·walk_at "rdm";exact q
   ·intro D hD;exact⟨[],rfl,rfl,(by intro x hx;cases hx),aD,aj.put hD,hD,by lia,none,rfl⟩
   ·rintro D i ys aB H2 ⟨ns,rfl,e0,_,e1,e2,e3,e4,_⟩;exact⟨e1,fD (by rw[List.length_map];lia)⟩
   ·rintro D i ys aB H2 N hN hi ⟨ns,rfl,e0,eb,e1,e2,e3,e4,u,rfl⟩;have VU:0<=(1+(i:Int)) % 10/\(1+(i:Int)) % 10<10:=⟨Int.emod_nonneg _ (by decide),Int.emod_lt_of_pos _ (by decide)⟩
    walk_at "rdm";have b1:=Int.emod_nonneg (xs.getD (12+(1+(i:Int)) % 10).toNat 0) (show L+1≠0 by lia)
    have b2:=Int.emod_lt_of_pos (xs.getD (12+(1+(i:Int)) % 10).toNat 0) (show 0<L+1 by lia)
    refine⟨_,aA.of (e2 _ _ (s0 _ _ hx)),_,g _ (by lia) (by lia),_,rfl,by lia,e1,hN _ _ _ ⟨ns++[L+xs.getD (12+(1+(i:Int)) % 10).toNat 0 % (L+1)],by rw[List.map_append];rfl,by simp[e0],?_,aD,aj.put2 e2 e3,e3,by lia,_,rfl⟩⟩
    intro x hx;rcases List.mem_append.mp hx with hx | hx
    ·exact eb x hx
    ·rw[List.mem_singleton.mp hx];generalize xs.getD (12+(1+(i:Int)) % 10).toNat 0 % (L+1)=y at b1 b2 ⊢;lia
   ·rintro D ys aB H2 ⟨ns,rfl,e0,eb,e1,e2,e3,e4,u,rfl⟩
    try walk_at "rdm"
    refine⟨ns,aA.of e1,by lia,λl fT hl hp hs=>?_⟩
    have VV:=e2 _ _ aD;have eB:l0≠l:=bO VV hl;refine⟨[V.int 0],by rw[aI eB];exact VV,?_,λp fU=>?_⟩
    ·have:=hp.length_eq;simp;lia
    ·have iR:p≠l:=(bO aD fU).symm;have nI:H2 p=none:=by rw[aI iR] at fU;exact fU
     have hH:H p=none:=(s0.trans e2).free nI;have hHl:H l=none:=(s0.trans e2).free hl;have so:=abT hL.1 hL.2 (ns:=fT) (λx hx=>eb x (hp.mem_iff.mp hx)) hs (by rw[hp.length_eq];lia)
     rw[hp.length_eq,show ((ns.length+1:Nat):Int)=m by lia] at so
     exact q p (0::fT) _ (aj.put2 (aj.put2 (s0.trans e2) hHl) hH) hH (by rw[aD];rfl) so
theorem af5(T:Tx K mg A)(aG:bx mg base A.bf A.aV):aX P w K mg base br 1 A.C4 A.C5 ["_law_spec_here", "_law_ring", "_law_beat", "_law_cells"] (adI K):=by
 refine T.K5.ok nO (λvs H Q E h=>?_) (λaO Ar outer s H vs Q E hr h=>?_)
 ·obtain⟨t,z,ao,sk,sw,za,bq,ca,sa,r,b,cl,bu,cz,rfl,_⟩:=h
  rfl
 ·obtain⟨t,z,ao,sk,sw,za,bq,ca,sa,r,b,cl,bu,cz,rfl,hS,ok,r0,r1,hz,hq,hlen,q⟩:=h;have pk:=ok.pl [];have VW:=pk.sw.len;refine⟨_,(aF (aQ (i:=4) nO.nd rfl (Or.inl rfl) (dG au))
   (aF (cQ PassesOwn.never rfl (c_ (aa 3)) (ji rfl (cV (bB (i:=5) nO.nd rfl (Or.inl rfl)) (cV (bB (i:=6) nO.nd rfl (Or.inl rfl)) iO)))
   (aF (aQ (i:=7) nO.nd rfl (Or.inl rfl) (aE rO (aH bH (aa 0) ak (λ_ _=>rfl)) (aH mW (aH bH (aa 0) ak (λ_ _=>rfl)) (aa 5) (λ_ _=>rfl))))
   (aF (aQ (i:=8) nO.nd rfl (Or.inl rfl) (aE dz (aa 2) (aH mW (aH bH (aa 0) ak (λ_ _=>rfl)) (bR FH rfl T.uh boot_abs (ah (aE k_ (aa 1) (aa 5)) au)) (λ_ _=>rfl))))
   (aF (aQ (i:=9) nO.nd rfl (Or.inl rfl) (aE dz (aa 8) (aE cB (aE lQ (aE dz (aE jV (aa 6) (aa 7)) (aE rN (aa 5) (aH bH (aa 0) ak (λ_ _=>rfl)))) (aa 8)) (aH bH (aa 0) ak (λ_ _=>rfl)))))
   (aF (aQ (i:=1) nO.nd rfl (Or.inl rfl) (aa 5))
   (aF (aQ (i:=2) nO.nd rfl (Or.inl rfl) (aE dj (aa 9) (aa 7)))
   (aK (c8 (jG PySem.F.plainAttrs_list PySem.F.slot_list_append PySem.F.type_list_append jH (aa 4) (ah (cE (ah (aa 5) (ah (aa 6) (ah (aa 9) (ah (aa 2) au))))) au))))))))))
   (aK (bF (aa 4))))),?_⟩
  walk_at "rdm";intro l hl;have sl:=aj.put (o:=.lst []) hl;generalize hP:bC z ao sk sw [] = P at pk VW hq q;have e1:P.rc=counts z:=by rw[← hP];rfl
  have e2:P.ao=ao:=by rw[← hP];rfl
  have e3:P.bY=sk:=by rw[← hP];rfl
  have e4:P.sw=sw:=by rw[← hP];rfl
  rw[← e1] at r1;have gM:=hS.o;have j_:=hS.c;have VX:=hS.s;rw[← e1] at j_;rw[← e2,← e3] at gM;rw[← e4] at VX;clear e1 e2 e3 e4 hP ok hS;refine rl cl (bu.map V.ref) (λi σ H'=>∃x y z w v u ts,σ = [some (.ref t),some (.int (aW P (r,b) (cz.take i)).1),some (.int (aW P (r,b) (cz.take i)).2),some (.ref cl),some (.ref l),x,y,z,w,v]/\aj H H'/\(∀t∈ts,H t=none)/\i<=cz.length/\Zt H' l ts (dh P (r,b) (cz.take i))/\u=0) (λQ q=>q) (sl.seq hz.sq)
   ⟨none,none,none,none,none,0,[],rfl,sl,(λ_ h=>nomatch h),Nat.zero_le _,Zt.start,rfl⟩ (by rintro i σ H' _ ⟨x,y,z,w,v,u,ts,rfl,hs,_⟩;exact hs.seq hz.sq) ?_ ?_
  ·rintro i x σ H' N hN hx ⟨x0,y0,z0,w0',v0,u0,dW,rfl,hs,lB,hi,h1,_⟩;obtain⟨t',w,rfl,hw,ht⟩:=hz.at hx;have nX:=cN hw;obtain⟨w0,w1,w2,w3⟩:=hq w (get_mem hw);have pK:=pk.c w.1.toNat (by lia)
   obtain⟨e0,e1⟩:=iX P (n:=P.rc.length) (cz.take i) (r,b) r0 r1 λq iS=>⟨(hq q (List.mem_of_mem_take iS)).1,(hq q (List.mem_of_mem_take iS)).2.1⟩;have es:aW P (r,b) (cz.take (i+1))=cT P (aW P (r,b) (cz.take i)) w:=by rw[take_succ_get hw,sO]
   have ws:dh P (r,b) (cz.take (i+1))=dh P (r,b) (cz.take i)++[nj P (aW P (r,b) (cz.take i)) w]:=by rw[take_succ_get hw,sP]
   rw[es,ws] at hN;have wl:(dh P (r,b) (cz.take i)).length=i:=by rw[kN,List.length_take];lia
   generalize aW P (r,b) (cz.take i)=st at e0 e1 hN ⊢;generalize dh P (r,b) (cz.take i)=rows at h1 wl hN ⊢;refine kK (aL.of (hs _ _ ht)) rfl ?_;have k1:=aL.of (K:=K) (hs _ _ gM);have k2:=aA.of (K:=K) (hs _ _ j_);have k3:=aA.of (K:=K) (hs _ _ VX);walk_at "rdm";have e:(if st.1 - w.1<0 then -(st.1 - w.1) else st.1 - w.1).toNat=(st.1 - w.1).natAbs:=by split <;> lia
   refine⟨_,k1,_,rfl,_,k1,_,rfl,ca,rfl,_,k2,_,fF w0 w1,_,rfl,_,rfl,by lia,by lia,_,k1,_,rfl,sa,rfl,_,k3,_,fF (k:=if st.1 - w.1<0 then -(st.1 - w.1) else st.1 - w.1) (by split <;> lia) (by split <;> lia),?_⟩
   rw[e];walk_at "rdm";have pl:=pk.ao;have pn:=pk.n1;refine⟨.inl ⟨by lia,by lia⟩,_,k1,_,rfl,_,rfl,.inl ⟨by lia,by lia⟩,_,k1,_,rfl,_,rfl,by lia,⟨_,aA.of h1.l⟩,λt1 n1=>?_⟩
   have en:st.2+P.sw.getD (st.1 - w.1).natAbs 0+(w.2*(P.ao / P.rc.getD w.1.toNat 0)+w.1*P.bY - (st.2+P.sw.getD (st.1 - w.1).natAbs 0)) % P.ao=oV P st w:=adH P w.1 w.2 _;rw[en];have hn:=h1.n;have e2:=aj.put n1 (o:=.tup [V.int w.1,V.int w.2,V.int (oV P st w),V.int (cT P st w).2]) _ _ h1.l;refine⟨_,e2,by simp;lia,hN _ _ ⟨_,_,_,_,_,_,dW++[t1],rfl,aj.put2 (hs.trans (aj.put n1)) hl,?_,nX,h1.snoc n1 (nj P st w),rfl⟩⟩
   intro t' jy;rcases List.mem_append.mp jy with jy | jy
   ·exact lB t' jy
   ·rw[List.mem_singleton.mp jy];exact hs.free n1
  ·rintro σ H' ⟨x0,y0,z0,w0',v0,u0,dW,rfl,hs,lB,hi,h1,_⟩;walk_at "rdm";rw[lenZ hz.n,List.take_length] at h1;exact q _ _ _ hs hl lB h1
theorem af6(T:Tx K mg A)(aG:bx mg base A.bf A.aV):aX P w K mg base br 1 A.Dh A.Di ["_law_one", "_law_other"] (aeb K):=by
 refine T.K_.ok afB (λvs H Q E h=>?_) (λaO Ar outer s H vs Q E hr h=>?_)
 ·obtain⟨t,u,k,o,b,cl,bu,b',e_,wX,rfl,_⟩:=h
  rfl
 ·obtain⟨t,u,k,o,b,cl,bu,b',e_,wX,rfl,hk,ho,q⟩:=h;refine⟨_,(aF (c9 (cW rP (aH bH (aa 1) ak (λ_ _=>rfl)) (aH bH (aa 0) ak (λ_ _=>rfl)) (bI _)) (aK (bF iL)) bT)
   (aF (c9 (cW FU (aH bH (aa 1) ak (λ_ _=>rfl)) (aH bH (aa 0) ak (λ_ _=>rfl)) rfl) (aK (bF iL)) bT)
   (aK (bF (oz (Fq (aH bH (aa 0) ak (λ_ _=>rfl)) (lK (aH bH (aa 1) ak (λ_ _=>rfl)))) (oz (gR fz (aH bH (aa 0) ak (λ_ _=>rfl)) (aE dz (aH bH (aa 1) ak (λ_ _=>rfl)) (aH bH (aa 1) ak (λ_ _=>rfl))) (bI _)) (lK (gR fz (aH bH (aa 1) ak (λ_ _=>rfl)) (aE dz (aH bH (aa 0) ak (λ_ _=>rfl)) (aH bH (aa 0) ak (λ_ _=>rfl))) (bI _))))))))),?_⟩
  have k1:=aL.of (K:=K) hk.o;have o1:=aL.of (K:=K) ho.o;walk_at "rdt";unfold keepsK at q;refine⟨_,o1,_,rfl,_,k1,_,rfl,_,rfl,_,rfl,bW (λh1=>?_) λh1=>?_⟩
  ·rw[show decide (o.n<k.n)=false by simpa using h1] at q
   exact q
  rw[show decide (o.n<k.n)=true by simp;lia] at q
  refine⟨_,o1,_,rfl,_,k1,_,rfl,b,rfl,_,.inr (aL.of hk.b),rfl,sS _,?_⟩;rw[nA];refine bW (λh2=>by simpa[h2] using q) λh2=>⟨_,k1,_,rfl,k.w,rfl,?_⟩
  have h2':decide (o.n∈k.bh)=false:=by simpa using h2
  rw[h2'] at q;refine bW (λh3=>?_) λh3=>⟨_,o1,_,rfl,o.w,rfl,bW (λh4=>?_) λh4=>?_⟩
  ·refine⟨_,k1,_,rfl,_,o1,_,rfl,_,o1,_,rfl,_,rfl,_,rfl,_,rfl,bW (λh5=>⟨_,o1,_,rfl,_,k1,_,rfl,_,k1,_,rfl,_,rfl,_,rfl,_,rfl,?_⟩) λh5=>?_⟩
   ·simpa[h3,h5] using q
   ·simpa[h3,h5] using q
  ·refine⟨_,k1,_,rfl,_,o1,_,rfl,_,o1,_,rfl,_,rfl,_,rfl,_,rfl,bW (λh5=>⟨_,o1,_,rfl,_,k1,_,rfl,_,k1,_,rfl,_,rfl,_,rfl,_,rfl,?_⟩) λh5=>?_⟩
   ·simpa[h4,h5] using q
   ·simpa[h4,h5] using q
  ·simpa[h3,h4] using q
theorem VY(T:Tx K mg A)(aG:bx mg base A.bf A.aV):aX P w K mg base br 1 A.Dm A.Dn ["_law_found"] adR:=by
 refine T.DV.ok afD (λvs H Q E h=>?_) (λaO Ar outer s H vs Q E hr h=>?_)
 ·obtain⟨n,rfl,_⟩:=h
  rfl
 ·obtain⟨n,rfl,q⟩:=h;refine⟨_,(aK (bF (oz (bR zX rfl T.qY boot_isinstance (ah (aa 0) (ah (zg (v:=.ty "int") rfl T.qX boot_int rfl) au))) (lK (ZW (bR zX rfl T.qY boot_isinstance (ah (aa 0) (ah (zg (v:=.ty "bool") rfl T.Ei boot_bool rfl) au)))))))),?_⟩;walk_at "rdm";refine⟨_,.int n,true,by rfl,?_⟩
  rw[if_pos rfl];exact⟨_,.int n,false,by rfl,q⟩
theorem VZ(T:Tx K mg A)(aG:bx mg base A.bf A.aV):aX P w K mg base br 1 A.Dp A.Dq ["_law_known_here", "_law_begun"] (aeZ K):=by
 refine T.DW.ok afE (λvs H Q E h=>?_) (λaO Ar outer s H vs Q E hr h=>?_)
 ·obtain⟨kl,b,bN,ks,bg,rfl,_⟩:=h
  rfl
 ·obtain⟨kl,b,bN,ks,bg,rfl,hk,nU,hb,q⟩:=h;refine⟨_,(aK (bF (gm (N:=["_law_one", "_law_begun"]) (nt:=1) (fv:=[1]) (cD.of rfl rfl (by rfl) (by rfl) (by repeat (first | exact trivial | refine⟨rfl,?_⟩)) (by rfl) (by rfl) (by rfl) (by decide) (by decide +kernel)) rfl (c_ (aa 0)) (λC s H fp=>(bB (i:=0) (show List.Nodup (["_law_one", "_law_begun"]:List Str) by decide +kernel) rfl (Or.inl rfl))) (λC s H fp=>(lV (cW (QB (K:=K) rfl) (aH (jW (K:=K) rfl) (aa 0) ak (λ_ _=>rfl)) (aa 1) rfl))) (λC s H fp=>(aa 0))))),?_⟩
  walk_at "rdt";have dH:=hk.n;refine gU kl (bN.map V.ref) (λD i ys aB H2=>∃(u:Option V) (ts:List Addr),ys=ts.map V.ref/\aB = [u,some (.ref b)]/\H2 D=some (.lst ys)/\aj H H2/\H D=none/\jT H ts (cL (ks.take i) bg)) (λQ q=>q) hk.sq ?_ ?_ ?_ ?_
  ·intro D hD;exact⟨none,[],rfl,rfl,aD,aj.put hD,hD,jT.nil⟩
  ·rintro D i ys aB H2 ⟨u,ts,rfl,rfl,e1,e2,e3,e4⟩;refine⟨e1,fD ?_,(hk.same e2).sq⟩;have:=List.length_filter_le (λk:Kn => !decide (k.n∈bg)) (ks.take i);rw[List.length_take] at this;have e5:=e4.n;unfold cL at e5;rw[List.length_map];lia
  ·rintro D i x ys aB H2 N hN hx ⟨u,ts,rfl,rfl,e1,e2,e3,e4⟩;obtain⟨t,ht,rfl⟩:=dM hx;have hi:i<ks.length:=by rw[← dH];exact cN ht
   obtain⟨b2,cl,bu,hK⟩:=hk.t i t ks[i] ht (List.getElem?_eq_getElem hi);have et:=tG (p:=λk:Kn => !decide (k.n∈bg)) (List.getElem?_eq_getElem hi);walk_at "rdt";refine⟨_,aL.of (e2 _ _ hK.o),_,rfl,_,.inr (aL.of (e2 _ _ hb)),rfl,sS _,bW (λh1=>?_) λh1=>?_⟩
   ·rw[nA] at h1;refine⟨e1,hN _ _ _ ⟨_,ts++[t],by simp,rfl,aD,aj.put2 e2 e3,e3,?_⟩⟩
    unfold cL at e4 ⊢;rw[et,if_pos (by simpa using h1)]
    exact e4.snoc ⟨_,_,_,hK⟩
   ·rw[nA] at h1;refine hN _ _ _ ⟨_,ts,rfl,rfl,e1,e2,e3,?_⟩;unfold cL at e4 ⊢;rw[et,if_neg (by simpa using h1),List.append_nil]
    exact e4
  ·rintro D ys aB H2 ⟨u,ts,rfl,rfl,e1,e2,e3,e4⟩;rw[List.length_map,dH,List.take_length] at e4;exact q D ts H2 e2 e3 ((e4.same e2).tD e1)
theorem af7(T:Tx K mg A)(aG:bx mg base A.bf A.aV):aX P w K mg base br 2 A.Be A.Bf ["behind"] (aco K):=by
 have nY:=LJ (P:=P) (w:=w) (base:=base) T aG;refine T.JQ.ok A4 (λvs H Q E h=>?_) (λaO Ar outer s H vs Q E hr h=>?_)
 ·obtain⟨b,ns,rfl,_⟩:=h
  rfl
 ·obtain⟨b,ns,rfl,hS,hR,q⟩:=h;refine⟨_,(aF (aQ (i:=1) A4.nd rfl (Or.inl rfl) (qi qk ak))
   (aK (cQ PassesOwn.never rfl (Fx (aa 0)) (bB (i:=2) A4.nd rfl (Or.inl rfl))
   (aF (c8 (aY nY (hr.mono (by first | decide | lia)) rfl T.pH T.nQ.kp T.pG .nil aN (ah (aa 2) (ah (aE dj (aa 1) ak) (ah (iw (v:=.int 99) rfl T.VA ⟨_,rfl⟩) (ah kr au))))))
   (aK (aQ (i:=1) A4.nd rfl (Or.inl rfl) (aa 2))))))),?_⟩
  walk_at "rdm";refine rt b (ns.map V.int) (λi σ H'=>∃x,σ = [some (.ref b),some (.int (wI (-1) ns i)),x]/\H' = H) (λQ q=>q) hS ⟨none,rfl,rfl⟩ (by rintro i σ H' _ ⟨x,rfl,rfl⟩;exact hS) ?_ ?_
  ·rintro i x σ H' N hN hx ⟨x0,rfl,rfl⟩;obtain⟨n,hn,rfl⟩:=dM hx;have st:=hR.step hn;walk_at "rdm";exact⟨n,_,99,_,rfl,st.1,st.2,hN _ _ ⟨some (.int n),by rw[acm hn],rfl⟩⟩
  ·rintro σ H' ⟨x0,rfl,rfl⟩;walk_at "rdm";exact q
theorem af8(T:Tx K mg A)(aG:bx mg base A.bf A.aV):aX P w K mg base br 2 A.Bx A.By ["heap", "thing"] aet:=by
 have V0:=afS (P:=P) (w:=w) (base:=base) T aG;refine T.J5.ok xA (λvs H Q E h=>?_) (λaO Ar outer s H vs Q E hr h=>?_)
 ·obtain⟨l,a,t,zs,rfl,_⟩:=h
  rfl
 ·obtain⟨l,a,t,zs,rfl,hl,ha,h0,hd,q⟩:=h;have j9:_+16<cLine:=Nat.lt_of_le_of_lt (Nat.add_le_add_left (by decide:16<=64) _) hr.units
  refine⟨_,(aF (aQ (i:=2) xA.nd rfl (Or.inl rfl) ak)
   (aF (aQ (i:=3) xA.nd rfl (Or.inl rfl) (aY V0 (hr.mono (by first | decide | lia)) rfl T.J4 T.DH.kp T.J0 .nil aN (ah (aa 0) (ah (aa 2) au))))
   (aF (Ft PassesOwn.never (PW.pt (rK (dF fz (aa 3) (bR eE rfl T.dm boot_len (ah (aa 0) au)) (bI _)) (rJ (cW (HK j9) (aH bL (aa 0) (aa 3) (λ_ _=>rfl)) (aa 1) (bI _)))))
   (aF (qa (aH bL (aa 0) (aa 3) (λ_ _=>rfl)) (u5 (aa 0) (aa 2) set_list))
   (aF (aQ (i:=2) xA.nd rfl (Or.inl rfl) (aa 3))
   (aK (aQ (i:=3) xA.nd rfl (Or.inl rfl) (aY V0 (hr.mono (by first | decide | lia)) rfl T.J4 T.DH.kp T.J0 .nil aN (ah (aa 0) (ah (aa 2) au))))))))
   (aK (qa (aa 1) (u5 (aa 0) (aa 2) set_list)))))),?_⟩
  walk_at "rdm";refine⟨l,zs,0,rfl,hl,by lia,?_⟩
  refine⟨λm σ H'=>∃(k:Nat) (ys:Ms),σ = [some (.ref l),some (.ref a),some (.int (k:Int)),some (.int ((fY ys k:Nat):Int))]/\H' = upd H l (.lst (mV ys))/\m+k=ys.length/\k<ys.length/\ys.length=zs.length/\gr H ys/\Down fc ys.length k (fm ys) (a,t)/\(ys.eraseIdx k).Perm (zs.eraseIdx 0),⟨zs.length,0,zs,rfl,(acg hl.l).symm,rfl,h0,rfl,hl.z,hd,.refl _⟩,?_⟩;rintro m σ H' ⟨k,ys,rfl,rfl,hm,hk,hy,hZ,dn,pe⟩;walk_at "rdm";have L:=aep ys k;have Lg:=aer ys k;have ln:=hl.n;refine⟨_,.inl (aA.of aD),bW (λh1=>?_) (λh1=>?_)⟩
  ·rw[g9] at h1;have hc:fY ys k<ys.length:=by lia
   have g1:=eN.get (zs:=ys) hc;refine⟨_,aA.of aD,_,g1,_,rfl,_,(hZ _ (List.getElem_mem hc)).eG hl.l,_,ha.eG hl.l,bW (λh4=>?_) (λh4=>?_)⟩
   ·refine⟨_,λ_ _ h=>h,_,aA.of aD,_,g1,_,by rw[g9];exact sR hk,?_⟩
    rw[tH];have Z2:=R6 (k:=k) hZ (hZ _ (List.getElem_mem hc));refine⟨l,ys.set k ys[fY ys k],fY ys k,rfl,hl.set Z2 (by rw[List.length_set];lia),by lia,ys.length - fY ys k,by lia,fY ys k,ys.set k ys[fY ys k],rfl,rfl,?_⟩
    rw[List.length_set,tK hk];refine⟨by lia,hc,hy,Z2,?_,(Qq hk hc (by lia)).trans pe⟩
    have:=dn.step qN L hc (by rw[gK hc];exact h4)
    rw[gK hc] at this;exact this
   ·skip
    refine⟨_,by rw[g9];exact sR hk,?_⟩
    rw[show (mV ys).set k (V.ref a)=mV (ys.set k (a,t)) from tH ys k (a,t)];refine q _ ((sQ hk (a,t)).trans (pe.cons _)) ?_;rw[List.length_set,tK hk];exact dn.done qN L (λz=>h4 (by have:=z.2;rw[gK hc] at this;exact this))
  ·rw[g9] at h1;refine⟨_,by rw[g9];exact sR hk,?_⟩
   rw[show (mV ys).set k (V.ref a)=mV (ys.set k (a,t)) from tH ys k (a,t)];refine q _ ((sQ hk (a,t)).trans (pe.cons _)) ?_;rw[List.length_set,tK hk];exact dn.done qN L (λz=>h1 (by have:=z.1;lia))
theorem af9(T:Tx K mg A)(aG:bx mg base A.bf A.aV):aX P w K mg base br 2 A.BA A.BB ["plate", "ask"] (adN K [A.bw,A.a_] A.bM):=by
 have LQ:=VT (P:=P) (w:=w) (base:=base) T aG;refine T.J6.ok afd (λvs H Q E h=>?_) (λaO Ar outer s H vs Q E hr h=>?_)
 ·obtain⟨C,p,ap,P,fp,q',m,b,dx,rfl,_⟩:=h
  rfl
 ·obtain⟨C,p,ap,P,fp,q',m,b,dx,rfl,hC,hP,ha,hf,hn,q⟩:=h;refine⟨_,(aK (bF (gm (N:=["number", "plate"]) (nt:=1) (fv:=[0]) (cD.of rfl rfl (by rfl) (by rfl) (by repeat (first | exact trivial | refine⟨rfl,?_⟩)) (by rfl) (by rfl) (by rfl) (by decide) (by decide +kernel)) rfl (qd rfl T.eY (ah (b_ (aa 1) rfl) (ah (aE dj (b_ (aa 1) rfl) (b_ (aa 1) rfl)) au))) (λC s H fp=>(bB (i:=0) (show List.Nodup (["number", "plate"]:List Str) by decide +kernel) rfl (Or.inl rfl))) (λC s H fp=>iT) (λC s H fp=>(kM (aa 1) T.VJ LQ (hr.mono (by first | decide | lia)) T.KO .nil aN (ah (aa 0) au)))))),?_⟩
  wp_walk using T,ha.o;obtain⟨f0,m0,m1,fit⟩:=hf;refine Qd q'.first (q'.first+q'.many) (λD i ys aB H2=>∃(u:Option V) (ts:List Addr),aB = [u,some (.ref p)]/\ys=ts.map V.ref/\Zn H2 D ts ((P.nc.drop q'.first.toNat).take i)/\aj H H2/\H D=none/\i<=16) (λQ q=>?_) (by lia) (by lia) (by lia) (by lia) ?_ ?_ ?_ ?_
  ·wp_walk using T,ha.o
   try exact q
  ·intro D hD;exact⟨none,[],rfl,rfl,by rw[List.take_zero];exact Zn.start,aj.put hD,hD,by lia⟩
  ·rintro D i ys aB H2 ⟨u,ts,rfl,rfl,g2,g3,g4,g5⟩;exact⟨g2.l,fD (by rw[List.length_map,g2.n,List.length_take];lia)⟩
  ·rintro D i ys aB H2 N hN hi ⟨u,ts,rfl,rfl,g2,g3,g4,g5⟩;walk_at "rdm";obtain⟨jz,a1,a2,a3,a4,dW,fs,nZ,hA⟩:=hP.same g3;refine⟨C,jz,fs,hA.o,hC,hA.m9,⟨C,p,P,fp,_,rfl,hP.same g3,by lia,by lia,λt q0 eq ht=>⟨g2.l,hN _ _ _ ⟨_,ts++[t],rfl,by rw[List.map_append];rfl,?_,aj.put2 g3 g4,g4,by lia⟩⟩⟩⟩
   rw[Hu f0 eq];exact g2.push ht
  ·rintro D ys aB H2 ⟨u,ts,rfl,rfl,g2,g3,g4,g5⟩;rw[show (q'.first+q'.many - q'.first).toNat=q'.many.toNat by lia] at g2
   exact q _ _ _ g3 g4 g2
theorem af_(T:Tx K mg A)(aG:bx mg base A.bf A.aV):aX P w K mg base br 2 A.BP A.BQ ["dues"] (aeM K A.bM A.bX):=by
 have aga:=afT (P:=P) (w:=w) (base:=base) T aG;refine T.Kf.ok afj (λvs H Q E h=>?_) (λaO Ar outer s H vs Q E hr h=>?_)
 ·obtain⟨l,ps,ds,rfl,_⟩:=h
  rfl
 ·obtain⟨l,ps,ds,rfl,hd,h7,q⟩:=h;refine⟨_,(aK (c9 (mO (jh (aY aga (hr.mono (by first | decide | lia)) rfl T.Tr T.Ke.kp T.Tq .nil aN (ah (aa 0) au)))) fR bT)),?_⟩
  walk_at "rdm";exact⟨l,ps,ds,rfl,hd,_,rfl,by simpa using h7,q⟩
theorem agb(T:Tx K mg A)(aG:bx mg base A.bf A.aV):aX P w K mg base br 2 A.BR A.BS ["due", "other"] (ad_ K A.bM A.bX):=by
 have agc:=afQ (P:=P) (w:=w) (base:=base) T aG;refine T.Kg.ok afk (λvs H Q E h=>?_) (λaO Ar outer s H vs Q E hr h=>?_)
 ·obtain⟨p,r,d,o,dx,ap,l,ts,m,b,bU,kL,wY,l',dW,m',b',wZ,rfl,_⟩:=h
  rfl
 ·obtain⟨p,r,d,o,dx,ap,l,ts,m,b,bU,kL,wY,l',dW,m',b',wZ,rfl,hd,ho,q⟩:=h;refine⟨_,(aK (bF (oz (gR iQ (b_ (aa 0) rfl) (b_ (aa 1) rfl) (bI _)) (lK (Fq (gR FU (b_ (aa 1) rfl) (b_ (b_ (aa 0) rfl) rfl) rfl) (lK (aY agc (hr.mono (by first | decide | lia)) rfl T.S5 T.JX.kp T.S4 .nil aN (ah (b_ (aa 0) rfl) (ah (b_ (aa 1) rfl) au))))))))),?_⟩
  have dP:=hd.o;have l_:=ho.o;have V1:=hd.a.o;unfold nH at dP l_;unfold nv at V1;wp_walk using T,dP,l_,V1;unfold jS at q;refine bW (λh1=>⟨_,.inr (aL.of hd.a.bh),rfl,sS _,?_⟩) λh1=>?_
  ·rw[nA];rw[show decide (o.n<d.n)=true by simpa using h1] at q
   refine bW (λh2=>?_) λh2=>⟨_,_,_,_,_,_,_,_,_,_,rfl,hd.a,ho.a,?_⟩
   ·simpa[h2] using q
   ·simpa[h2] using q
  ·rw[show decide (o.n<d.n)=false by simpa using h1] at q
   exact q
theorem agd(T:Tx K mg A)(aG:bx mg base A.bf A.aV):aX P w K mg base br 2 A.BY A.BZ ["dues", "kept", "begun"] (aeO K A.bM A.bX):=by
 have LR:=VO (P:=P) (w:=w) (base:=base) T aG;refine T.Ko.ok SM (λvs H Q E h=>?_) (λaO Ar outer s H vs Q E hr h=>?_)
 ·obtain⟨l,kd,b,ps,ds,az,bg,H0,rfl,_⟩:=h
  rfl
 ·obtain⟨l,kd,b,ps,ds,az,bg,H0,rfl,s0,hd,nU,hk,hb,q⟩:=h;have hu:=mY hr;refine⟨_,(aF (aQ (i:=3) SM.nd rfl (Or.inl rfl) (aY LR (hr.mono (by first | decide | lia)) rfl T.Km T.DJ.kp T.Kl .nil aN (ah (aa 0) (ah (aa 2) au))))
   (aK (bF (gm (N:=["due", "begun", "kept"]) (nt:=1) (fv:=[2,1]) (cD.of rfl rfl (by rfl) (by rfl) (by repeat (first | exact trivial | refine⟨rfl,?_⟩)) (by rfl) (by rfl) (by rfl) (by decide) (by decide +kernel)) rfl (c_ (aa 3)) (λC s H fp=>(bB (i:=0) (show List.Nodup (["due", "begun", "kept"]:List Str) by decide +kernel) rfl (Or.inl rfl))) (λC s H fp=>(lV (jh (bR (aeK (K:=K) rfl rfl) rfl T.Eh boot_all (ah (gm (N:=["other", "begun"]) (nt:=1) (fv:=[1]) (cD.of rfl rfl (by rfl) (by rfl) (by repeat (first | exact trivial | refine⟨rfl,?_⟩)) (by rfl) (by rfl) (by rfl) (by decide) (by decide +kernel)) rfl (RS (K:=K) rfl (aa3 hu (aa 2) (HY (K:=K) rfl (aa 0) rfl) (λ_ _=>rfl))) (λC s H fp=>(bB (i:=0) (show List.Nodup (["other", "begun"]:List Str) by decide +kernel) rfl (Or.inl rfl))) (λC s H fp=>iT) (λC s H fp=>(gR (acw (K:=K) rfl) (aa 0) (aa 1) rfl))) au))))) (λC s H fp=>(aa 0)))))),?_⟩
  walk_at "rdt";refine⟨l,b,ps,ds,bg,H0,rfl,s0,hd,nU,hb,λL pl H1 s1 nL hL hl=>?_⟩;have LS:=s0.trans s1;have n8:=hl.n;have ll:(bK ds bg).length<=100:=Nat.le_trans (List.length_filter_le _ _) nU;walk_at "rdt";refine gU L (pl.map V.ref) (λD i ys aB H2=>∃(u:Option V) (dO:List Addr),ys=dO.map V.ref/\aB = [u,some (.ref b),some (.ref kd)]/\H2 D=some (.lst ys)/\aj H1 H2/\H1 D=none/\h_ K A.bM A.bX H0 dO (((bK ds bg).take i).filter λd=>(k8 ds d).all λo=>decide (o∈bg))) (λQ q=>q) (aA.of hL) ?_ ?_ ?_ ?_
  ·intro D hD;exact⟨none,[],rfl,rfl,aD,aj.put hD,hD,h_.nil⟩
  ·rintro D i ys aB H2 ⟨u,dO,rfl,rfl,e1,e2,e3,e4⟩;refine⟨e1,fD ?_,aA.of (e2 _ _ hL)⟩;have:=List.length_filter_le (λd:Dr=>(k8 ds d).all λo=>decide (o∈bg)) ((bK ds bg).take i);rw[List.length_take] at this;have e5:=e4.n;rw[List.length_map];lia
  ·rintro D i x ys aB H2 N hN hx ⟨u,dO,rfl,rfl,e1,e2,e3,e4⟩;obtain⟨dp,jc,rfl⟩:=dM hx;have hi:i<(bK ds bg).length:=by rw[← n8];exact cN jc
   obtain⟨dx,ap,la,ts,m,b',bU,hD⟩:=hl.t i dp (bK ds bg)[i] jc (List.getElem?_eq_getElem hi);have dP:=e2 _ _ (LS _ _ hD.o);unfold nH at dP;have et:=tG (p:=λd:Dr=>(k8 ds d).all λo=>decide (o∈bg)) (List.getElem?_eq_getElem hi);have hmd:=(tL.mp (List.getElem_mem hi)).1;obtain⟨j,hj,ej⟩:=List.mem_iff_getElem.mp hmd;obtain⟨li,v1,v2,v3⟩:=hk.v j _ (by rw[List.getElem?_eq_getElem hj,ej])
   generalize (bK ds bg)[i] = d at *
   wp_walk using T,dP;have jd:=e2 _ _ (LS _ _ hk.d);have V2:=e2 _ _ (LS _ _ v3);refine gU li ((k8 ds d).map V.int) (λD2 j zs dX H3=>∃(u:Option V),zs=(((k8 ds d).take j).map λo=>decide (o∈bg)).map V.bl/\dX = [u,some (.ref b)]/\H3 D2=some (.lst zs)/\aj H2 H3/\H2 D2=none) (λQ q=>?_) (aA.of V2) ?_ ?_ ?_ ?_
   ·wp_walk using T,dP;have hg:=e7.k (k:=qL d.n) jd;rw[v1] at hg;exact⟨_,hg,q⟩
   ·intro D2 je;exact⟨none,rfl,rfl,aD,aj.put je,je⟩
   ·rintro D2 j zs dX H3 ⟨u,rfl,rfl,f1,f2,f3⟩;refine⟨f1,fD ?_,aA.of (f2 _ _ V2)⟩;have:(k8 ds d).length<=ds.length:=by unfold k8;rw[List.length_map];exact List.length_filter_le _ _
    simp only[List.length_map,List.length_take];lia
   ·rintro D2 j x zs dX H3 N3 hN3 hx3 ⟨u,rfl,rfl,f1,f2,f3⟩;obtain⟨o,ho,rfl⟩:=dM hx3;walk_at "rdt";refine⟨_,.inr (aL.of (f2 _ _ (e2 _ _ (s1 _ _ hb)))),rfl,sS _,f1,hN3 _ _ _ ⟨_,?_,rfl,aD,aj.put2 f2 f3,f3⟩⟩;rw[take_succ_get ho,List.map_append,List.map_append,nA];rfl
   ·rintro D2 zs dX H3 ⟨u,rfl,rfl,f1,f2,f3⟩;rw[List.length_map,List.take_length] at f1;refine⟨D2,rfl,_,aA.of f1,bW (λh1=>?_) λh1=>?_⟩
    ·refine⟨f2 _ _ e1,hN _ _ _ ⟨_,dO++[dp],by simp,rfl,aD,aj.put2 (e2.trans f2) e3,e3,?_⟩⟩
     rw[et,if_pos (by rw[List.all_map] at h1;exact h1)]
     exact e4.snoc ⟨_,_,_,_,_,_,_,hD⟩
    ·refine hN _ _ _ ⟨_,dO,rfl,rfl,f2 _ _ e1,e2.trans f2,e3,?_⟩;rw[et,if_neg (by rw[List.all_map] at h1;exact h1),List.append_nil]
     exact e4
  ·rintro D ys aB H2 ⟨u,dO,rfl,rfl,e1,e2,e3,e4⟩;rw[List.length_map,n8,List.take_length] at e4;exact q D dO H2 (s1.trans e2) (s1.free e3) e1 e4
theorem age(T:Tx K mg A)(aG:bx mg base A.bf A.aV):aX P w K mg base br 2 A.B0 A.B3 ["plate", "due"] (adS K [A.bw,A.a_] A.bM A.bX):=by
 have yh:=LM (P:=P) (w:=w) (base:=base) T aG;refine T.Kq.ok afm (λvs H Q E h=>?_) (λaO Ar outer s H vs Q E hr h=>?_)
 ·obtain⟨C,p,dp,P,fp,d,dx,ap,l,ts,m,b,bU,rfl,_⟩:=h
  rfl
 ·obtain⟨C,p,dp,P,fp,d,dx,ap,l,ts,m,b,bU,rfl,hC,hP,ok,hd,ci,n1,q⟩:=h;refine⟨_,(aK (bF (bR (Gv rfl) rfl T.uq boot_sum (ah (gm (N:=["ring", "place", "plate"]) (nt:=2) (fv:=[0]) (cD.of rfl rfl (by rfl) (by rfl) (by repeat (first | exact trivial | refine⟨rfl,?_⟩)) (by rfl) (by rfl) (by rfl) (by decide) (by decide +kernel)) rfl (c_ (b_ (aa 1) rfl)) (λC s H fp=>(Qi (K:=K) (n:=2) rfl rfl (cV (bB (i:=0) (show List.Nodup (["ring", "place", "plate"]:List Str) by decide +kernel) rfl (Or.inl rfl)) (cV (bB (i:=1) (show List.Nodup (["ring", "place", "plate"]:List Str) by decide +kernel) rfl (Or.inl rfl)) iO)))) (λC s H fp=>iT) (λC s H fp=>(kM (aa 2) T.LI yh (hr.mono (by first | decide | lia)) T.DO .nil aN (ah (aa 0) au)))) au)))),?_⟩
  have dP:=hd.o;unfold nH at dP;wp_walk using T,dP;have hz:=hd.c;refine gU l (ts.map V.ref) (λD i ys aB H2=>∃(u v:Option V),ys=((d.c.take i).map λq=>P.ao / P.rc.getD q.1.toNat 0).map V.int/\aB = [u,v,some (.ref p)]/\H2 D=some (.lst ys)/\aj H H2/\H D=none) (λQ q=>?_) hz.sq ?_ ?_ ?_ ?_
  ·wp_walk using T,dP
   try exact q
  ·intro D hD;exact⟨none,none,rfl,rfl,aD,aj.put hD,hD⟩
  ·rintro D i ys aB H2 ⟨u,v,rfl,rfl,e1,e2,e3⟩;exact⟨e1,fD (by rw[List.length_map,List.length_map,List.length_take];lia),(hz.same e2).sq⟩
  ·rintro D i x ys aB H2 N hN hx ⟨u,v,rfl,rfl,e1,e2,e3⟩;obtain⟨t,w,rfl,hw,ht⟩:=(hz.same e2).at hx;obtain⟨w0,w1,w2,w3⟩:=ci w (get_mem hw);have pK:=ok.c w.1.toNat (by lia)
   refine kK (aL.of ht) rfl ?_;walk_at "rdm";obtain⟨jz,a1,a2,a3,a4,dW,fs,nZ,hA⟩:=hP.same e2;refine⟨C,jz,fs,hA.o,hC,hA.m4,⟨C,p,P,fp,_,rfl,hP.same e2,w0,w1,pK.1,pK.2,e1,hN _ _ _ ⟨_,_,?_,rfl,aD,aj.put2 e2 e3,e3⟩⟩⟩;rw[take_succ_get hw,List.map_append,List.map_append];rfl
  ·rintro D ys aB H2 ⟨u,v,rfl,rfl,e1,e2,e3⟩;rw[lenZ hz.n,List.take_length] at e1;exact⟨D,rfl,_,aA.of e1,q H2 e2⟩
theorem agf(T:Tx K mg A)(aG:bx mg base A.bf A.aV):aX P w K mg base br 2 A.Cf A.Cg ["swing", "rings"] (abE K):=by
 have agg:=afW (P:=P) (w:=w) (base:=base) T aG;refine T.KA.ok SQ (λvs H Q E h=>?_) (λaO Ar outer s H vs Q E hr h=>?_)
 ·obtain⟨a,sw,n,rfl,_⟩:=h
  rfl
 ·obtain⟨a,sw,n,rfl,hS,ok,hn,q⟩:=h;refine⟨_,(aF (ia (dF SH (bR eE rfl T.dm boot_len (ah (aa 0) au)) (aa 1) (bI _)) fR bT)
   (aF (c9 (cW zy (aH bL (aa 0) ak (λ_ _=>rfl)) ak (bI _)) fR bT)
   (aF (cQ PassesOwn.never rfl (qd rfl T.eY (ah ak (ah (aa 1) au))) (bB (i:=2) SQ.nd rfl (Or.inl rfl))
   (aF (c9 (PW.pt (iN (cW fz (aH bL (aa 0) (aa 2) (λ_ _=>rfl)) ak (bI _)) (iM (cW iQ (aH bL (aa 0) (aa 2) (λ_ _=>rfl)) (iw (v:=.int 1000000000) rfl T.LH ⟨_,rfl⟩) (bI _))))) fR bT)
   (aK (c9 (cW fz (aH bL (aa 0) (aa 2) (λ_ _=>rfl)) (aH bL (aa 0) (aE k_ (aa 2) ak) (λ_ _=>rfl)) (bI _)) fR bT))))
   (aK (c8 (aY agg (hr.mono (by first | decide | lia)) rfl T.T8 T.KC.kp T.T7 .nil aN (ah (aa 0) au))))))),?_⟩
  walk_at "rdm";have hl:=ok.len;have h2:=ok.two;refine⟨_,.inl hS,by simpa using hl,_,hS,_,fF (by lia) (by lia),rfl,by rw[show (0:Int).toNat=0 from rfl,ok.z],?_⟩
  refine sJ 1 n (λi σ H'=>∃r,σ = [some (.ref a),some (.int n),r]/\H' = H) (λQ q=>?_) (by lia) (by lia) (by lia) (by lia) ⟨none,rfl,rfl⟩ ?_ ?_
  ·walk_at "rdm";exact q
  ·rintro i σ H' N hN hi ⟨r,rfl,rfl⟩;walk_at "rdm";have e1:((1:Int)+(i:Int)).toNat=1+i:=by lia
   have e2:((1:Int)+(i:Int) - 1).toNat=1+i - 1:=by lia
   have g:=ok.pos (1+i) (by lia) (by lia)
   have g2:=ok.up (1+i) (by lia) (by lia)
   refine⟨_,hS,_,fF (by lia) (by lia),?_⟩
   walk_at "rdm";rw[e1];refine⟨by lia,_,hS,_,fF (by lia) (by lia),?_⟩
   walk_at "rdm";rw[e1];refine⟨by lia,_,hS,_,fF (by lia) (by lia),_,hS,_,fF (by lia) (by lia),?_⟩
   walk_at "rdm";rw[e1,e2];exact⟨by lia,hN _ _ ⟨_,rfl,rfl⟩⟩
  ·rintro σ H' ⟨r,rfl,rfl⟩;walk_at "rdm";exact⟨a,sw,n,rfl,hS,ok,hn,q⟩
theorem agh(T:Tx K mg A)(aG:bx mg base A.bf A.aV):aX P w K mg base br 2 A.tZ A.Cw ["self", "ring", "place"] (abP K [A.bw,A.a_]):=by
 have yh:=LM (P:=P) (w:=w) (base:=base) T aG;refine T.Ur.ok afs (λvs H Q E h=>?_) (λaO Ar outer s H vs Q E hr h=>?_)
 ·obtain⟨C,p,P,fp,r,c,rfl,_⟩:=h
  rfl
 ·obtain⟨C,p,P,fp,r,c,rfl,hC,hP,h0,h1,h2,h3,h4,h5,h6,h7,q⟩:=h;obtain⟨dx,a1,a2,a3,a4,ts,fs,nZ,h⟩:=id hP;refine⟨_,(aK (bF (aE cB (aE dz (aE rN (aa 2) (kM (aa 0) T.LI yh (hr.mono (by first | decide | lia)) T.DO .nil aN (ah (aa 1) au))) (aE jV (aa 1) (b_ (aa 0) rfl))) (b_ (aa 0) rfl)))),?_⟩
  wp_walk using h.o,h.f1,h.f2,h.f3,h.f4,h.f5,h.f6,h.m1,h.m2,h.m3,h.m4,h.m5,h.m6,h.m7,h.m8,h.m9,h.fH,h.fW,h.cp.cl,h.cp.n1,h.cp.n2,h.cp.n3,h.cp.n4,h.cp.n5,h.cp.n6;refine⟨hC,C,p,P,fp,r,rfl,hP,h0,h1,h3,h4,?_⟩;wp_walk using h.o,h.f1,h.f2,h.f3,h.f4,h.f5,h.f6,h.m1,h.m2,h.m3,h.m4,h.m5,h.m6,h.m7,h.m8,h.m9,h.fH,h.fW,h.cp.cl,h.cp.n1,h.cp.n2,h.cp.n3,h.cp.n4,h.cp.n5,h.cp.n6;exact⟨.inl ⟨by lia,by lia⟩,.inl ⟨by lia,by lia⟩,h7,q⟩
theorem agi(T:Tx K mg A)(aG:bx mg base A.bf A.aV):aX P w K mg base br 2 A.uf A.CC ["self", "ring", "place"] (abS K [A.bw,A.a_]):=by
 have LU:=VS (P:=P) (w:=w) (base:=base) T aG;refine T.UH.ok afw (λvs H Q E h=>?_) (λaO Ar outer s H vs Q E hr h=>?_)
 ·obtain⟨C,p,P,fp,r,c,rfl,_⟩:=h
  rfl
 ·obtain⟨C,p,P,fp,r,c,rfl,hC,hP,h0,h1,h2,h3,q⟩:=h;obtain⟨dx,a1,a2,a3,a4,ts,fs,nZ,h⟩:=id hP;have hu:=mY hr;refine⟨_,(aF (c9 (mO (jh (kM (aa 0) T.VI LU (hr.mono (by first | decide | lia)) T.KN .nil aN (ah (aa 1) (ah (aa 2) au))))) fR bT)
   (aK (bF (aa_ hu (b_ (aa 0) rfl) (cE (ah (aa 1) (ah (aa 2) au))) ⟨rfl,rfl,rfl,rfl⟩)))),?_⟩
  wp_walk using h.o,h.f1,h.f2,h.f3,h.f4,h.f5,h.f6,h.m1,h.m2,h.m3,h.m4,h.m5,h.m6,h.m7,h.m8,h.m9,h.fH,h.fW,h.cp.cl,h.cp.n1,h.cp.n2,h.cp.n3,h.cp.n4,h.cp.n5,h.cp.n6;refine⟨hC,C,p,P,fp,r,c,rfl,hP,?_⟩;rw[decide_eq_true ⟨h0,h1,h2,h3⟩];wp_walk using h.o,h.f1,h.f2,h.f3,h.f4,h.f5,h.f6,h.m1,h.m2,h.m3,h.m4,h.m5,h.m6,h.m7,h.m8,h.m9,h.fH,h.fW,h.cp.cl,h.cp.n1,h.cp.n2,h.cp.n3,h.cp.n4,h.cp.n5,h.cp.n6;refine⟨by simp,.inr ⟨_,.inl h.cn⟩,λt nt=>⟨_,e7.t (k:=kT (r,c)) (aj.put nt _ _ h.cn) aD,q _ (aj.put nt)⟩⟩
theorem agj(T:Tx K mg A)(aG:bx mg base A.bf A.aV):aX P w K mg base br 2 A.CH A.CI ["plate", "bad"] (abY K [A.bw,A.a_]):=by
 have LU:=VS (P:=P) (w:=w) (base:=base) T aG;refine T.KR.ok A8 (λvs H Q E h=>?_) (λaO Ar outer s H vs Q E hr h=>?_)
 ·obtain⟨C,p,ba,P,fp,iW,bz,rfl,_⟩:=h
  rfl
 ·obtain⟨C,p,ba,P,fp,iW,bz,rfl,hC,hP,hz,hlen,nd,hv,q⟩:=h;have hu:=mY hr;refine⟨_,(aF (aQ (i:=2) A8.nd rfl (Or.inl rfl) Gh)
   (aF (cQ PassesOwn.never rfl (c_ (aa 1)) (ji rfl (cV (bB (i:=3) A8.nd rfl (Or.inl rfl)) (cV (bB (i:=4) A8.nd rfl (Or.inl rfl)) iO)))
   (aF (c9 (PW.pt (iN (mO (jh (kM (aa 0) T.VI LU (hr.mono (by first | decide | lia)) T.KN .nil aN (ah (aa 3) (ah (aa 4) au))))) (iM (Fp (PY hu (cE (ah (aa 3) (ah (aa 4) au))) (aa 2)))))) fR bT)
   (aK (v_ hu (aa 2) (cE (ah (aa 3) (ah (aa 4) au))) iL rfl))))
   (aK (bF (aa 2))))),?_⟩
  walk_at "rdm";refine λd hd=>?_;refine rl ba (iW.map V.ref) (λi σ H'=>∃r c,σ = [some (.ref p),some (.ref ba),some (.ref d),r,c]/\aj H H'/\i<=bz.length/\H' d=some (.dT (cG (bz.take i)))) (λQ q=>q) (aj.put hd |>.seq hz.sq)
   ⟨none,none,rfl,aj.put hd,Nat.zero_le _,aD⟩ (by rintro i σ H' _ ⟨r,c,rfl,hs,_⟩;exact hs.seq hz.sq) ?_ ?_
  ·rintro i x σ H' N hN hx ⟨r,c,rfl,hs,hi,h1⟩;obtain⟨t,w,rfl,hw,ht⟩:=hz.at hx;refine kK (aL.of (hs _ _ ht)) rfl ?_;have qZ:=hP.same hs;obtain⟨dx,a1,a2,a3,a4,ts,fs,nZ,h⟩:=id qZ;obtain⟨v0,v1,v2,v3⟩:=hv w (get_mem hw);have nX:=cN hw;wp_walk using h.o,h.f1,h.f2,h.f3,h.f4,h.f5,h.f6,h.m1,h.m2,h.m3,h.m4,h.m5,h.m6,h.m7,h.m8,h.m9,h.fH,h.fW,h.cp.cl,h.cp.n1,h.cp.n2,h.cp.n3,h.cp.n4,h.cp.n5,h.cp.n6;refine⟨hC,C,p,P,fp,_,_,rfl,qZ,?_⟩;rw[decide_eq_true ⟨v0,v1,v2,v3⟩];refine⟨true,rfl,by simp,λt1 n1=>?_⟩
   have qo:w∉bz.take i:=by
    intro hm;obtain⟨j,hj,e⟩:=List.mem_iff_getElem.mp hm;rw[List.length_take] at hj;rw[List.getElem_take] at e;have g1:bz[j]? = some w:=by rw[← e];exact List.getElem?_eq_getElem (by lia)
    have:=(List.getElem?_inj (by lia) nd).mp (g1.trans hw.symm)
    lia
   have s1:=aj.put (o:=.tup [V.int w.1,V.int w.2]) n1;refine⟨_,e7.t (k:=kT w) (s1 _ _ h1) aD,by rw[wG qo];simp,λt2 n2=>?_⟩
   have s2:=s1.trans (aj.put (o:=.tup [V.int w.1,V.int w.2]) n2);refine⟨_,jJ.t (k:=kT w) (s2 _ _ h1) aD (by rw[lW,cG,List.length_map,List.length_take];lia),hN _ _ ⟨_,_,rfl,aj.put2 (hs.trans s2) hd,nX,?_⟩⟩
   rw[aD,PN _ (wG qo),take_succ_get hw];simp[cG]
  ·rintro σ H' ⟨r,c,rfl,hs,hi,h1⟩;walk_at "rdm";rw[lenZ hz.n,List.take_length] at h1;exact q _ _ hs hd h1
theorem agk(T:Tx K mg A)(aG:bx mg base A.bf A.aV):aX P w K mg base br 2 A.CL A.CM ["ring_cells", "spares", "ring", "used"] (adp K A.aV (nC fZ) (nF "nearest_rings")):=by
 have agl:=af3 (P:=P) (w:=w) (base:=base) T aG;refine T.KW.ok A9 (λvs H Q E h=>?_) (λaO Ar outer s H vs Q E hr h=>?_)
 ·obtain⟨ra,ud,r,sp,rc,us,rfl,_⟩:=h
  rfl
 ·obtain⟨ra,ud,r,sp,rc,us,rfl,En,h2,ju,s0,s1,hc,hud,tab,q⟩:=h;have hu:=mY hr;refine⟨_,(aF (cQ PassesOwn.never rfl (c_ (aY agl (hr.mono (by first | decide | lia)) rfl T.UR T.KU.kp T.UQ .nil aN (ah (aa 2) (ah (bR eE rfl T.dm boot_len (ah (aa 0) au)) au)))) (bB (i:=4) A9.nd rfl (Or.inl rfl))
   (aF (aQ (i:=5) A9.nd rfl (Or.inl rfl) (aH bL (aa 0) (aa 4) (λ_ _=>rfl)))
   (aK (cQ PassesOwn.never rfl (qd rfl T.eY (ah (aE k_ (aa 5) (aa 1)) (ah (aa 5) au))) (bB (i:=6) A9.nd rfl (Or.inl rfl))
   (aK (c9 (Fp (aa4 hu (cE (ah (aa 4) (ah (aa 6) au))) (aa 3))) (aK (bF (cE (ah (aa 4) (ah (aa 6) au))))) bT))))))
   (aK (bF oq))),?_⟩
  walk_at "rdm";refine sL ?_;walk_at "rdm";refine⟨_,.inl En,r,rc.length,by rw[List.length_map],h2,ju,tab,λl is H1 sb t1 nl LV ord=>⟨l,rfl,?_⟩⟩
  have k1:=(Kp.mk sb t1).step (aj.put (o:=.lst (is.map λ(i:Nat)=>V.int (i:Int))) LV);refine nh.by l (is.map λ(i:Nat)=>V.int (i:Int)) (λi σ H'=>∃o c p,σ = [some (.ref ra),some (.int sp),some (.int r),some (.ref ud),o,c,p]/\aj (upd H1 l (.lst (is.map λ(i:Nat)=>V.int (i:Int)))) H'/\∀c∈(is.take i).flatMap (iE rc sp),c∈us)
   (aA.of aD) ⟨none,none,none,rfl,aj.refl _,by simp⟩ (by rintro i σ H' _ ⟨o,c,p,rfl,sm,_⟩;exact aA.of (sm _ _ aD)) ?_ ?_
  ·rintro i x σ H' N hN hx ⟨o,c,p,rfl,sm,qt⟩;obtain⟨k,hk,rfl⟩:=dM hx;have kl:k<rc.length:=List.mem_range.mp (ord.1.mem_iff.mp (get_mem hk));have kk:=k1.step sm;have ra':=kk.seq tab En;have ck:sp<=rc.getD k 0/\rc.getD k 0<=1000:=by
    have:=hc _ (List.getElem_mem kl);rw[show rc.getD k 0=rc[k] by simp[kl]]
    exact this
   walk_at "rdm";refine⟨_,ra',_,fF (by lia) (by lia),?_⟩
   try walk_at "rdm"
   rw[show ((k:Int)).toNat=k from rfl];refine sJ (rc.getD k 0 - sp) (rc.getD k 0) (λj σ H3=>∃p,σ = [some (.ref ra),some (.int sp),some (.int r),some (.ref ud),some (.int (k:Int)),some (.int (rc.getD k 0)),p]/\aj H' H3/\∀j':Nat,j' < j->((k:Int),rc.getD k 0 - sp+(j':Int))∈us) (λQ q=>?_) (by lia) (by lia) (by lia) (by lia) ⟨p,rfl,aj.refl _,λj' z=>absurd z (by lia)⟩ ?_ ?_
   ·walk_at "rdm";exact q
   ·rintro j σ H3 N2 f9 hj ⟨p,rfl,s3,gY⟩;walk_at "rdm";refine λt1 n1=>?_;have e1:=aj.put (o:=HO.tup [V.int (k:Int),V.int (rc.getD k 0 - sp+(j:Int))]) n1;have LW:=(kk.step s3).step e1;have ud3:=LW.get tab hud;refine⟨_,e7.t (k:=kT ((k:Int),rc.getD k 0 - sp+(j:Int))) ud3 aD,?_⟩;by_cases hm:((k:Int),rc.getD k 0 - sp+(j:Int))∈us
    ·rw[GK hm];refine ite_no (by simp) (f9 _ _ ⟨_,rfl,s3.trans e1,λj' z=>?_⟩)
     by_cases e:j' = j
     ·rw[e];exact hm
     ·exact gY j' (by lia)
    ·rw[wG hm,if_pos (show (none:Option V).isSome=false from rfl)];intro t2 n2;exact(q is _ ord (LW.step (aj.put n2))).2 _ t2 (ado qt hk (by lia) gY hm) (LW.free n2) aD
   ·rintro σ H3 ⟨p,rfl,s3,gY⟩;refine hN _ _ ⟨_,_,_,rfl,sm.trans s3,adm qt hk λc hc=>?_⟩;obtain⟨j,hj,rfl⟩:=List.mem_map.mp hc;exact gY j (by have:=List.mem_range.mp hj;lia)
  ·rintro σ H' ⟨o,c,p,rfl,sm,qt⟩;walk_at "rdm";rw[List.length_map,List.take_length] at qt;exact(q is H' ord (k1.step sm)).1 (adn qt)
theorem agm(T:Tx K mg A)(aG:bx mg base A.bf A.aV):aX P w K mg base br 2 A.C0 A.C1 ["_law_cell", "_law_more"] (adG K):=by
 have yi:=LO (P:=P) (w:=w) (base:=base) T aG;have agn:=af4 (P:=P) (w:=w) (base:=base) T aG;refine T.K3.ok jZ (λvs H Q E h=>?_) (λaO Ar outer s H vs Q E hr h=>?_)
 ·obtain⟨c,m,rfl,_⟩:=h
  rfl
 ·obtain⟨c,m,rfl,q⟩:=h;refine⟨_,(aF (aQ (i:=2) jZ.nd rfl (Or.inl rfl) (aY yi (hr.mono (by first | decide | lia)) rfl T.DQ T.yc.kp T.DP .nil aN (ah (aa 0) (ah ak au))))
   (aF (aQ (i:=3) jZ.nd rfl (Or.inl rfl) (dG (ah (cE (ah (aE dz ak (aE cB (aH bL (aa 2) ak (λ_ _=>rfl)) ak)) (ah (aE dz ak (aE cB (aH bL (aa 2) ak (λ_ _=>rfl)) ak)) au))) au)))
   (aF (cQ PassesOwn.never rfl (jB rfl T.eY (ah (aE cB (aH bL (aa 2) ak (λ_ _=>rfl)) ak) au)) (bB (i:=4) jZ.nd rfl (Or.inl rfl))
   (aK (c8 (jG PySem.F.plainAttrs_list PySem.F.slot_list_append PySem.F.type_list_append jH (aa 3) (ah (cE (ah (aE dz ak (aE cB (aH bL (aa 2) (aE dj ak (aE jV ak (aa 4))) (λ_ _=>rfl)) ak)) (ah (aE dz ak (aE cB (aH bL (aa 2) (aE dj ak (aE jV ak (aa 4))) (λ_ _=>rfl)) ak)) au))) au)))))
   (aF (aQ (i:=5) jZ.nd rfl (Or.inl rfl) ak)
   (aF (aQ (i:=6) jZ.nd rfl (Or.inl rfl) (dG au))
   (aF (cQ PassesOwn.never rfl (c_ (aa 3)) (ji rfl (cV (bB (i:=7) jZ.nd rfl (Or.inl rfl)) (cV (bB (i:=8) jZ.nd rfl (Or.inl rfl)) iO)))
   (aF (aQ (i:=5) jZ.nd rfl (Or.inl rfl) (aE jV (aa 5) (aa 8)))
   (aK (aQ (i:=6) jZ.nd rfl (Or.inl rfl) (aE su (aa 6) (aE PJ (dG (ah (aa 8) au)) (aa 7)))))))
   (aF (aQ (i:=9) jZ.nd rfl (Or.inl rfl) (aE rN (aa 5) (aE dz ak (aE cB (aH bL (aa 2) ak (λ_ _=>rfl)) ak))))
   (aF (k6 (c9 (cW jj (aE cB (aH bL (aa 2) ak (λ_ _=>rfl)) ak) ak (bI _)) (aK (aQ (i:=9) jZ.nd rfl (Or.inl rfl) (aE jV (aa 5) (aE dj ak (aE fj (aa 1) (aE i9 (aE oH ak ak) (aa 5))))))) bT))
   (aK (bF (cE (ah (aa 3) (ah (aa 6) (ah (aa 9) (ah (aE cB (aH bL (aa 2) ak (λ_ _=>rfl)) (aa 9)) (ah (aY agn (hr.mono (by first | decide | lia)) rfl T.U0 T.KZ.kp T.UZ .nil aN (ah (aa 2) (ah (bR eE rfl T.dm boot_len (ah (aa 6) au)) au))) au)))))))))))))))),?_⟩
  walk_at "rdm";refine⟨c,24,rfl,by decide,by decide,λxa xs H1 s1 n1 hx X=>?_⟩
  have X:nG xs 24:=X;have xl:=X.n;have g:∀k:Int,0<=k->k<24->dR (xs.map V.int) k=some (.int (xs.getD k.toNat 0)):=λk h0 h1=>fF h0 (by lia)
  try walk_at "rdm"
  have y1:=X.md (Int.toNat 1) (k:=2) (by decide)
  have y2:=X.md (Int.toNat 2) (k:=8) (by decide)
  have y0:=X.md (Int.toNat 0) (k:=3) (by decide)
  refine⟨_,aA.of hx,_,g 1 (by decide) (by decide),_,rfl,_,aA.of hx,_,g 2 (by decide) (by decide),_,rfl,λt0 LX l nl=>?_⟩
  generalize xs.getD (Int.toNat 1) 0 % 2=a1 at *
  generalize xs.getD (Int.toNat 2) 0 % 8=a2 at *
  have LV:H1 l=none:=(aj.put LX).free nl;have Eo:=Zn.one (c:=(2+a1,1+a2)) (aD (H:=H1) (a:=t0)) nl;have sA:aj H1 (upd (upd H1 t0 (HO.tup [V.int (2+a1),V.int (1+a2)])) l (HO.lst [V.ref t0])):=(aj.put LX).trans (aj.put nl);have LY:ZP [(2+a1,1+a2)]:=⟨λp hp=>by rw[List.mem_singleton.mp hp];dsimp only;have:=y1;have:=y2;exact⟨by lia,by lia,by lia,by lia⟩,by simp;lia⟩
  generalize upd (upd H1 t0 (HO.tup [V.int (2+a1),V.int (1+a2)])) l (HO.lst [V.ref t0])=H2 at Eo sA ⊢;generalize (2+a1,1+a2)=p0 at Eo LY;refine z9 (xs.getD (Int.toNat 0) 0 % 3) (λi σ H'=>∃(x4:Option V) (ts:List Addr) (z:List (Int×Int)),σ = [some (.int c),some (.int m),some (.ref xa),some (.ref l),x4,none,none,none,none,none]/\aj H1 H'/\Zn H' l ts z/\ZP z/\z.length=i+1) (λQ q=>?_) (by have:=y0.1;lia) (by have:=y0.2;lia) ⟨none,[t0],[p0],rfl,sA,Eo,LY,rfl⟩ ?_ ?_
  ·walk_at "rdm";have f_:=sA _ _ hx;exact⟨_,aA.of f_,_,g 0 (by decide) (by decide),_,rfl,q⟩
  ·rintro i σ H' N hN hi ⟨x4,ts,z,rfl,s',hz,zp,zn⟩;have cO:(i:Int)<2:=by have:=y0.2;lia
   have V3:=s' _ _ hx;walk_at "rdm";have b1:=X.md (3+2*(i:Int)).toNat (k:=3) (by decide)
   have b2:=X.md (4+2*(i:Int)).toNat (k:=8) (by decide)
   refine⟨⟨_,hz.sq⟩,_,aA.of V3,_,g _ (by lia) (by lia),_,rfl,_,aA.of V3,_,g _ (by lia) (by lia),_,rfl,λp np=>⟨_,aj.put np _ _ hz.l,by rw[List.length_map,hz.n];lia,hN _ _ ⟨_,ts++[p],z++[(1+xs.getD (3+2*(i:Int)).toNat 0 % 3,1+xs.getD (4+2*(i:Int)).toNat 0 % 8)],rfl,aj.put2 (s'.trans (aj.put np)) LV,hz.snoc np _ _,zp.snoc ⟨by lia,by lia,by lia,by lia⟩,by simp[zn]⟩⟩⟩
  ·rintro σ H' ⟨x4,ts,z,rfl,s',hz,zp,zn⟩;have zl:=zp.zl (by lia) (by have:=y0.2;lia)
   clear zp zn Eo LY sA nl LX;walk_at "rdm";intro c0 LZ;have bd:∀i,1<=dN (z.take i)/\dN (z.take i)<=777600000:=λi=>by
    have h1:=Aa (m:=60) (by decide) (z.take i) λp hp=>(zl.ok.r p (List.mem_of_mem_take hp)).2.2
    have h2:=Qg (m:=60) (by decide) (show (z.take i).length<=5 by have:=zl.ok.l5;rw[List.length_take];lia)
    have e:(60:Int) ^ 5=777600000:=by decide
    lia
   refine rl l (ts.map V.ref) (λi σ H2=>∃(r d:Option V) (ca:Addr),σ = [some (.int c),some (.int m),some (.ref xa),some (.ref l),x4,some (.int (dN (z.take i))),some (.ref ca),r,d,none]/\aj H' H2/\H' ca=none/\H2 ca=some (.lst ((counts (z.take i)).map V.int))) (λQ q=>q) (hz.same (aj.put LZ)).sq ⟨none,none,c0,rfl,aj.put LZ,LZ,aD⟩ (by rintro i σ H2 _ ⟨r,d,ca,rfl,s2,_⟩;exact(hz.same s2).sq) ?_ ?_
   ·rintro i x σ H2 N hN f_ ⟨r,d,ca,rfl,s2,nca,yj⟩;obtain⟨t,p,rfl,hp,ht⟩:=(hz.same s2).at f_;refine kK (aL.of ht) rfl ?_;walk_at "rdm";have b:=bd i;have pr:=zl.ok.r p (get_mem hp);have cl:=P_ zl.ok i;refine⟨.inl ⟨by lia,by lia⟩,λp1 n1=>⟨by lia,by lia,by lia,λp2 n2=>?_⟩⟩
    rw[Ry];have sa1:=aj.put (o:=.lst [V.int p.2]) n1;have L0:=sa1.trans (aj.put (o:=.lst ((List.replicate p.1.toNat p.2).map V.int)) n2);refine⟨_,L0 _ _ yj,by rw[List.length_map,List.length_map,List.length_replicate];lia,λp3 n3=>hN _ _ ⟨some (.int p.1),some (.int p.2),p3,?_,(s2.trans L0).trans (aj.put n3),(s2.trans L0).free n3,?_⟩⟩
    ·rw[take_succ_get hp,abU]
    ·rw[aD,adK hp,List.map_append]
   ·rintro σ H2 ⟨r,d,ca,rfl,s2,nca,yj⟩;rw[lenZ hz.n,List.take_length] at yj ⊢;have hb:=bd z.length;rw[List.take_length] at hb;walk_at "rdm";have f_:=s2 _ _ (s' _ _ hx);have y7:=X.md (Int.toNat 7) (k:=900) (by decide)
    have hq:1<=1000000000 / dN z:=(Int.le_ediv_iff_mul_le (by lia)).mpr (by lia)
    have ym0:=Int.emod_nonneg m (show 1000000000 / dN z≠0 by lia)
    have ym1:=Int.emod_lt_of_pos m (show 0<1000000000 / dN z by lia)
    have w1:=Rx zl y7.1 (.inl y7.2);have w2:=Rx zl ym0 (.inr ym1);refine⟨_,aA.of f_,_,g 7 (by decide) (by decide),_,rfl,.inl ⟨by lia,by lia⟩,λσ H3=>∃ao,σ = [some (.int c),some (.int m),some (.ref xa),some (.ref l),x4,some (.int (dN z)),some (.ref ca),r,d,some (.int ao)]/\H3=H2/\1<=ao/\ao<=1000000000/\∀p∈z,ao % p.2=0,
     ⟨_,aA.of f_,_,g 8 (by decide) (by decide),_,rfl,bW (λ_=>⟨by decide,by lia,by lia,by lia,.inl ⟨by lia,by lia⟩,_,rfl,rfl,w2.1,w2.2.1,w2.2.2⟩) λ_=>⟨_,rfl,rfl,w1.1,w1.2.1,w1.2.2⟩⟩,?_⟩
    rintro σ H3 ⟨ao,rfl,rfl,l1,l2,l3⟩;have cl:=oR z λp hp=>(zl.ok.r p hp).1;have GN:=zl.sm;have c2:=zl.ok.s2;walk_at "rdm";refine⟨_,aA.of f_,_,g 9 (by decide) (by decide),_,rfl,by lia,_,.inl (aA.of yj),xa,xs,_,rfl,f_,X,by rw[List.length_map];lia,by rw[List.length_map];lia,λsa sw H4 s4 L1 HE so=>?_⟩
    rw[List.length_map,cl] at so;have k0:=Int.emod_nonneg (xs.getD (Int.toNat 9) 0) (show ao≠0 by lia)
    have k1:=Int.emod_lt_of_pos (xs.getD (Int.toNat 9) 0) (show 0<ao by lia)
    try walk_at "rdm"
    intro t nt;have st:=aj.put (o:=.tup [V.ref l,V.ref ca,V.int ao,V.int (xs.getD (Int.toNat 9) 0 % ao),V.ref sa]) nt;have Ep:=(s2.trans s4).trans st;exact q t z ao _ sw l ts ca sa _ (s1.trans (s'.trans Ep)) ((s1.trans (s'.trans (s2.trans s4))).free nt) ⟨aD,hz.same Ep,(s4.trans st) _ _ yj,st _ _ HE⟩ ⟨zl,l1,l2,l3,k0,k1,so⟩
theorem L3(T:Tx K mg A)(aG:bx mg base A.bf A.aV):aX P w K mg base br 2 A.C6 A.C7 ["_law_spec_here", "_law_ring", "_law_beat", "_law_cells"] (adJ K):=by
 have ago:=af5 (P:=P) (w:=w) (base:=base) T aG;refine T.yd.ok A_ (λvs H Q E h=>?_) (λaO Ar outer s H vs Q E hr h=>?_)
 ·obtain⟨t,z,ao,sk,sw,za,bq,ca,sa,r,b,cl,bu,cz,rfl,_⟩:=h
  rfl
 ·obtain⟨t,z,ao,sk,sw,za,bq,ca,sa,r,b,cl,bu,cz,rfl,hS,ok,r0,r1,hz,hq,hlen,q⟩:=h;refine⟨_,(aF (cQ PassesOwn.never rfl (c_ (aY ago (hr.mono (by first | decide | lia)) rfl T.U7 T.K5.kp T.U6 .nil aN (ah (aa 0) (ah (aa 1) (ah (aa 2) (ah (aa 3) au)))))) (bB (i:=4) A_.nd rfl (Or.inl rfl))
   (aF (aQ (i:=1) A_.nd rfl (Or.inl rfl) (aH bH (aa 4) ak (λ_ _=>rfl)))
   (aK (aQ (i:=2) A_.nd rfl (Or.inl rfl) (aH bH (aa 4) ak (λ_ _=>rfl))))))
   (aK (bF (cE (ah (aa 1) (ah (aa 2) au)))))),?_⟩
  walk_at "rdm";refine sL ?_;walk_at "rdm";refine⟨t,z,ao,sk,sw,za,bq,ca,sa,r,b,cl,bu,cz,rfl,hS,ok,r0,r1,hz,hq,hlen,λl ts H1 s1 n1 Er h1=>?_⟩;have wl:=kN (bC z ao sk sw []) cz (r,b);have wr:=Ql (bC z ao sk sw []) cz (r,b);have ef:∀i,i<cz.length->∃x y,(dh (bC z ao sk sw []) (r,b) cz).getD i [] = [(aW (bC z ao sk sw []) (r,b) (cz.take (i+1))).1,x,y,(aW (bC z ao sk sw []) (r,b) (cz.take (i+1))).2]:=λi hi=>Rv _ _ _ hi;generalize bC z ao sk sw [] = P at *
  generalize dh P (r,b) cz=rows at *
  refine⟨l,rfl,nh.by l (ts.map V.ref) (λi σ H'=>∃x,σ = [some (.ref t),some (.int (aW P (r,b) (cz.take i)).1),some (.int (aW P (r,b) (cz.take i)).2),some (.ref cl),x]/\H' = H1) (aA.of h1.l) ⟨none,rfl,rfl⟩ (by rintro i σ H' _ ⟨_,rfl,rfl⟩;exact aA.of h1.l) ?_ ?_⟩
  ·rintro i x σ H' N hN hx ⟨x0,rfl,rfl⟩;have hi:i<cz.length:=by
    have:=cN hx;rw[List.length_map,h1.n,wl] at this;exact this
   obtain⟨u,eu,hu⟩:=h1.at (i:=i) (by rw[wl];exact hi)
   rw[hx] at eu;cases eu;obtain⟨c1,c2,e⟩:=ef i hi;rw[e] at hu;walk_at "rdm";refine⟨_,aL.of hu,_,rfl,_,aL.of hu,_,rfl,hN _ _ ⟨_,rfl,rfl⟩⟩
  ·rintro σ H' ⟨x0,rfl,rfl⟩;rw[List.length_map,h1.n,wl,List.take_length];walk_at "rdm";exact λu nu=>q u _ (s1.trans (aj.put nu)) (s1.free nu) aD
theorem L4(T:Tx K mg A)(aG:bx mg base A.bf A.aV):aX P w K mg base br 2 A.Dj A.Dk ["_law_known_here"] (aec K):=by
 have agp:=af6 (P:=P) (w:=w) (base:=base) T aG;refine T.yf.ok afC (λvs H Q E h=>?_) (λaO Ar outer s H vs Q E hr h=>?_)
 ·obtain⟨kl,bN,ks,rfl,_⟩:=h
  rfl
 ·obtain⟨kl,bN,ks,rfl,hk,nU,q⟩:=h;have j9:_+16<cLine:=Nat.lt_of_le_of_lt (Nat.add_le_add_left (by decide:16<=64) _) hr.units
  refine⟨_,(aK (bF (gm (N:=["_law_one", "_law_known_here"]) (nt:=1) (fv:=[0]) (cD.of rfl rfl (by rfl) (by rfl) (by repeat (first | exact trivial | refine⟨rfl,?_⟩)) (by rfl) (by rfl) (by rfl) (by decide) (by decide +kernel)) rfl (c_ (aa 0)) (λC s H fp=>(bB (i:=0) (show List.Nodup (["_law_one", "_law_known_here"]:List Str) by decide +kernel) rfl (Or.inr rfl))) (λC s H fp=>(lV (cW (ad9 (K:=K) rfl j9) (gm (N:=["_law_other", "_law_one"]) (nt:=1) (fv:=[0]) (cD.of rfl rfl (by rfl) (by rfl) (by repeat (first | exact trivial | refine⟨rfl,?_⟩)) (by rfl) (by rfl) (by rfl) (by decide) (by decide +kernel)) rfl (RS (K:=K) rfl (aa 1)) (λC s H fp=>(bB (i:=0) (show List.Nodup (["_law_other", "_law_one"]:List Str) by decide +kernel) rfl (Or.inl rfl))) (λC s H fp=>(lV (jh (aY agp (hr.mono (by first | decide | lia)) rfl T.Vg T.K_.kp T.Vf .nil aN (ah (aa 1) (ah (aa 0) au)))))) (λC s H fp=>(aa 0))) (dG au) (bI _)))) (λC s H fp=>(aH (jW (K:=K) rfl) (aa 0) ak (λ_ _=>rfl)))))),?_⟩
  walk_at "rdt";have dH:=hk.n;refine gU kl (bN.map V.ref) (λD i ys aB H2=>∃(u:Option V),ys=(((ks.take i).filter λk=>(ks.filter (keepsK k)).isEmpty).map (·.n)).map V.int/\aB = [u,some (.ref kl)]/\H2 D=some (.lst ys)/\aj H H2/\H D=none) (λQ q=>q) hk.sq ?_ ?_ ?_ ?_
  ·intro D hD;exact⟨none,rfl,rfl,aD,aj.put hD,hD⟩
  ·rintro D i ys aB H2 ⟨u,rfl,rfl,e1,e2,e3⟩;refine⟨e1,fD ?_,(hk.same e2).sq⟩;have:=List.length_filter_le (λk=>(ks.filter (keepsK k)).isEmpty) (ks.take i);rw[List.length_take] at this;simp only[List.length_map];lia
  ·rintro D i x ys aB H2 N hN hx ⟨u,rfl,rfl,e1,e2,e3⟩;obtain⟨t,ht,rfl⟩:=dM hx;have hi:i<ks.length:=by rw[← dH];exact cN ht
   have jd:=hk.same e2;obtain⟨b,cl,bu,hK⟩:=jd.t i t ks[i] ht (List.getElem?_eq_getElem hi);walk_at "rdt";refine gU kl (bN.map V.ref) (λD' j qQ dX H3=>∃(v:Option V) (dW:List Addr),qQ=dW.map V.ref/\dW.length=((ks.take j).filter (keepsK ks[i])).length/\dX = [v,some (.ref t)]/\H3 D' = some (.lst qQ)/\aj H2 H3/\H2 D' = none) (λQ q=>q) jd.sq ?_ ?_ ?_ ?_
   ·intro D' yl;exact⟨none,[],rfl,rfl,rfl,aD,aj.put yl,yl⟩
   ·rintro D' j qQ dX H3 ⟨v,dW,rfl,g0,rfl,g1,g2,g3⟩;refine⟨g1,fD ?_,(jd.same g2).sq⟩;have:=List.length_filter_le (keepsK ks[i]) (ks.take j);rw[List.length_take] at this;rw[List.length_map,g0];lia
   ·rintro D' j x qQ dX H3 N2 f9 f_ ⟨v,dW,rfl,g0,rfl,g1,g2,g3⟩;obtain⟨t2,ym,rfl⟩:=dM f_;have hj:j<ks.length:=by rw[← dH];exact cN ym
    obtain⟨b2,cl2,agq,hK2⟩:=(jd.same g2).t j t2 ks[j] ym (List.getElem?_eq_getElem hj);have et:=tG (p:=keepsK ks[i]) (List.getElem?_eq_getElem hj);walk_at "rdt";refine⟨t,t2,ks[i],ks[j],b,cl,bu,b2,cl2,agq,rfl,hK.same g2,hK2,_,rfl,bW (λh1=>⟨g1,f9 _ _ _ ⟨_,dW++[t2],by rw[List.map_append];rfl,?_,rfl,aD,aj.put2 g2 g3,g3⟩⟩) λh1=>f9 _ _ _ ⟨_,dW,rfl,?_,rfl,g1,g2,g3⟩⟩
    ·rw[et,if_pos h1,List.length_append,List.length_append,g0];rfl
    ·rw[et,if_neg h1,List.append_nil,g0]
   ·rintro D' qQ dX H3 ⟨v,dW,rfl,g0,rfl,g1,g2,g3⟩;rw[List.length_map,dH,List.take_length] at g0;intro p np;have s3:=g2.trans (aj.put (o:=.lst []) np);have et:=tG (p:=λk=>(ks.filter (keepsK k)).isEmpty) (List.getElem?_eq_getElem hi);have ee:(dW.map V.ref).isEmpty=(ks.filter (keepsK ks[i])).isEmpty:=by
     cases e:ks.filter (keepsK ks[i]) with
     | nil=>rw[e] at g0;rw[List.length_eq_zero_iff.mp g0];rfl
     | cons y r =>
      rw[e] at g0;cases dW with
      | nil=>simp at g0
      | cons _ _=>rfl
    refine⟨D',rfl,_,aA.of (aj.put np _ _ g1),aA.of aD,bW (λh1=>⟨_,aL.of (s3 _ _ hK.o),_,rfl,s3 _ _ e1,hN _ _ _ ⟨_,?_,rfl,aD,aj.put2 (e2.trans s3) e3,e3⟩⟩) λh1=>hN _ _ _ ⟨_,?_,rfl,s3 _ _ e1,e2.trans s3,e3⟩⟩
    ·rw[et,if_pos (by rw[← ee];exact h1),List.map_append,List.map_append];rfl
    ·rw[et,if_neg (by rw[← ee];exact h1),List.append_nil]
  ·rintro D ys aB H2 ⟨u,rfl,rfl,e1,e2,e3⟩;rw[List.length_map,dH,List.take_length] at e1;exact q D H2 e2 e3 e1
theorem agr(T:Tx K mg A)(aG:bx mg base A.bf A.aV):aX P w K mg base br 2 A.Du A.Dv ["_law_found"] ae1:=by
 have L5:=VY (P:=P) (w:=w) (base:=base) T aG;refine T.Lf.ok afF (λvs H Q E h=>?_) (λaO Ar outer s H vs Q E hr h=>?_)
 ·obtain⟨a,ns,rfl,_⟩:=h
  rfl
 ·obtain⟨a,ns,rfl,ha,q⟩:=h;have j9:_+16<cLine:=Nat.lt_of_le_of_lt (Nat.add_le_add_left (by decide:16<=64) _) hr.units
  refine⟨_,(aK (bF (oz (bR zX rfl T.qY boot_isinstance (ah (aa 0) (ah (zg (v:=.ty "tuple") rfl T.pI boot_tuple rfl) au))) (lK (gR (GQ j9) (gm (N:=["_law_one"]) (nt:=1) (fv:=[]) (cD.of rfl rfl (by rfl) (by rfl) (by repeat (first | exact trivial | refine⟨rfl,?_⟩)) (by rfl) (by rfl) (by rfl) (by decide) (by decide +kernel)) rfl (Fx (aa 0)) (λC s H fp=>(bB (i:=0) (show List.Nodup (["_law_one"]:List Str) by decide +kernel) rfl (Or.inl rfl))) (λC s H fp=>(lV (mO (jh (aY L5 (hr.mono (by first | decide | lia)) rfl T.Lb T.DV.kp T.La .nil aN (ah (aa 0) au)))))) (λC s H fp=>(aa 0))) (dG au) (bI _)))))),?_⟩
  walk_at "rdt";refine⟨_,.tup ha,_,rfl,ite_yes rfl ?_⟩;refine aeY a (ns.map V.int) (λD i ys aB H2=>ys = []/\H2 D=some (.lst ys)/\aj H H2/\H D=none/\∃u,aB = [u]) (λQ q=>q) (aL.of ha) ?_ ?_ ?_ ?_
  ·intro D hD;exact⟨rfl,aD,aj.put hD,hD,_,rfl⟩
  ·rintro D i ys aB H2 ⟨rfl,e1,e2,e3,_⟩;exact⟨e1,by decide,aL.of (e2 _ _ ha)⟩
  ·rintro D i x ys aB H2 N hN hx ⟨rfl,e1,e2,e3,u,rfl⟩;obtain⟨n,OH,rfl⟩:=dM hx;walk_at "rdt";exact⟨n,rfl,_,rfl,ite_no (by simp) (hN _ _ _ ⟨rfl,e1,e2,e3,_,rfl⟩)⟩
  ·rintro D ys aB H2 ⟨rfl,e1,e2,e3,u,rfl⟩;intro p np;exact⟨D,rfl,_,aA.of (aj.put np _ _ e1),aA.of aD,q _ (e2.trans (aj.put np))⟩
theorem V4(T:Tx K mg A)(aG:bx mg base A.bf A.aV):aX P w K mg base br 3 A.Bg A.Bh ["first", "many", "at", "asker", "latest", "behind"] (acp K):=by
 have nY:=LJ (P:=P) (w:=w) (base:=base) T aG;have ags:=af7 (P:=P) (w:=w) (base:=base) T aG;refine T.DE.ok afa (λvs H Q E h=>?_) (λaO Ar outer s H vs Q E hr h=>?_)
 ·obtain⟨f,m,a,s',l,b,ns,rfl,_⟩:=h
  rfl
 ·obtain⟨f,m,a,s',l,b,ns,rfl,hB,hS,hR,q⟩:=h;refine⟨_,(aF (c8 (aY nY (hr.mono (by first | decide | lia)) rfl T.pH T.nQ.kp T.pG .nil aN (ah (aa 0) (ah ak (ah (iw (v:=.int 1000000) rfl T.Vv ⟨_,rfl⟩) (ah kr au))))))
   (aF (c8 (aY nY (hr.mono (by first | decide | lia)) rfl T.pH T.nQ.kp T.pG .nil aN (ah (aa 1) (ah ak (ah (iw (v:=.int 16) rfl T.Vu ⟨_,rfl⟩) (ah kr au))))))
   (aF (c8 (aY nY (hr.mono (by first | decide | lia)) rfl T.pH T.nQ.kp T.pG .nil aN (ah (aa 2) (ah ak (ah (iw (v:=.int 1000000000000) rfl T.Vx ⟨_,rfl⟩) (ah kr au))))))
   (aF (c8 (aY nY (hr.mono (by first | decide | lia)) rfl T.pH T.nQ.kp T.pG .nil aN (ah (aa 3) (ah ak (ah (iw (v:=.int 20) rfl T.Vy ⟨_,rfl⟩) (ah kr au))))))
   (aF (c9 (cW O0 (aa 4) oq (bI _)) (aK (c8 (aY nY (hr.mono (by first | decide | lia)) rfl T.pH T.nQ.kp T.pG .nil aN (ah (aa 4) (ah ak (ah (iw (v:=.int 10000000000000) rfl T.Vz ⟨_,rfl⟩) (ah kr au))))))) bT)
   (aK (c8 (aY ags (hr.mono (by first | decide | lia)) rfl T.SX T.JQ.kp T.SW .nil aN (ah (aa 5) au))))))))),?_⟩
  walk_at "rdm";refine⟨_,_,_,_,rfl,hB.f0,hB.f1,_,_,_,_,rfl,hB.m0,hB.m1,_,_,_,_,rfl,hB.a0,hB.a1,_,_,_,_,rfl,hB.s0,hB.s1,?_⟩
  try dsimp only
  cases l with
  | none=>exact ite_no (by simp[d7]) ⟨b,ns,rfl,hS,hR,q⟩
  | some x=>exact ite_yes (by simp[d7]) ⟨x,0,10000000000000,_,rfl,(hB.l x rfl).1,(hB.l x rfl).2,b,ns,rfl,hS,hR,q⟩
theorem agt(T:Tx K mg A)(aG:bx mg base A.bf A.aV):aX P w K mg base br 3 A.Bt A.Bu ["heap"] aeu:=by
 have agu:=af8 (P:=P) (w:=w) (base:=base) T aG;refine T.JZ.ok JK (λvs H Q E h=>?_) (λaO Ar outer s H vs Q E hr h=>?_)
 ·obtain⟨l,zs,rfl,_⟩:=h
  rfl
 ·obtain⟨l,zs,rfl,hl,hh,q0,q⟩:=h;have j9:_+16<cLine:=Nat.lt_of_le_of_lt (Nat.add_le_add_left (by decide:16<=64) _) hr.units
  refine⟨_,(aF (c9 (mO (FG (aa 0) (λ_=>rfl))) (aK (bF oq)) bT)
   (aF (aQ (i:=1) JK.nd rfl (Or.inl rfl) (aH bL (aa 0) ak (λ_ _=>rfl)))
   (aF (aQ (i:=2) JK.nd rfl (Or.inl rfl) (aaN PySem.F.plainAttrs_list PySem.F.slot_list_pop PySem.F.type_list_pop aaS (aa 0)))
   (aF (c9 (FG (aa 0) (λ_=>rfl)) (aK (c8 (aY agu (hr.mono (by first | decide | lia)) rfl T.Tc T.J5.kp T.S_ .nil aN (ah (aa 0) (ah (aa 2) au))))) bT)
   (aK (bF (aa 1))))))),?_⟩
  walk_at "rdm";have tr:∀(H':Hp) (ys:Ms),H' l=some (.lst (mV ys))->FF K (V.ref l) H' (!(mV ys).isEmpty):=λH' ys h=>.inl ⟨_,aA.of h,rfl⟩;refine⟨_,tr H zs hl.l,bW (λh1=>?_) (λh1=>?_)⟩
  ·refine q0 ?_;cases zs with
   | nil=>rfl
   | cons z r=>simp[mV] at h1
  ·cases zs with
   | nil=>simp[mV] at h1
   | cons z0 r =>
    have least:=aex hh (by simp)
    rcases List.eq_nil_or_concat r with rfl | ⟨r',u,rfl⟩
    ·refine⟨_,aA.of hl.l,_,rfl,⟨_,aA.of hl.l⟩,_,hl.l,_,rfl,false,.inl ⟨_,aA.of aD,rfl⟩,ite_no (by simp) ?_⟩
     exact q z0 [] (.refl _) least (λi _ h=>absurd h (by simp))
    ·rw[List.concat_eq_append] at *
     have jr:eN (upd H l (.lst (mV (z0::r')))) l (z0::r'):=hl.set (λz hz=>hl.z z (by
      rcases List.mem_cons.mp hz with e | e
      ·rw[e];exact List.mem_cons_self ..
      ·exact List.mem_cons_of_mem _ (List.mem_append_left _ e))) (by have:=hl.n;simp at this ⊢;lia)
     have e1:(mV (z0::(r'++[u])))[(mV (z0::(r'++[u]))).length - 1]? = some (.ref u.1):=by
      rw[g9];simp[mV]
     have e2:(mV (z0::(r'++[u]))).dropLast=mV (z0::r'):=by
      rw[aeo,← List.cons_append,List.dropLast_concat]
     refine⟨_,aA.of hl.l,_,eN.get (k:=0) (by simp),⟨_,aA.of hl.l⟩,_,hl.l,_,e1,true,?_⟩
     rw[e2];refine⟨.inl ⟨_,aA.of aD,rfl⟩,ite_yes rfl ?_⟩;have hu:fK H u.1 u.2:=hl.z u (by simp)
     refine⟨l,u.1,u.2,z0::r',rfl,jr,hu.eG hl.l,by simp,aew hh,λcI p1 h2=>?_⟩
     rw[yX];refine q z0 cI ?_ least h2;refine(List.Perm.cons z0 ?_).trans (List.Perm.cons z0 p1.symm)
     show (r'++[u]).Perm (u::r');exact List.perm_append_singleton u r'
theorem agv(T:Tx K mg A)(aG:bx mg base A.bf A.aV):aX P w K mg base br 3 A.BC A.BD ["plate", "number", "ask"] (adO K [A.bw,A.a_] A.bM):=by
 have agw:=af9 (P:=P) (w:=w) (base:=base) T aG;refine T.J7.ok afe (λvs H Q E h=>?_) (λaO Ar outer s H vs Q E hr h=>?_)
 ·obtain⟨C,p,ap,k,P,fp,q',m,b,dx,rfl,_⟩:=h
  rfl
 ·obtain⟨C,p,ap,k,P,fp,q',m,b,dx,rfl,hC,hP,ha,hf,hn,q⟩:=h;refine⟨_,(aK (acI rfl (bF (aY agw (hr.mono (by first | decide | lia)) rfl T.Te T.J6.kp T.Td .nil aN (ah (aa 0) (ah (aa 2) au)))))),?_⟩
  walk_at "rdt";exact⟨C,p,ap,P,fp,q',m,b,dx,rfl,hC,hP,ha,hf,hn,q⟩
theorem agx(T:Tx K mg A)(aG:bx mg base A.bf A.aV):aX P w K mg base br 3 A.BG A.BH ["plate", "ring", "place", "beat"] (ab2 K [A.bw,A.a_]):=by
 have agy:=afZ (P:=P) (w:=w) (base:=base) T aG;have agz:=agh (P:=P) (w:=w) (base:=base) T aG;refine T.J9.ok afh (λvs H Q E h=>?_) (λaO Ar outer s H vs Q E hr h=>?_)
 ·obtain⟨C,p,P,fp,r,c,b,rfl,_⟩:=h
  rfl
 ·obtain⟨C,p,P,fp,r,c,b,rfl,hC,hP,ok,h0,h1,h5,h6,q⟩:=h;obtain⟨dx,a1,a2,a3,a4,ts,fs,nZ,h⟩:=id hP;have pK:=ok.c r.toNat (by lia)
  have hl:=ok.ao;have hn:=ok.n1;refine⟨_,(aK (bF (aE dz (aa 3) (aE cB (aE lQ (kM (aa 0) T.afO agz (hr.mono (by first | decide | lia)) T.Ut .nil aN (ah (aa 1) (ah (aa 2) au))) (aa 3)) (wF (aa 0) T.afN agy (hr.mono (by first | decide | lia)) T.Um .nil aN))))),?_⟩
  wp_walk using h.o,h.f1,h.f2,h.f3,h.f4,h.f5,h.f6,h.m1,h.m2,h.m3,h.m4,h.m5,h.m6,h.m7,h.m8,h.m9,h.fH,h.fW,h.cp.cl,h.cp.n1,h.cp.n2,h.cp.n3,h.cp.n4,h.cp.n5,h.cp.n6;refine⟨hC,C,p,P,fp,r,c,rfl,hC,hP,h0,h1,hn,by lia,pK.2,h5,h6,by lia,?_⟩
  wp_walk using h.o,h.f1,h.f2,h.f3,h.f4,h.f5,h.f6,h.m1,h.m2,h.m3,h.m4,h.m5,h.m6,h.m7,h.m8,h.m9,h.fH,h.fW,h.cp.cl,h.cp.n1,h.cp.n2,h.cp.n3,h.cp.n4,h.cp.n5,h.cp.n6;refine⟨hC,C,p,P,fp,rfl,hP,?_⟩;walk_at "rdm";exact⟨by lia,q⟩
theorem agA(T:Tx K mg A)(aG:bx mg base A.bf A.aV):aX P w K mg base br 3 A.BU A.BV ["dues"] (aea K A.bM A.bX):=by
 have agB:=agb (P:=P) (w:=w) (base:=base) T aG;refine T.Kh.ok JL (λvs H Q E h=>?_) (λaO Ar outer s H vs Q E hr h=>?_)
 ·obtain⟨l,ps,ds,rfl,_⟩:=h
  rfl
 ·obtain⟨l,ps,ds,rfl,hd,nU,nd,q⟩:=h;have hu:=mY hr;refine⟨_,(aF (aQ (i:=1) JL.nd rfl (Or.inl rfl) aa7)
   (aF (cQ PassesOwn.never rfl (c_ (aa 0)) (bB (i:=2) JL.nd rfl (Or.inr rfl))
   (aK (v_ hu (aa 1) (O8 (aa 2) rfl) (gm (N:=["other", "due"]) (nt:=1) (fv:=[2]) (cD.of rfl rfl (by rfl) (by rfl) (by repeat (first | exact trivial | refine⟨rfl,?_⟩)) (by rfl) (by rfl) (by rfl) (by decide) (by decide +kernel)) rfl (c_ (aa 0)) (λC s H fp=>(bB (i:=0) (show List.Nodup (["other", "due"]:List Str) by decide +kernel) rfl (Or.inl rfl))) (λC s H fp=>(lV (jh (aY agB (hr.mono (by first | decide | lia)) rfl T.Tw T.Kg.kp T.Tv .nil aN (ah (aa 1) (ah (aa 0) au)))))) (λC s H fp=>(acJ (K:=K) rfl (aa 0) rfl))) rfl)))
   (aK (bF (aa 1))))),?_⟩
  walk_at "rdt";intro kd yp;have iK:=hd.n;refine rl l (ps.map V.ref) (λi σ H'=>∃(x:Option V) (az:List (Key×V)),σ = [some (.ref l),some (.ref kd),x]/\aj H H'/\AV H' kd (ds.take i) ds az) (λQ q=>q) (aA.of (aj.put yp _ _ hd.l)) ⟨none,[],rfl,aj.put yp,⟨aD,Nat.zero_le _,λi d e=>by simp at e⟩⟩ (by rintro i σ H' _ ⟨_,_,rfl,s',_⟩;exact aA.of (s' _ _ hd.l)) ?_ ?_
  ·rintro i x σ H' N hN hx ⟨x0,az,rfl,s',hk⟩;obtain⟨p,hp,rfl⟩:=dM hx;have hi:i<ds.length:=by rw[← iK];exact cN hp
   have nq:=hd.same s';obtain⟨dx,ap,la,ts,m,b,bU,hD⟩:=nq.t i p ds[i] hp (List.getElem?_eq_getElem hi);have dP:=hD.o;unfold nH at dP;wp_walk using T,dP;have Es:=hk;refine gU l (ps.map V.ref) (λD j ys aB H2=>∃(u:Option V),ys=(((ds.take j).filter (jS ds[i])).map (·.n)).map V.int/\aB = [u,some (.ref p)]/\H2 D=some (.lst ys)/\aj H' H2/\H' D=none) (λQ q=>q) (aA.of nq.l) ?_ ?_ ?_ ?_
   ·intro D yl;exact⟨none,rfl,rfl,aD,aj.put yl,yl⟩
   ·rintro D j ys aB H2 ⟨u,rfl,rfl,e1,e2,e3⟩;refine⟨e1,fD ?_,aA.of (e2 _ _ nq.l)⟩;have:=List.length_filter_le (jS ds[i]) (ds.take j);rw[List.length_take] at this;simp only[List.length_map];lia
   ·rintro D j x ys aB H2 N2 f9 f_ ⟨u,rfl,rfl,e1,e2,e3⟩;obtain⟨p2,fU,rfl⟩:=dM f_;have hj:j<ds.length:=by rw[← iK];exact cN fU
    obtain⟨dx2,ap2,la2,q8,m2,b2,alM,je⟩:=(nq.same e2).t j p2 ds[j] fU (List.getElem?_eq_getElem hj);have et:=tG (p:=jS ds[i]) (List.getElem?_eq_getElem hj);have L6:=je.o;unfold nH at L6;wp_walk using T,L6;refine⟨p,p2,ds[i],ds[j],_,_,_,_,_,_,_,_,_,_,_,_,_,_,rfl,hD.same e2,je,_,rfl,bW (λh1=>⟨_,_,_,L6,T.DY,T.yg,_,rfl,e1,f9 _ _ _ ⟨_,?_,rfl,aD,aj.put2 e2 e3,e3⟩⟩) λh1=>f9 _ _ _ ⟨_,?_,rfl,e1,e2,e3⟩⟩
    ·rw[et,if_pos h1,List.map_append,List.map_append];rfl
    ·rw[et,if_neg h1,List.append_nil]
   ·rintro D ys aB H2 ⟨u,rfl,rfl,e1,e2,e3⟩;rw[List.length_map,iK,List.take_length] at e1;have V5:=e2 _ _ hk.d;have nD:D≠kd:=λz=>by rw[z,V5] at e1;cases e1
    refine⟨_,_,_,e2 _ _ dP,T.DY,T.yg,_,rfl,_,jJ.k (k:=qL ds[i].n) V5 (by rw[lW];have:=hk.n;rw[List.length_take] at this;lia),hN _ _ ⟨_,_,rfl,aj.put2 (s'.trans e2) yp,⟨aD,?_,λj d e=>?_⟩⟩⟩
    ·have:=aed az (qL ds[i].n) (V.ref D);have:=hk.n;rw[List.length_take] at this ⊢;lia
    ·rw[List.getElem?_take] at e;split at e
     ·rename_i hj;rw[Gd];by_cases V6:j=i
      ·subst V6;rw[List.getElem?_eq_getElem hi] at e;cases e;exact⟨D,by rw[if_pos rfl],nD,by rw[aI nD];exact e1⟩
      ·have GF:j<i:=by lia
       obtain⟨li,v1,v2,v3⟩:=hk.v j d (by rw[List.getElem?_take,if_pos GF];exact e)
       have ne:qL d.n≠qL ds[i].n:=λz=>by
        have z:d.n=ds[i].n:=by unfold qL at z;exact Sum.inl.inj z
        have h1:(ds.map (·.n))[j]? = (ds.map (·.n))[i]? := by rw[List.getElem?_map,List.getElem?_map,e,List.getElem?_eq_getElem hi];exact congrArg some z
        exact V6 ((List.getElem?_inj (by simp;lia) nd).mp h1)
       exact⟨li,by rw[if_neg ne];exact v1,v2,by rw[aI v2];exact e2 _ _ v3⟩
     ·cases e
  ·rintro σ H' ⟨x0,az,rfl,s',hk⟩;rw[List.length_map,iK,List.take_length] at hk;walk_at "rdt";exact q kd az H' s' yp hk
theorem V7(T:Tx K mg A)(aG:bx mg base A.bf A.aV):aX P w K mg base br 3 A.xK A.Cr ["self", "zones", "lap", "skew", "swing"] (abJ K):=by
 have agC:=afU (P:=P) (w:=w) (base:=base) T aG;have agD:=afV (P:=P) (w:=w) (base:=base) T aG;have agE:=agf (P:=P) (w:=w) (base:=base) T aG;have agF:=afX (P:=P) (w:=w) (base:=base) T aG;have L7:=VP (P:=P) (w:=w) (base:=base) T aG;have L8:=VR (P:=P) (w:=w) (base:=base) T aG;refine T.Ua.ok afn (λvs H Q E h=>?_) (λaO Ar outer s H vs Q E hr h=>?_)
 ·obtain⟨C,p,dx,za,sa,bq,z,ao,bY,sw,rfl,_⟩:=h
  rfl
 ·obtain⟨C,p,dx,za,sa,bq,z,ao,bY,sw,rfl,cp,hp,hz,ok,h1,h2,h3,h4,hd,hS,so,q⟩:=h;refine⟨_,(aF (c8 (aY agC (hr.mono (by first | decide | lia)) rfl T.TZ T.Ky.kp T.TY .nil aN (ah (aa 1) au)))
   (aF (c8 (aY agD (hr.mono (by first | decide | lia)) rfl T.T4 T.Kz.kp T.T3 .nil aN (ah (aa 1) (ah (aa 2) (ah (aa 3) au)))))
   (aF (gu (aa 0) (aY agF (hr.mono (by first | decide | lia)) rfl T.T_ T.KD.kp T.T9 .nil aN (ah (aa 1) au)) rfl)
   (aF (c8 (aY agE (hr.mono (by first | decide | lia)) rfl T.T6 T.KA.kp T.T5 .nil aN (ah (aa 4) (ah (bR eE rfl T.dm boot_len (ah (b_ (aa 0) rfl) au)) au))))
   (aF (gu (aa 0) (aa 2) rfl)
   (aF (gu (aa 0) (aa 3) rfl)
   (aF (gu (aa 0) (jm vJ rfl T.nR boot_list (ah (aa 4) au)) rfl)
   (aF (gu (aa 0) (aY L7 (hr.mono (by first | decide | lia)) rfl T.KH T.DM.kp T.KG .nil aN (ah (b_ (aa 0) rfl) (ah ak au))) rfl)
   (aK (gu (aa 0) (aY L8 (hr.mono (by first | decide | lia)) rfl T.KJ T.DN.kp T.KI .nil aN (ah (b_ (aa 0) rfl) au)) rfl)))))))))),?_⟩
  wp_walk using cp.cl,cp.n1,cp.n2,cp.n3,cp.n4,cp.n5,cp.n6;refine⟨za,bq,z,rfl,hz,ok,λH1 s1=>⟨za,bq,z,ao,bY,rfl,hz.same s1,ok,h1,h2,h3,h4,hd,?_⟩⟩;refine⟨za,bq,z,rfl,hz.same s1,ok,λa1 H2 s2 n1 e1=>?_⟩;have fU:=(s1.trans s2) _ _ hp;have eZ:a1≠p:=(bO (s1 _ _ hp) n1).symm;have cl:=oR z λp hp=>(ok.r p hp).1;have agG:=ok.zZ;have c2:=ok.s2;have qE:SameBut p H H2:=.of (s1.trans s2);have fr1:H a1=none:=s1.free n1;wp_walk using cp.cl,cp.n1,cp.n2,cp.n3,cp.n4,cp.n5,cp.n6,fU;refine⟨_,.inl (aA.of ((aI eZ).trans e1)),?_⟩;have L1:∀ {H':Hp},SameBut p H H'->aA K H' sa (sw.map V.int):=λ{H'} sb=>by
   rcases hS with(h | ⟨o,h⟩) | h
   ·exact .inl (.inl (sb _ _ h (gQ h hp (by intro z;cases z))))
   ·exact .inl (.inr ⟨o,sb _ _ h (gQ h hp (by intro z;cases z))⟩)
   ·exact .inr h
  refine⟨sa,sw,_,rfl,L1 qE.put,?_,?_,?_⟩
  ·simpa only[List.length_map,cl] using so
  ·simp only[List.length_map];lia
  wp_walk using cp.cl,cp.n1,cp.n2,cp.n3,cp.n4,cp.n5,cp.n6;refine⟨_,.inl (L1 qE.put),λa2 n2=>?_⟩;have lC:p≠a2:=bO aD n2;have V8:H2 a2=none:=by rw[aI lC.symm] at n2;exact n2
  wp_walk using cp.cl,cp.n1,cp.n2,cp.n3,cp.n4,cp.n5,cp.n6,aI lC;have V9:a1≠a2:=bO e1 V8;have pL:SameBut p H (upd (upd (upd H2 p (HO.ins C dx [(Str.ofString "ring_cells",V.ref a1),(Str.ofString "lap",V.int ao),(Str.ofString "skew",V.int bY)])) a2 (HO.lst (List.map V.int sw))) p
   (HO.ins C dx [(Str.ofString "ring_cells",V.ref a1),(Str.ofString "lap",V.int ao),(Str.ofString "skew",V.int bY),(Str.ofString "swing",V.ref a2)])):=(qE.put.step (aj.put n2)).put
  have xg:=e1;have fr2:H a2=none:=(s1.trans s2).free V8;generalize L_:upd (upd (upd H2 p _) a2 _) p _=H3 at pL ⊢;have p3:H3 p=some (HO.ins C dx [(Str.ofString "ring_cells",V.ref a1),(Str.ofString "lap",V.int ao),(Str.ofString "skew",V.int bY),(Str.ofString "swing",V.ref a2)]):=by rw[← L_,aD]
  have q1:H3 a1=some (.lst ((counts z).map V.int)):=by rw[← L_,aI eZ,aI V9,aI eZ];exact e1
  have q2:H3 a2=some (.lst (sw.map V.int)):=by rw[← L_,aI lC.symm,aD]
  have cm:∀c∈counts z,0<=c/\c<=1000:=λc hc=>by
   obtain⟨y,hy,rfl⟩:=oU hc;have:=ok.r y hy;lia
  refine⟨a1,counts z,0,rfl,aA.of q1,by lia,cm,by decide,by decide,λa3 ts H4 s4 n3 Er z4=>?_⟩
  have p4:=s4 _ _ p3;have yq:a3≠p:=(bO p3 n3).symm;have qg:H a3=none:=by
   cases e:H a3 with
   | none=>rfl
   | some o=>rw[pL _ _ e yq] at n3;cases n3
  have Ma:∀t∈ts,t≠p:=λt ht=>(bO p3 (Er t ht)).symm;have frt:∀t∈ts,H t=none:=λt ht=>by
   cases e:H t with
   | none=>rfl
   | some o=>have:=pL _ _ e (Ma t ht);rw[Er t ht] at this;cases this
  wp_walk using cp.cl,cp.n1,cp.n2,cp.n3,cp.n4,cp.n5,cp.n6,p4;have z5:=z4.keep (H':=upd H4 p (HO.ins C dx [(Str.ofString "ring_cells",V.ref a1),(Str.ofString "lap",V.int ao),(Str.ofString "skew",V.int bY),(Str.ofString "swing",V.ref a2),(Str.ofString "number_cells",V.ref a3)])) (aI yq) λt ht=>aI (Ma t ht);have zl:(e8 (counts z) 0).length<=1000000:=by
   have:=z7 (s:=0) (by decide) (counts z) 0 cm
   have e:(counts z).length<=120:=by lia
   unfold e8;lia
  refine⟨a3,ts,_,rfl,z5,zl,λa4 H5 s5 n4 e4=>?_⟩;have yr:a4≠p:=(bO aD n4).symm;have sb5:SameBut p H H5:=((pL.step s4).put).step s5;have V_:H4 a4=none:=by rw[aI yr] at n4;exact n4
  have fr4:H a4=none:=by
   cases e:H a4 with
   | none=>rfl
   | some o=>rw[(pL.step s4) _ _ e yr] at V_;cases V_
  wp_walk using cp.cl,cp.n1,cp.n2,cp.n3,cp.n4,cp.n5,cp.n6,s5 _ _ aD;refine q _ dx a1 a2 a3 a4 ts sb5.put ?_ aD (ni.lit cp aD ?_ ?_ ?_ ?_)
  ·intro b hb;simp only[List.mem_cons] at hb;rcases hb with rfl | rfl | rfl | rfl | hb
   ·exact fr1
   ·exact fr2
   ·exact qg
   ·exact fr4
   ·exact frt b hb
  ·rw[aI eZ];exact s5 _ _ ((aI eZ).trans (s4 _ _ q1))
  ·rw[aI lC.symm];exact s5 _ _ ((aI lC.symm).trans (s4 _ _ q2))
  ·exact(z5.same s5).keep (aI yq) λt ht=>aI (Ma t ht)
  ·rw[aI yr];exact e4
theorem agH(T:Tx K mg A)(aG:bx mg base A.bf A.aV):aX P w K mg base br 3 A.CN A.CO ["ring_cells", "spares", "number_cells", "bad_cells"] (ads K A.aV (nC fZ) (nF "nearest_rings")):=by
 have agI:=af2 (P:=P) (w:=w) (base:=base) T aG;have agJ:=agk (P:=P) (w:=w) (base:=base) T aG;refine T.KY.ok tT (λvs H Q E h=>?_) (λaO Ar outer s H vs Q E hr h=>?_)
 ·obtain⟨ra,na,d,sp,rc,ts,z,bz,rfl,_⟩:=h
  rfl
 ·obtain⟨ra,na,d,sp,rc,ts,z,bz,rfl,En,h2,ju,s0,s1,hc,hz,hlen,hd,tu,Wa,tab,en,q⟩:=h;have hu:=mY hr;refine⟨_,(aF (aQ (i:=4) tT.nd rfl (Or.inl rfl) (dG au))
   (aF (aQ (i:=5) tT.nd rfl (Or.inl rfl) (jm ada rfl T.Ej boot_dict (ah (pv 3) au)))
   (aF (cQ PassesOwn.never rfl (c_ (aY agI (hr.mono (by first | decide | lia)) rfl T.UP T.KS.kp T.UO .nil aN (ah (pv 2) (ah (pv 3) au)))) (bB (i:=6) tT.nd rfl (Or.inl rfl))
   (aF (aQ (i:=7) tT.nd rfl (Or.inl rfl) (aH mW (pv 2) (pv 6) (λ_ _=>rfl)))
   (aF (aQ (i:=8) tT.nd rfl (Or.inl rfl) (aY agJ (hr.mono (by first | decide | lia)) rfl T.UT T.KW.kp T.US .nil aN (ah (pv 0) (ah (pv 1) (ah (aH vD (pv 7) ak (λ_ _=>rfl)) (ah (pv 5) au))))))
   (aF (c9 (cW OZ (pv 8) oq (bI _)) fR bT)
   (aF (v_ hu (pv 5) (pv 8) iL rfl)
   (aK (c8 (jG PySem.F.plainAttrs_list PySem.F.slot_list_append PySem.F.type_list_append jH (pv 4) (ah (cE (ah (pv 6) (ah (pv 7) (ah (pv 8) au)))) au)))))))))
   (aK (bF (pv 4)))))),?_⟩
  walk_at "rdm";refine λl hl=>?_;have bk:(cG bz).map (λx=>x.1)=bz.map kT:=by unfold cG;rw[List.map_map];rfl
  refine⟨_,aj.put hl _ _ hd,by rw[bk];exact tu,λu nu=>?_⟩
  have Mb:=(aj.put (o:=.lst []) hl).trans (aj.put (o:=.dT (cG bz)) nu);have nuH:H u=none:=(aj.put (o:=.lst []) hl).free nu;refine sL ?_;walk_at "rdm";refine⟨na,d,ts,z,cG bz,rfl,hz.same Mb,hlen,Mb _ _ hd,λb H2 s2 nb eb=>⟨b,rfl,?_⟩⟩;rw[AB,List.map_map] at eb;have s3:=Mb.trans s2;have el:H2 l=some (.lst []):=s2 _ _ (aj.put nu _ _ aD);have eu:H2 u=some (.dT (cG bz)):=s2 _ _ aD;have lu:l≠u:=bO aD nu;have ur:b≠l:=(bO (aj.put nu _ _ aD) nb).symm;have hbu:b≠u:=(bO aD nb).symm;refine nh.by b ((d8 bz 0 z).map (V.int ∘ λ(n:Nat)=>(n:Int))) (λi σ H'=>∃x y w us os ms,σ = [some (.ref ra),some (.int sp),some (.ref na),some (.ref d),some (.ref l),some (.ref u),x,y,w]/\Kp A.aV (nC fZ) (nF "nearest_rings") H H'/\
    H' b=some (.lst ((d8 bz 0 z).map (V.int ∘ λ(n:Nat)=>(n:Int))))/\H' u=some (.dT (cG (bz++ms.map λm=>m.2.2)))/\jP rc sp z bz ((d8 bz 0 z).take i) ms/\g8 H' l ts us os ms/\∀t∈os,H t=none)
   (aA.of eb) ⟨none,none,none,[],[],[],rfl,Kp.of tab s3,eb,by simpa using eu,.nil,⟨el,rfl,rfl,λi u m e=>by cases e⟩,λt z=>by cases z⟩ (by rintro i σ H' _ ⟨x,y,w,us,os,ms,rfl,k,hb,_⟩;exact aA.of hb) ?_ ?_
  ·rintro i x σ H' N hN hx ⟨x0,y0,w0,us,os,ms,rfl,k,hb,uu,hL,hM,mU⟩;obtain⟨n,hn,rfl⟩:=dM hx;obtain⟨_,c,Et,hcb⟩:=Rh (get_mem hn);rw[Nat.sub_zero] at Et;have lE:Zn H' na ts z:=⟨k.get tab hz.l,hz.n,λi t p e1 e2=>k.get tab (hz.t i t p e1 e2)⟩;simp only[Function.comp_apply,pD,mI,mC,xw,xx,qT,A3,tO,nM,nN,tQ,HU,xy,HV,AX,wW,r9,AG,AH,Ag,nv,Ah,Af,vO,sN,oN,vK,zL,zA,w5,Hy,vC,vB,vA,vF,vE,and_assoc,yX,HO.ins.injEq,zY,sI,eT,String.reduceBEq,List.lookup_cons,List.lookup_nil,aD,HO.lst.injEq,HO.dT.injEq,HO.tup.injEq,String.reduceEq,false_and,or_false,false_or,lW,wg,we,vZ,vW,vX,vY,wj,Bool.not_eq_true',decide_eq_false_iff_not,Classical.not_not,uY,if_false_left,if_false_right,wz,uR,iB,List.length_map,List.getElem?_nil,uT,p_,lN,rM,p8,p9,uZ,rH,tC,oG,gF,rI,ve,rU,vj,tB,uX,uW,zj,uU,rY,vo,rS,rT,uS,uM,ow,uN,uO,uP,uQ,vq,vp,vL,oO,vM,vN,vP,vQ,r_,qp,vg,vh,HZ,H_,Ia,Ib,Ic,Ie,Ig,Ih,qj,vf,zx,rR,vn,zC,vt,_L.start,GB,GC,HF,List.map_cons,List.map_nil,List.cons_append,List.nil_append,List.append_nil,List.length_cons,List.length_nil,List.getElem?_cons_zero,List.getElem?_cons_succ,Option.some.injEq,exists_eq_left,exists_eq_left',exists_and_left,exists_eq,V.int.injEq,V.ref.injEq,V.bl.injEq,V.ty.injEq,V.str.injEq,List.cons.injEq,and_true,true_and,List.set_cons_zero,List.set_cons_succ,decide_eq_true_eq,Nat.reduceSub,Nat.reduceAdd,List.replicate_succ,List.replicate_zero,List.replicate,Int.reduceLT,Int.reduceLE,Int.reducePow,Int.reduceToNat,Int.reduceNeg,Nat.reduceLT,Nat.reduceLeDiff,Nat.reducePow,Int.reduceMul,Int.reduceAdd,Int.reduceSub,and_self,or_true,true_or,gt_iff_lt,ge_iff_le,if_true,if_false,Bool.false_eq_true,reduceIte,Nat.sub_self,Nat.sub_zero];have hnl:n<ts.length:=by rw[hz.n];exact cN Et
   obtain⟨t,g1⟩:∃t,ts[n]? = some t:=⟨_,List.getElem?_eq_getElem hnl⟩;have g2:(ts.map V.ref)[n]? = some (V.ref t):=by rw[List.getElem?_map,g1];rfl
   have ht:=lE.t n t c g1 Et;have agK:=hL.len;rw[List.length_take] at agK;have nX:=cN hn;have bl:=adq bz z;refine⟨_,lE.sq,_,oM g2,t,rfl,_,aL.of ht,_,rfl,?_⟩;refine⟨ra,u,c.1,sp,rc,bz++ms.map (λm=>m.2.2),rfl,k.seq tab En,h2,ju,s0,s1,hc,uu,k.t,λis H3 ord k3=>⟨λz=>absurd z (en _ _ _ (by rw[List.length_map];lia) ord),λo to hf nto Mc=>?_⟩⟩
   have ie:=k3.get k.t uu;have ho:=adl hf;have hM3:=hM.but k.t k3;have Wb:=hM3.other (o:=.dT (putK (cG (bz++ms.map λm=>m.2.2)) (kT o) (.bl true))) ⟨_,ie⟩;have kA:=(k.trans k3).put (o:=.dT (putK (cG (bz++ms.map λm=>m.2.2)) (kT o) (.bl true))) nuH ie;have l4:=Wb.l;refine⟨(by intro z;cases z),_,jJ.t (k:=kT o) ie Mc (by rw[lW,cG,List.length_map,List.length_append,List.length_map];lia),⟨_,aA.of l4⟩,λp np=>?_⟩
   have pN:=aj.put (o:=HO.tup [V.int (n:Int),V.ref t,V.ref to]) np;have e9:cG (bz++(ms++[(n,c,o)]).map λm=>m.2.2)=putK (cG (bz++ms.map λm=>m.2.2)) (kT o) (.bl true):=by
    rw[Ri _ ho,List.map_append,← List.append_assoc];rfl
   have t3:=k3.get k.t ht;refine⟨_,pN _ _ l4,by rw[List.length_map,hM.n];lia,hN _ _ ⟨_,_,_,us++[p],os++[to],ms++[(n,c,o)],rfl,?_,?_,?_,?_,?_,?_⟩⟩
   ·exact(kA.step pN).put hl (pN _ _ l4)
   ·rw[aI ur];refine pN _ _ ?_;rw[aI hbu];exact k3.get k.t hb
   ·rw[aI lu.symm,e9];exact pN _ _ aD
   ·rw[take_succ_get hn];exact hL.snoc Et ord hf
   ·refine(Wb.same pN).snoc (m:=(n,c,o)) aD g1 (pN _ _ ?_) (pN _ _ ?_)
    ·rw[aI (gQ t3 ie (by intro z;cases z))];exact t3
    ·rw[aI (gQ Mc ie (by intro z;cases z))];exact Mc
   ·intro t' jy;rcases List.mem_append.mp jy with h' | h'
    ·exact mU t' h'
    ·rw[List.mem_singleton.mp h'];exact k.free nto
  ·rintro σ H' ⟨x,y,w,us,os,ms,rfl,k,hb,uu,hL,hM,mU⟩;walk_at "rdm";rw[List.length_map,List.take_length] at hL;exact q l us os ms H' k hl mU hL hM
theorem agL(T:Tx K mg A)(aG:bx mg base A.bf A.aV):aX P w K mg base br 3 A.C8 A.C9 ["_law_plate_here", "_law_spec_here", "_law_spot_here", "_law_cell"] (ad1 K [A.bw,A.a_]):=by
 have Wc:=agi (P:=P) (w:=w) (base:=base) T aG;refine T.K6.ok pF (λvs H Q E h=>?_) (λaO Ar outer s H vs Q E hr h=>?_)
 ·obtain⟨C,p,t,sp,z,ao,sk,sw,za,bq,ca,sa,nc,fp,r,b,c,rfl,_⟩:=h
  rfl
 ·obtain⟨C,p,t,sp,z,ao,sk,sw,za,bq,ca,sa,nc,fp,r,b,c,rfl,hC,hP,nk,hS,ok,cY,r0,r1,q⟩:=h;refine⟨_,(aF (aQ (i:=4) pF.nd rfl (Or.inl rfl) (kE se (gm (N:=["_law_k", "_law_plate_here", "_law_spot_here"]) (nt:=1) (fv:=[0,2]) (cD.of rfl rfl (by rfl) (by rfl) (by repeat (first | exact trivial | refine⟨rfl,?_⟩)) (by rfl) (by rfl) (by rfl) (by decide) (by decide +kernel)) rfl (jB rfl T.eY (ah (aH mW (aH bH (aa 1) ak (λ_ _=>rfl)) (aH bH (aa 2) ak (λ_ _=>rfl)) (λ_ _=>rfl)) au)) (λC s H fp=>(bB (i:=0) (show List.Nodup (["_law_k", "_law_plate_here", "_law_spot_here"]:List Str) by decide +kernel) rfl (Or.inl rfl))) (λC s H fp=>(lV (cW O0 (kM (aa 1) T.VL Wc (hr.mono (by first | decide | lia)) T.KP .nil aN (ah (aH (jW (K:=K) rfl) (aa 2) ak (λ_ _=>rfl)) (ah (aa 0) au))) oq (bI _)))) (λC s H fp=>(aa 0))) kC (kD ak)))
   (aF (aQ (i:=5) pF.nd rfl (Or.inl rfl) (aE fj (aa 3) (aE dj (bR eE rfl T.dm boot_len (ah (aa 4) au)) ak)))
   (aF (aQ (i:=4) pF.nd rfl (Or.inl rfl) (aE su (kE se (aa 4) (kD (aa 5)) kC) (kE se (aa 4) kC (kD (aa 5)))))
   (aF (k6 (ia (dF HW (aE fj (aE i9 (aa 3) ak) ak) ak (bI _)) (aK (aQ (i:=4) pF.nd rfl (Or.inl rfl) (adD (aa 4) (qi qk ak)))) bT))
   (aF (aQ (i:=6) pF.nd rfl (Or.inl rfl) (dG au))
   (aF (cQ PassesOwn.never rfl (jB rfl T.eY (ah (bR eE rfl T.dm boot_len (ah (aa 4) au)) au)) (bB (i:=7) pF.nd rfl (Or.inl rfl))
   (aF (aQ (i:=8) pF.nd rfl (Or.inl rfl) (kM (aa 0) T.VL Wc (hr.mono (by first | decide | lia)) T.KP .nil aN (ah (aH bH (aa 2) ak (λ_ _=>rfl)) (ah (aH bL (aa 4) (aa 7) (λ_ _=>rfl)) au))))
   (aK (c8 (jG PySem.F.plainAttrs_list PySem.F.slot_list_append PySem.F.type_list_append jH (aa 6) (ah (cE (ah (aE dj (aE jV ak (aa 7)) (aE fj (aE i9 (aa 3) ak) ak)) (ah (aa 8) (ah ak (ah iL (ah (cE au) (ah oq (ah (dG (ah (cE (ah (aH bH (aa 2) ak (λ_ _=>rfl)) (ah (aH bL (aa 4) (aa 7) (λ_ _=>rfl)) au))) au)) au)))))))) au))))))
   (aK (bF (aa 6))))))))),?_⟩
  walk_at "rdm";have Eu:=aL.of (K:=K) hS.o;have kp:=aL.of (K:=K) cY;have cr:1<=(counts z).getD r.toNat 0/\(counts z).getD r.toNat 0<=60:=by
   obtain⟨y,hy,e⟩:=oU (get_mem (wC (counts z) (show r.toNat<(counts z).length by lia)))
   have:=ok.zl.ok.r y hy;rw[e];lia
  refine Ab ((counts z).getD r.toNat 0) (λD i ys aB H2=>∃(u:Option V) (xs:List Int),ys=xs.map V.int/\aB = [u,some (.ref p),some (.ref sp)]/\H2 D=some (.lst ys)/\aj H H2/\H D=none/\xs.length<=i/\i<=60/\∀x∈xs,(r,x)∈nc/\0<=x/\x<(counts z).getD r.toNat 0) (λQ q=>?_) (by lia) (by lia) ?_ ?_ ?_ ?_
  ·walk_at "rdm";refine⟨_,Eu,_,rfl,_,kp,_,rfl,?_⟩;walk_at "rdm";exact⟨_,aA.of hS.c,_,fF r0 r1,q⟩
  ·intro D hD;exact⟨none,[],rfl,rfl,aD,aj.put hD,hD,Nat.le_refl _,by lia,λ_ h=>nomatch h⟩
  ·rintro D i ys aB H2 ⟨u,xs,rfl,rfl,e1,e2,e3,e4,e5,e6⟩;exact⟨e1,fD (by rw[List.length_map];lia)⟩
  ·rintro D i ys aB H2 N hN hi ⟨u,xs,rfl,rfl,e1,e2,e3,e4,e5,e6⟩;walk_at "rdm";obtain⟨jz,a1,a2,a3,a4,dW,fs,nZ,hA⟩:=hP.same e2;have i1:(i:Int)<(counts z).getD r.toNat 0:=by lia
   refine⟨C,jz,fs,hA.o,hC,hA.fH,_,e2.fG kp,_,rfl,C,p,bC z ao sk sw nc,fp,r,(i:Int),rfl,hC,hP.same e2,r0,r1,by lia,i1,λH3 s3=>?_⟩
   show if ¬ (cM (ng nc) (kT (r,(i:Int)))).getD .aP = .aP then _ else _
   by_cases jx:(r,(i:Int))∈nc
   ·obtain⟨j,ej,ev⟩:=RI jx;rw[ev,Option.getD_some,if_pos (by simp)]
    refine⟨s3 _ _ e1,hN _ _ _ ⟨_,xs++[(i:Int)],by rw[List.map_append];rfl,rfl,aD,aj.put2 (e2.trans s3) e3,e3,by simp;lia,by lia,λx hx=>?_⟩⟩
    rcases List.mem_append.mp hx with hx | hx
    ·exact e6 x hx
    ·rw[List.mem_singleton.mp hx];exact⟨jx,by lia,i1⟩
   ·rw[adY jx,Option.getD_none,if_neg (by simp)]
    exact hN _ _ _ ⟨_,xs,rfl,rfl,s3 _ _ e1,e2.trans s3,e3,by lia,by lia,e6⟩
  ·rintro D ys aB H2 ⟨u,xs,rfl,rfl,e1,e2,e3,e4,e5,e6⟩;walk_at "rdm";refine⟨_,aA.of e1,λl1 n1=>?_⟩;rw[Qx (by decide)]
   have Me:tE (counts z) nc r (xs.take (Int.toNat 7)):=⟨λx hx=>e6 x (List.mem_of_mem_take hx),by rw[List.length_take];lia⟩
   have p7:(xs.take (Int.toNat 7)).length<=7:=by rw[List.length_take];exact Nat.min_le_left _ _
   generalize xs.take (Int.toNat 7)=ys at Me p7 ⊢;have s1:=e2.trans (aj.put (o:=.lst (ys.map V.int)) n1);have h1:upd H2 l1 (.lst (ys.map V.int)) l1=some (.lst (ys.map V.int)):=aD;generalize upd H2 l1 (.lst (ys.map V.int))=H3 at s1 h1 ⊢;refine⟨_,.inl (aA.of h1),by lia,_,aA.of h1,λl2 n2=>?_⟩
   rw[List.length_map];have a0:=Int.emod_nonneg c (show (ys.length:Int)+1≠0 by lia)
   have a1:=Int.emod_lt_of_pos c (show (0:Int)<(ys.length:Int)+1 by lia)
   generalize c % ((ys.length:Int)+1)=at' at a0 a1 ⊢;rw[ad0 a0];have s2:=aj.put (o:=.lst ((ys.drop at'.toNat).map V.int)) n2;have h2:upd H3 l2 (.lst ((ys.drop at'.toNat).map V.int)) l2=some (.lst ((ys.drop at'.toNat).map V.int)):=aD;generalize upd H3 l2 (.lst ((ys.drop at'.toNat).map V.int))=H4 at s2 h2 ⊢;refine⟨_,aA.of (s2 _ _ h1),λl3 n3=>?_⟩;rw[Qx a0];have s3:=aj.put (o:=.lst ((ys.take at'.toNat).map V.int)) n3;generalize upd H4 l3 (.lst ((ys.take at'.toNat).map V.int))=H5 at s3 ⊢;refine⟨_,s3 _ _ h2,by simp only[List.length_map,List.length_drop,List.length_take];lia,λl4 n4=>?_⟩
   rw[← List.map_append];have Ew:tE (counts z) nc r (ys.drop at'.toNat++ys.take at'.toNat):=Me.sub (λy hy=>by
    rcases List.mem_append.mp hy with h | h
    ·exact List.mem_of_mem_drop h
    ·exact List.mem_of_mem_take h) (by rw[List.length_append,List.length_drop,List.length_take];lia)
   have Ex:(ys.drop at'.toNat++ys.take at'.toNat).length<=7:=by rw[List.length_append,List.length_drop,List.length_take];lia
   generalize ys.drop at'.toNat++ys.take at'.toNat=us at Ew Ex ⊢;have s4:=(s1.trans (s2.trans s3)).trans (aj.put (o:=.lst (us.map V.int)) n4);have h4:upd H5 l4 (.lst (us.map V.int)) l4=some (.lst (us.map V.int)):=aD;generalize upd H5 l4 (.lst (us.map V.int))=H6 at s4 h4 ⊢;refine⟨λσ H7=>∃(l5:Addr) (vs:List Int),σ = [some (.ref p),some (.ref t),some (.ref sp),some (.int c),some (.ref l5),some (.int at'),none,none,none]/\aj H H7/\H7 l5=some (.lst (vs.map V.int))/\tE (counts z) nc r vs/\vs.length<=7,bW (λ_=>⟨_,aA.of h4,λl5 n5=>⟨l5,us.reverse,rfl,s4.trans (aj.put n5),by rw[aD,List.map_reverse],Ew.sub (λy hy=>by simpa using hy) (by simp),by simpa using Ex⟩⟩) λ_=>⟨l4,us,rfl,s4,h4,Ew,Ex⟩,?_⟩
   rintro σ H7 ⟨l5,vs,rfl,s7,h5,pl5,p75⟩;clear h4 s4 Ew Ex n4 s3 n3 s2 h2 n2 a0 a1 s1 h1 n1 e1 e2 e3 e4 e5 e6 Me p7;walk_at "rdm";intro l nl;have mF:=hP.same s7;have Wd:=s7.fG kp;have c0:=Int.emod_nonneg (c / 16) (show (2:Int)≠0 by decide)
   have c1:=Int.emod_lt_of_pos (c / 16) (show (0:Int)<2 by decide)
   refine z8 vs.length (λi σ H8=>∃(x y:Option V) (ts:List Addr) (ks:List Kn),σ = [some (.ref p),some (.ref t),some (.ref sp),some (.int c),some (.ref l5),some (.int at'),some (.ref l),x,y]/\aj H7 H8/\jQ H7 H8 l ts ks/\ks.length=i/\(∀k∈ks,qH nc k/\k.n<2*(i:Int))/\ks.Pairwise λa b=>a.n<b.n) (λQ q=>?_) (by lia) ⟨none,none,[],[],rfl,aj.put nl,⟨aD,rfl,nl,λi t k e=>by simp at e⟩,rfl,(λ_ h=>nomatch h),.nil⟩ ?_ ?_
   ·walk_at "rdm";refine⟨_,.inl (aA.of (aj.put nl _ _ h5)),?_⟩;rw[List.length_map];exact q
   ·rintro i σ H8 N hN hi ⟨x,y,ts,ks,rfl,s8,hg,gn,gk,gp⟩;walk_at "rdm";obtain⟨jz,a1,a2,a3,a4,dW,fs,nZ,hA⟩:=mF.same s8;have vi:vs[i]? = some vs[i]:=List.getElem?_eq_getElem hi;obtain⟨w1,w2,w3⟩:=pl5.i vs[i] (List.getElem_mem hi);refine⟨C,jz,fs,hA.o,hC,hA.fH,_,s8.fG Wd,_,rfl,_,aA.of (s8 _ _ h5),_,oM (by rw[List.getElem?_map,vi];rfl),C,p,bC z ao sk sw nc,fp,r,vs[i],rfl,hC,mF.same s8,r0,r1,w2,w3,λH9 s9=>?_⟩
    obtain⟨j,ej,ev⟩:=RI w1;have ev':(cM (ng (bC z ao sk sw nc).nc) (kT (r,vs[i]))).getD .aP = .int (j:Int):=by show (cM (ng nc) (kT (r,vs[i]))).getD .aP=_;rw[ev];rfl
    rw[ev']
    try walk_at "rdm"
    have Mf:=hg.same s9;refine⟨⟨_,aA.of Mf.hl⟩,λe1 ne1=>?_⟩;have t1:=aj.put (o:=.tup []) ne1;have We:upd H9 e1 (.tup []) e1=some (.tup []):=aD;generalize upd H9 e1 (.tup [])=HA at t1 We ⊢;have Mg:=s8.trans s9;refine⟨_,(Mg.trans t1).fG Wd,_,rfl,_,aA.of (t1 _ _ (Mg _ _ h5)),_,oM (by rw[List.getElem?_map,vi];rfl),λe2 ne2 e3 ne3 e4 ne4=>?_⟩
    have t2:=aj.put (o:=.tup [V.int r,V.int vs[i]]) ne2;have Wf:=Zn.one (c:=(r,vs[i])) (aD (H:=HA) (a:=e2)) ne3;have t3:=t2.trans (aj.put (o:=.lst [V.ref e2]) ne3);generalize upd (upd HA e2 (.tup [V.int r,V.int vs[i]])) e3 (.lst [V.ref e2])=HB at t3 Wf ne4 ⊢;have t4:=aj.put (o:=.tup [V.int (2*(i:Int)+c / 16 % 2),V.int (j:Int),V.int 1,V.bl false,V.ref e1,V.aP,V.ref e3]) ne4;have t9:=t1.trans (t3.trans t4);have nel:e3≠l:=by
     intro z;have:=t1 _ _ Mf.hl;rw[← z] at this;have n2:HA e3=none:=t2.free ne3;rw[n2] at this;cases this
    have hK:fX (upd HB e4 (.tup [V.int (2*(i:Int)+c / 16 % 2),V.int (j:Int),V.int 1,V.bl false,V.ref e1,V.aP,V.ref e3])) e4 ⟨2*(i:Int)+c / 16 % 2,(j:Int),1,false,[],none,[(r,vs[i])]⟩ e1 e3 [e2]:=⟨aD,(t3.trans t4) _ _ We,Wf.same t4⟩;have Wg:=Mf.same t9;have jl:j<nc.length:=cN ej;refine⟨_,Wg.hl,by rw[List.length_map,hg.n,gn];lia,hN _ _ ⟨_,_,ts++[e4],ks++[_],rfl,aj.put2 (Mg.trans t9) nl,Wg.snoc hK nel,by simp[gn],λk hk=>?_,?_⟩⟩
    ·rcases List.mem_append.mp hk with hk | hk
     ·have:=gk k hk;exact⟨this.1,by have:=this.2;lia⟩
     ·rw[List.mem_singleton.mp hk];exact⟨⟨by dsimp only;lia,by dsimp only;lia,by dsimp only;lia,by dsimp only;lia,(adZ ej).symm,lY.nil,λx hx=>by cases hx⟩,by dsimp only;lia⟩
    ·rw[List.pairwise_append];refine⟨gp,by simp,λk hk k' kZ=>?_⟩
     rw[List.mem_singleton.mp kZ];have:=(gk k hk).2;dsimp only;lia
   ·rintro σ H8 ⟨x,y,ts,ks,rfl,s8,hg,gn,gk,gp⟩;walk_at "rdm";exact q l ts ks H8 (s7.trans s8) (s7.free nl) hg.tD ⟨λk hk=>(gk k hk).1,gp,by lia⟩
theorem agM(T:Tx K mg A)(aG:bx mg base A.bf A.aV):aX P w K mg base br 3 A.C_ A.Dc ["_law_spec_here", "_law_spot_here", "_law_known_here"] (adV K):=by
 have yt:=L3 (P:=P) (w:=w) (base:=base) T aG;refine T.K7.ok xF (λvs H Q E h=>?_) (λaO Ar outer s H vs Q E hr h=>?_)
 ·obtain⟨t,sp,kl,z,ao,sk,sw,za,bq,ca,sa,r,b,bN,ks,rfl,_⟩:=h
  rfl
 ·obtain⟨t,sp,kl,z,ao,sk,sw,za,bq,ca,sa,r,b,bN,ks,rfl,hS,ok,cY,r0,r1,b0,b1,hk,kc,k10,q⟩:=h;refine⟨_,(aF (cQ PassesOwn.never rfl (c_ (aa 2)) (bB (i:=3) xF.nd rfl (Or.inl rfl))
   (aK (aQ (i:=1) xF.nd rfl (Or.inl rfl) (aY yt (hr.mono (by first | decide | lia)) rfl T.DS T.yd.kp T.DR .nil aN (ah (aa 0) (ah (aH bH (aa 1) ak (λ_ _=>rfl)) (ah (aH bH (aa 1) ak (λ_ _=>rfl)) (ah (aH bH (aa 3) ak (λ_ _=>rfl)) au))))))))
   (aF (aQ (i:=4) xF.nd rfl (Or.inl rfl) (dG au))
   (aF (cQ PassesOwn.never rfl (jB rfl T.eY (ah (bR eE rfl T.dm boot_len (ah (aa 2) au)) au)) (bB (i:=5) xF.nd rfl (Or.inl rfl))
   (aK (c8 (jG PySem.F.plainAttrs_list PySem.F.slot_list_append PySem.F.type_list_append jH (aa 4) (ah (aE zK (aE zK (kE zI (aH bL (aa 2) (aa 5) (λ_ _=>rfl)) kC (kD ak)) (cE (ah (aE lQ (aE lQ (aE dz (aH bH (aa 1) ak (λ_ _=>rfl)) (bR eE rfl T.dm boot_len (ah (aa 2) au))) ak) (aa 5)) au))) (kE zI (aH bL (aa 2) (aa 5) (λ_ _=>rfl)) (kD ak) kC)) au)))))
   (aK (bF (aa 4)))))),?_⟩
  walk_at "rdm";have dH:=hk.n;have pk:=ok.pl [];have l2:(bC z ao sk sw []).ao<=1000000000:=ok.l2;have r1':r<((bC z ao sk sw []).rc.length:Int):=r1;refine rl kl (bN.map V.ref) (λi σ H'=>∃(x:Option V) (u:Addr) (st:Int×Int),σ = [some (.ref t),some (.ref u),some (.ref kl),x,none,none]/\aj H H'/\H' u=some (.tup [.int st.1,.int st.2])/\0<=st.1/\st.1<(counts z).length/\0<=st.2/\st.2<=2000000000000+48000000000*(i:Int)) (λQ q=>q) hk.sq ⟨none,sp,(r,b),rfl,aj.refl _,cY,r0,r1,b0,by dsimp only;lia⟩ (by rintro i σ H' _ ⟨_,_,_,rfl,s',_⟩;exact(hk.same s').sq) ?_ ?_
  ·rintro i x σ H' N hN hx ⟨x0,u,st,rfl,s',hu,u0,u1,t0,t1⟩;obtain⟨a,ha,rfl⟩:=dM hx;have hi:i<ks.length:=by rw[← dH];exact cN ha
   obtain⟨b',cl,bu,hK⟩:=(hk.same s').t i a ks[i] ha (List.getElem?_eq_getElem hi);obtain⟨c1,c2⟩:=kc ks[i] (List.getElem_mem hi);have k1:=aL.of (K:=K) hK.o;have k2:=aL.of (K:=K) hu;walk_at "rdm";have eb:=AJ pk l2 ks[i].c st c1;have ei:=iX (bC z ao sk sw []) (n:=((bC z ao sk sw []).rc.length:Int)) ks[i].c st u0 u1 λq hq=>⟨(c1 q hq).1,(c1 q hq).2.1⟩;refine⟨_,k2,_,rfl,_,k2,_,rfl,_,k1,_,rfl,t,z,ao,sk,sw,za,bq,ca,sa,st.1,st.2,cl,bu,ks[i].c,rfl,hS.same s',ok,u0,u1,hK.c,c1,by lia,λu2 H2 s2 nu uv=>hN _ _ ⟨_,u2,aW (bC z ao sk sw []) st ks[i].c,rfl,s'.trans s2,uv,ei.1,ei.2,by lia,by lia⟩⟩
  ·rintro σ H' ⟨x0,u,st,rfl,s',hu,u0,u1,t0,t1⟩;rw[List.length_map,dH] at t1;walk_at "rdm";intro l nl;have Es:=hk.same s';have k2:=aL.of (K:=K) hu;refine z8 ks.length (λi σ H2=>∃(x y:Option V) (ts:List Addr) (gi:List Kn),σ = [some (.ref t),some (.ref u),some (.ref kl),x0,some (.ref l),y]/\aj H' H2/\jQ H' H2 l ts gi/\gi.length=i/\∀(j:Nat) (k:Kn),j<i->ks[j]? = some k->∃x,0<=x/\x<=10000000000000/\gi[j]? = some { k with eV:=some x }) (λQ q=>?_) (by lia) ⟨none,none,[],[],rfl,aj.put nl,⟨aD,rfl,nl,λi t k e=>by simp at e⟩,rfl,λj k h=>absurd h (by lia)⟩ ?_ ?_
   ·walk_at "rdm";refine⟨_,.inl (Es.same (aj.put nl)).sq,?_⟩;rw[List.length_map,dH];exact q
   ·rintro i σ H2 N hN hi ⟨x,y,ts,gi,rfl,s2,hg,gn,ge⟩;have jd:=Es.same s2;obtain⟨a,b',cl,bu,ha,Wh⟩:=Es.at hi;have ncl:cl≠l:=bO Wh.c.l nl;have hK:=Wh.same s2;have k1:=aL.of (K:=K) hK.o;walk_at "rdm";refine⟨⟨_,aA.of hg.hl⟩,_,jd.sq,_,oM ha,a,_,rfl,k1,by simp[_H.bJ],λc1 Mh=>?_⟩
    rw[adW];have s3:=aj.put (o:=.tup [V.int ks[i].n,V.int ks[i].f,V.int ks[i].m,V.bl ks[i].w,V.ref b']) Mh;have Ey:upd H2 c1 (.tup [V.int ks[i].n,V.int ks[i].f,V.int ks[i].m,V.bl ks[i].w,V.ref b']) c1=some (.tup [V.int ks[i].n,V.int ks[i].f,V.int ks[i].m,V.bl ks[i].w,V.ref b']):=aD;generalize upd H2 c1 (.tup [V.int ks[i].n,V.int ks[i].f,V.int ks[i].m,V.bl ks[i].w,V.ref b'])=H3 at s3 Ey ⊢;refine⟨_,(s2.trans s3).fG k2,_,rfl,_,.inl (jd.same s3).sq,_,rfl,λp1 eZ=>?_⟩;rw[List.length_map,dH];have s4:=aj.put (o:=.tup [V.int (st.2+(ks.length:Int) - 1 - (i:Int))]) eZ;have mD:upd H3 p1 (.tup [V.int (st.2+(ks.length:Int) - 1 - (i:Int))]) p1=some (.tup [V.int (st.2+(ks.length:Int) - 1 - (i:Int))]):=aD;generalize upd H3 p1 (.tup [V.int (st.2+(ks.length:Int) - 1 - (i:Int))])=H4 at s4 mD ⊢;refine⟨c1,rfl,_,aL.of (s4 _ _ Ey),_,aL.of mD,by simp,by simp,λe=>by simp at e,λ_ p2 lC=>?_⟩
    have s5:=aj.put (o:=.tup ([V.int ks[i].n,V.int ks[i].f,V.int ks[i].m,V.bl ks[i].w,V.ref b']++[V.int (st.2+(ks.length:Int) - 1 - (i:Int))])) lC;have fU:upd H4 p2 (.tup ([V.int ks[i].n,V.int ks[i].f,V.int ks[i].m,V.bl ks[i].w,V.ref b']++[V.int (st.2+(ks.length:Int) - 1 - (i:Int))])) p2=some (.tup ([V.int ks[i].n,V.int ks[i].f,V.int ks[i].m,V.bl ks[i].w,V.ref b']++[V.int (st.2+(ks.length:Int) - 1 - (i:Int))])):=aD;generalize upd H4 p2 (.tup ([V.int ks[i].n,V.int ks[i].f,V.int ks[i].m,V.bl ks[i].w,V.ref b']++[V.int (st.2+(ks.length:Int) - 1 - (i:Int))]))=H5 at s5 fU ⊢;have Mi:=s3.trans (s4.trans s5);refine⟨_,(jd.same Mi).sq,_,oM ha,a,_,rfl,Mi.fG k1,by simp[_H.bJ],λp3 yq=>?_⟩
    rw[adX];have s6:=aj.put (o:=.tup [V.ref cl]) yq;have nJ:upd H5 p3 (.tup [V.ref cl]) p3=some (.tup [V.ref cl]):=aD;generalize upd H5 p3 (.tup [V.ref cl])=H6 at s6 nJ ⊢
    try walk_at "rdm"
    refine⟨_,aL.of (s6 _ _ fU),_,aL.of nJ,by simp,by simp,λe=>by simp at e,λ_ p4 yr=>?_⟩
    have s7:=aj.put (o:=.tup ([V.int ks[i].n,V.int ks[i].f,V.int ks[i].m,V.bl ks[i].w,V.ref b']++[V.int (st.2+(ks.length:Int) - 1 - (i:Int))]++[V.ref cl])) yr;have pO:=(Mi.trans s6).trans s7;have hK7:fX (upd H6 p4 (.tup ([V.int ks[i].n,V.int ks[i].f,V.int ks[i].m,V.bl ks[i].w,V.ref b']++[V.int (st.2+(ks.length:Int) - 1 - (i:Int))]++[V.ref cl]))) p4 { ks[i] with eV:=some (st.2+(ks.length:Int) - 1 - (i:Int))} b' cl bu:=⟨aD,pO _ _ hK.b,hK.c.same pO⟩;have Wi:=hg.same pO;refine⟨_,Wi.hl,by rw[List.length_map,hg.n,gn];lia,hN _ _ ⟨x,_,ts++[p4],gi++[_],rfl,aj.put2 (s2.trans pO) nl,Wi.snoc hK7 ncl,by simp[gn],λj k hj e=>?_⟩⟩
    by_cases gY:j<i
    ·obtain⟨x',x0',x1',e'⟩:=ge j k gY e;exact⟨x',x0',x1',by rw[List.getElem?_append_left (by lia)];exact e'⟩
    ·have:j=i:=by lia
     subst this;rw[List.getElem?_eq_getElem hi] at e;cases e;refine⟨_,?_,?_,by rw[List.getElem?_append_right (by lia),gn,Nat.sub_self];rfl⟩
     ·lia
     ·lia
   ·rintro σ H2 ⟨x,y,ts,gi,rfl,s2,hg,gn,ge⟩;walk_at "rdm";exact q l ts gi H2 (s'.trans s2) (s'.free nl) hg.tD ⟨gn,λi k e=>ge i k (cN e) e⟩
theorem agN(T:Tx K mg A)(aG:bx mg base A.bf A.aV):aX P w K mg base br 3 A.Ds A.Dt ["_law_spec_here", "_law_ring", "_law_beat", "_law_known_here", "_law_begun"] (ae0 K):=by
 have yt:=L3 (P:=P) (w:=w) (base:=base) T aG;refine T.Le.ok xG (λvs H Q E h=>?_) (λaO Ar outer s H vs Q E hr h=>?_)
 ·obtain⟨t,kl,b,z,ao,sk,sw,za,bq,ca,sa,r,bt,bN,ks,bg,rfl,_⟩:=h
  rfl
 ·obtain⟨t,kl,b,z,ao,sk,sw,za,bq,ca,sa,r,bt,bN,ks,bg,rfl,hS,ok,r0,r1,hk,kc,hb,q⟩:=h;have dH:=hk.n;refine⟨_,(aF (cQ PassesOwn.never rfl (Fx (aa 4)) (bB (i:=5) xG.nd rfl (Or.inl rfl))
   (aK (cQ PassesOwn.never rfl (c_ (aa 3)) (bB (i:=6) xG.nd rfl (Or.inl rfl))
   (aK (c9 (cW jj (aH bH (aa 6) ak (λ_ _=>rfl)) (aa 5) (bI _)) (aK (qa (aY yt (hr.mono (by first | decide | lia)) rfl T.DS T.yd.kp T.DR .nil aN (ah (aa 0) (ah (aa 1) (ah (aa 2) (ah (aH bH (aa 6) ak (λ_ _=>rfl)) au))))) (ji rfl (cV (bB (i:=1) xG.nd rfl (Or.inl rfl)) (cV (bB (i:=2) xG.nd rfl (Or.inl rfl)) iO))))) bT)))))
   (aK (bF (cE (ah (aa 1) (ah (aa 2) au)))))),?_⟩
  walk_at "rdt";refine rt b (bg.map V.int) (λi σ H'=>∃(st:Int×Int) (x y:Option V),st=iI (bC z ao sk sw []) (r,bt) ks (bg.take i)/\0<=st.1/\st.1<(counts z).length/\σ = [some (.ref t),some (.int st.1),some (.int st.2),some (.ref kl),some (.ref b),x,y]/\aj H H') (λQ q=>q) (aL.of hb) ⟨(r,bt),none,none,rfl,r0,r1,rfl,aj.refl H⟩ (by rintro i σ H' _ ⟨st,x,y,_,_,_,rfl,s'⟩;exact aL.of (s' _ _ hb)) ?_ ?_
  ·rintro i x σ H' N hN hx ⟨st,x0,y0,e,Wj,qO,rfl,s'⟩;obtain⟨n,hn,rfl⟩:=dM hx;walk_at "rdt";refine rl kl (bN.map V.ref) (λj σ H2=>∃(bV:Int×Int) (w:Option V),bV=(ks.take j).foldl (λst k=>if k.n=n then aW (bC z ao sk sw []) st k.c else st) st/\0<=bV.1/\bV.1<(counts z).length/\σ = [some (.ref t),some (.int bV.1),some (.int bV.2),some (.ref kl),some (.ref b),some (.int n),w]/\aj H H2) (λQ q=>q) (hk.same s').sq ⟨st,y0,rfl,Wj,qO,rfl,s'⟩ (by rintro j σ H2 _ ⟨bV,w,_,_,_,rfl,s2⟩;exact(hk.same s2).sq) ?_ ?_
   ·rintro j x σ H2 N2 f9 f_ ⟨bV,w,e2,a0,a1,rfl,s2⟩;obtain⟨t2,ym,rfl⟩:=dM f_;have hj:j<ks.length:=by rw[← dH];exact cN ym
    obtain⟨b2,cl,bu,hK⟩:=(hk.same s2).t j t2 ks[j] ym (List.getElem?_eq_getElem hj);have tk:=take_succ_get (List.getElem?_eq_getElem hj);obtain⟨c1,c2⟩:=kc ks[j] (List.getElem_mem hj);generalize ks[j] = k at *
    have ef:(ks.take (j+1)).foldl (λst k=>if k.n=n then aW (bC z ao sk sw []) st k.c else st) st=if k.n=n then aW (bC z ao sk sw []) bV k.c else bV:=by rw[tk,List.foldl_append,← e2];rfl
    walk_at "rdt";refine⟨_,aL.of hK.o,_,rfl,rfl,?_⟩;walk_at "rdt";refine bW (λh1=>?_) λh1=>?_
    ·refine⟨_,aL.of hK.o,_,rfl,t,z,ao,sk,sw,za,bq,ca,sa,bV.1,bV.2,cl,bu,k.c,rfl,hS.same s2,ok,a0,a1,hK.c,c1,by lia,λu H3 s3 nu hu=>?_⟩
     have i:=iX (bC z ao sk sw []) (n:=(counts z).length) k.c bV a0 a1 λq hq=>⟨(c1 q hq).1,(c1 q hq).2.1⟩;exact⟨u,rfl,_,aL.of hu,rfl,_,_,rfl,_,_,rfl,rfl,f9 _ _ ⟨aW (bC z ao sk sw []) bV k.c,_,by rw[ef,if_pos h1],i.1,i.2,rfl,s2.trans s3⟩⟩
    ·exact f9 _ _ ⟨bV,_,by rw[ef,if_neg h1],a0,a1,rfl,s2⟩
   ·rintro σ H2 ⟨bV,w,e2,a0,a1,rfl,s2⟩;rw[List.length_map,dH,List.take_length] at e2;refine hN _ _ ⟨bV,_,_,?_,a0,a1,rfl,s2⟩;rw[e2,e,take_succ_get hn];unfold iI;rw[List.foldl_append];rfl
  ·rintro σ H' ⟨st,x0,y0,e,Wj,qO,rfl,s'⟩;rw[List.length_map,List.take_length] at e;subst e;walk_at "rdt";exact λu nu=>q u _ (s'.trans (aj.put nu)) (s'.free nu) aD
theorem agO(T:Tx K mg A)(aG:bx mg base A.bf A.aV):aX P w K mg base br 3 A.Dw A.Dy ["_law_found", "_law_known_here"] (ae2 K):=by
 have yu:=L4 (P:=P) (w:=w) (base:=base) T aG;have Mj:=VZ (P:=P) (w:=w) (base:=base) T aG;have agP:=agr (P:=P) (w:=w) (base:=base) T aG;refine T.Lh.ok SS (λvs H Q E h=>?_) (λaO Ar outer s H vs Q E hr h=>?_)
 ·obtain⟨f,kl,bN,ks,bg,rfl,_⟩:=h
  rfl
 ·obtain⟨f,kl,bN,ks,bg,rfl,hf,hk,n60,up,od,q⟩:=h;have Wk:=hr.O_;have dH:=hk.n;have bl:bg.length=ks.length:=by have:=od.p.length_eq;simpa using this
  refine⟨_,(aF (c9 (PW.pt (iN (mO (jh (aY agP (hr.mono (by first | decide | lia)) rfl T.Vk T.Lf.kp T.Vj .nil aN (ah (aa 0) au)))) (iM (cW (abq Wk) (bR aeW rfl T.uo boot_sorted (ah (aa 0) au)) (gm (N:=["_law_one"]) (nt:=1) (fv:=[]) (cD.of rfl rfl (by rfl) (by rfl) (by repeat (first | exact trivial | refine⟨rfl,?_⟩)) (by rfl) (by rfl) (by rfl) (by decide) (by decide +kernel)) rfl (c_ (aa 1)) (λC s H fp=>(bB (i:=0) (show List.Nodup (["_law_one"]:List Str) by decide +kernel) rfl (Or.inl rfl))) (λC s H fp=>iT) (λC s H fp=>(aH (jW (K:=K) rfl) (aa 0) ak (λ_ _=>rfl)))) (bI _))))) (aK (bF iL)) bT)
   (aF (cQ PassesOwn.never rfl (jB rfl T.eY (ah (bR eE rfl T.dm boot_len (ah (aa 0) au)) au)) (bB (i:=2) SS.nd rfl (Or.inl rfl))
   (aK (c9 (cW Pz (aH bH (aa 0) (aa 2) (λ_ _=>rfl)) (aY yu (hr.mono (by first | decide | lia)) rfl T.DU T.yf.kp T.DT .nil aN (ah (aY Mj (hr.mono (by first | decide | lia)) rfl T.Ld T.DW.kp T.Lc .nil aN (ah (aa 1) (ah (kE zI (aa 0) kC (kD (aa 2))) au))) au)) rfl) (aK (bF iL)) bT)))
   (aK (bF iL)))),?_⟩
  walk_at "rdt";refine⟨f,bg,rfl,hf,λH1 s1=>⟨_,rfl,ite_no (by simp) ⟨bg,aL.of (s1 _ _ hf),by lia,λl ms nl pm srt=>?_⟩⟩⟩
  have es:ms=ks.map (·.n):=SA (pm.trans od.p) srt (List.pairwise_map.mpr up);subst es;have s2:=aj.put (o:=.lst ((ks.map (·.n)).map V.int)) nl;have jr:upd H1 l (.lst ((ks.map (·.n)).map V.int)) l=some (.lst ((ks.map (·.n)).map V.int)):=aD;generalize upd H1 l (.lst ((ks.map (·.n)).map V.int))=H2 at *
  have jd:=hk.same (s1.trans s2);refine gU kl (bN.map V.ref) (λD i ys aB H3=>∃(u:Option V),ys=((ks.take i).map (·.n)).map V.int/\aB = [u]/\H3 D=some (.lst ys)/\aj H2 H3/\H2 D=none) (λQ q=>q) jd.sq ?_ ?_ ?_ ?_
  ·intro D hD;exact⟨none,rfl,rfl,aD,aj.put hD,hD⟩
  ·rintro D i ys aB H3 ⟨u,rfl,rfl,e1,e2,e3⟩;exact⟨e1,fD (by simp only[List.length_map,List.length_take];lia),(jd.same e2).sq⟩
  ·rintro D i x ys aB H3 N hN hx ⟨u,rfl,rfl,e1,e2,e3⟩;obtain⟨t,ht,rfl⟩:=dM hx;have hi:i<ks.length:=by rw[← dH];exact cN ht
   obtain⟨b2,cl,bu,hK⟩:=(jd.same e2).t i t ks[i] ht (List.getElem?_eq_getElem hi);walk_at "rdt";refine⟨_,aL.of hK.o,_,rfl,e1,hN _ _ _ ⟨_,?_,rfl,aD,aj.put2 e2 e3,e3⟩⟩;rw[take_succ_get (List.getElem?_eq_getElem hi),List.map_append,List.map_append];rfl
  ·rintro D ys aB H3 ⟨u,rfl,rfl,e1,e2,e3⟩;rw[List.length_map,dH,List.take_length] at e1;have s3:=(s1.trans s2).trans e2;refine⟨D,rfl,_,aA.of (e2 _ _ jr),aA.of e1,λv hv=>?_,?_⟩
   ·obtain⟨n,_,rfl⟩:=List.mem_map.mp hv;exact⟨λ_ z=>(nomatch z),λ_ z=>(nomatch z)⟩
   ·refine z8 bg.length (λi σ H'=>∃x,σ = [some (.ref f),some (.ref kl),x]/\aj H H') (λQ q=>?_) (by lia) ⟨none,rfl,s3⟩ ?_ ?_
    ·walk_at "rdt";refine⟨_,.inr (aL.of (s3 _ _ hf)),?_⟩;rw[List.length_map];exact q
    ·rintro i σ H' N hN hi ⟨x,rfl,s'⟩;obtain⟨n,hn⟩:∃n,bg[i]? = some n:=⟨_,List.getElem?_eq_getElem hi⟩;have o_:=od.f i n hn;walk_at "rdt";have qP:=s' _ _ hf;refine⟨_,aL.of qP,_,oM (by rw[List.getElem?_map,hn];rfl),f,_,rfl,aL.of qP,λz=>?_,λp np=>?_⟩
     ·have z2:=z.2;rw[List.length_map,_H.aaB] at z2;lia
     ·have s4:=aj.put (o:=.tup (cZ (bg.map V.int) none (some (i:Int)))) np;have Wl:=s'.trans s4;refine⟨kl,p,bN,ks,bg.take i,rfl,hk.same Wl,by lia,by rw[aD,Hx,List.map_take],λD2 ts H5 s5 nD2 hk5=>⟨D2,ts,_,rfl,hk5,Nat.le_trans (List.length_filter_le _ _) (by lia),λD3 H6 s6 nD3 hD3=>⟨D3,rfl,_,.inl (aA.of hD3),rfl,sS _,ite_no ?_ (hN _ _ ⟨_,rfl,(Wl.trans s5).trans s6⟩)⟩⟩⟩
      rw[nA];simp[o_]
    ·rintro σ H' ⟨x,rfl,s'⟩;walk_at "rdt";exact q _ s'
theorem Wm(T:Tx K mg A)(aG:bx mg base A.bf A.aV):aX P w K mg base br 4 A.Bl A.xJ ["first", "many", "at", "asker", "latest", "behind"] (acs K A.bM):=by
 have Ml:=VM (P:=P) (w:=w) (base:=base) T aG;have Mm:=V4 (P:=P) (w:=w) (base:=base) T aG;have Mn:=VN (P:=P) (w:=w) (base:=base) T aG;refine T.DG.ok SI (λvs H Q E h=>?_) (λaO Ar outer s H vs Q E hr h=>?_)
 ·obtain⟨f,m,a,s',l,bv,ns,rfl,_⟩:=h
  rfl
 ·obtain⟨f,m,a,s',l,bv,ns,rfl,hB,hv,hR,q⟩:=h;refine⟨_,(aF (aQ (i:=6) SI.nd rfl (Or.inl rfl) (aY Mn (hr.mono (by first | decide | lia)) rfl T.JU T.DF.kp T.JT .nil aN (ah (aa 5) au)))
   (aF (c8 (aY Mm (hr.mono (by first | decide | lia)) rfl T.JS T.DE.kp T.JR .nil aN (ah (aa 0) (ah (aa 1) (ah (aa 2) (ah (aa 3) (ah (aa 4) (ah (aa 6) au))))))))
   (aK (bF (rW T.Lq Ml (hr.mono (by first | decide | lia)) rfl T.Lr T.JP .nil aN (ah kr (ah (aa 0) (ah (aa 1) (ah (cE au) (ah (aa 2) (ah (aa 3) (ah (aa 4) (ah (aa 6) (ah iL au)))))))))))))),?_⟩
  walk_at "rdt";refine⟨_,ns,rfl,hv,λb H1 s1 hb=>?_⟩;walk_at "rdt";refine⟨_,_,_,_,_,_,ns,rfl,hB,aL.of hb,hR,?_⟩;walk_at "rdt";intro mk nm x dx nx iZ eB;refine⟨x,dx,_,_,_,_,_,_,_,_,_,rfl,aD,rfl,?_⟩;obtain⟨a1,a2,a3⟩:=QA (K:=K) (C:=A.bM) (q:=⟨"read",f,m,[],a,s',l,ns,false⟩) (s1.trans (aj.put nm)) nx iZ eB aD (aj.put nm _ _ hb);exact q _ _ _ _ _ a1 a2 a3
theorem agQ(T:Tx K mg A)(aG:bx mg base A.bf A.aV):aX P w K mg base br 4 A.Bm A.Bo ["first", "marks", "at", "asker", "latest", "behind", "early"] (acu K A.bM):=by
 have Ml:=VM (P:=P) (w:=w) (base:=base) T aG;have nY:=LJ (P:=P) (w:=w) (base:=base) T aG;have Mm:=V4 (P:=P) (w:=w) (base:=base) T aG;have Mn:=VN (P:=P) (w:=w) (base:=base) T aG;refine T.JW.ok JI (λvs H Q E h=>?_) (λaO Ar outer s H vs Q E hr h=>?_)
 ·obtain⟨f,a,s',ma,ms,l,bv,ns,e,rfl,_⟩:=h
  rfl
 ·obtain⟨f,a,s',ma,ms,l,bv,ns,e,rfl,hm,Wn,hB,hv,hR,q⟩:=h;refine⟨_,(aF (aQ (i:=7) JI.nd rfl (Or.inl rfl) (aY Mn (hr.mono (by first | decide | lia)) rfl T.JU T.DF.kp T.JT .nil aN (ah (aa 5) au)))
   (aF (c8 (aY Mm (hr.mono (by first | decide | lia)) rfl T.JS T.DE.kp T.JR .nil aN (ah (aa 0) (ah (bR eE rfl T.dm boot_len (ah (aa 1) au)) (ah (aa 2) (ah (aa 3) (ah (aa 4) (ah (aa 7) au))))))))
   (aF (cQ PassesOwn.never rfl (c_ (aa 1)) (bB (i:=8) JI.nd rfl (Or.inl rfl))
   (aK (c8 (aY nY (hr.mono (by first | decide | lia)) rfl T.pH T.nQ.kp T.pG .nil aN (ah (aa 8) (ah ak (ah (iw (v:=.int 1000000000) rfl T.Vw ⟨_,rfl⟩) (ah kr au))))))))
   (aK (bF (rW T.Lq Ml (hr.mono (by first | decide | lia)) rfl T.Lr T.JP .nil aN (ah kr (ah (aa 0) (ah (bR eE rfl T.dm boot_len (ah (aa 1) au)) (ah (jm FW rfl T.pI boot_tuple (ah (aa 1) au)) (ah (aa 2) (ah (aa 3) (ah (aa 4) (ah (aa 7) (ah (aa 6) au))))))))))))))),?_⟩
  walk_at "rdt";refine⟨_,ns,rfl,hv,λb H1 s1 hb=>?_⟩;walk_at "rdt";refine⟨_,.inl (s1.seq hm),?_⟩;simp only[List.length_map];refine⟨_,_,_,_,_,_,ns,rfl,hB,aL.of hb,hR,?_⟩
  try dsimp only
  have qD:=s1.seq hm;refine rl ma (ms.map V.int) (λi σ H'=>∃x,σ = [some (.int f),some (.ref ma),some (.int a),some (.int s'),some (d7 l),some bv,some (.bl e),some (.ref b),x]/\H' = H1) (λQ q=>q) qD ⟨none,rfl,rfl⟩ (by rintro i σ H' _ ⟨x,rfl,rfl⟩;exact qD) ?_ ?_
  ·rintro i x σ H' N hN hx ⟨x0,rfl,rfl⟩;obtain⟨n,hn,rfl⟩:=dM hx;walk_at "rdm";exact⟨n,0,1000000000,_,rfl,(Wn n (get_mem hn)).1,(Wn n (get_mem hn)).2,hN _ _ ⟨_,rfl,rfl⟩⟩
  ·rintro σ H' ⟨x0,rfl,rfl⟩;walk_at "rdt";refine⟨_,.inl qD,_,.inl ⟨qD,λmk nm=>?_⟩⟩;intro x dx nx iZ eB;refine⟨x,dx,_,_,_,_,_,_,_,_,_,rfl,aD,rfl,?_⟩;simp only[List.length_map];obtain⟨a1,a2,a3⟩:=QA (K:=K) (C:=A.bM) (q:=⟨"write",f,ms.length,ms,a,s',l,ns,e⟩) (s1.trans (aj.put nm)) nx iZ eB aD (aj.put nm _ _ hb);exact q _ _ _ _ _ a1 a2 a3
theorem Wo(T:Tx K mg A)(aG:bx mg base A.bf A.aV):aX P w K mg base br 4 A.BE A.BF ["self", "plate", "number", "ask"] (adP K [A.bw,A.a_] A.bM A.bX):=by
 have agR:=agv (P:=P) (w:=w) (base:=base) T aG;refine T.Ti.ok afg (λvs H Q E h=>?_) (λaO Ar outer s H vs Q E hr h=>?_)
 ·obtain⟨C,p,pl,ap,dx,n,P,fp,q',m,b,bU,rfl,_⟩:=h
  rfl
 ·obtain⟨C,p,pl,ap,dx,n,P,fp,q',m,b,bU,rfl,hp,hC,hP,eZ,lC,ha,hf,hn,q⟩:=h;refine⟨_,(aF (FL (aa 0) (aa 2) rfl)
   (aF (FL (aa 0) (aa 3) rfl)
   (aK (FL (aa 0) (aY agR (hr.mono (by first | decide | lia)) rfl T.Tg T.J7.kp T.Tf .nil aN (ah (aa 1) (ah (aa 2) (ah (aa 3) au)))) rfl)))),?_⟩
  wp_walk using T,hp;have Ez:ap≠p:=λe=>by
   have:=ha.o;rw[e,hp] at this;simp[nv] at this
  have nm:m≠p:=λe=>by have:=ha.ms;rw[e,hp] at this;cases this
  have nb:b≠p:=λe=>by have:=ha.bh;rw[e,hp] at this;cases this
  have uw:cF K C (upd H p (HO.ins A.bX dx [("number",V.int n),("ask",V.ref ap)])) pl P fp:=hP.keep (aI (Ne.symm eZ)) λb hb=>aI (λe=>lC (e▸hb));have Mp:iY K A.bM (upd H p (HO.ins A.bX dx [("number",V.int n),("ask",V.ref ap)])) ap q' m b bU:=⟨(aI Ez).trans ha.o,(aI nm).trans ha.ms,(aI nb).trans ha.bh⟩;have sb:SameBut p H (upd H p (HO.ins A.bX dx [("number",V.int n),("ask",V.ref ap)])):=(SameBut.of (aj.refl H)).put;have mD:upd H p (HO.ins A.bX dx [("number",V.int n),("ask",V.ref ap)]) p=some (HO.ins A.bX dx [("number",V.int n),("ask",V.ref ap)]):=aD;generalize upd H p (HO.ins A.bX dx [("number",V.int n),("ask",V.ref ap)])=H1 at uw Mp sb mD ⊢;refine⟨C,pl,ap,n,P,fp,q',m,b,bU,rfl,hC,uw,Mp,hf,hn,λl ts H2 s2 nl hz=>⟨_,_,_,s2 _ _ mD,T.DY,T.DZ,by simp,?_⟩⟩
  have yw:=Mp.same s2;have pQ:l≠p:=bO mD nl |>.symm
  have nlH:H l=none:=by
   cases e:H l with
   | none=>rfl
   | some o =>
    have:=sb l o e pQ;rw[nl] at this;cases this
  refine q l ts _ nlH (sb.step s2).put ⟨aD,⟨(aI Ez).trans yw.o,(aI nm).trans yw.ms,(aI nb).trans yw.bh⟩,hz.keep (aI pQ) λt ht=>aI λe=>?_⟩
  obtain⟨i,hi,et⟩:=List.mem_iff_getElem.mp ht;have cO:i<(eW P.nc q'.first q'.many).length:=by rw[← hz.n];exact hi
  have:=hz.t i t _ (by rw[← et];exact List.getElem?_eq_getElem hi) (List.getElem?_eq_getElem cO)
  rw[e,s2 _ _ mD] at this;cases this
theorem agS(T:Tx K mg A)(aG:bx mg base A.bf A.aV):aX P w K mg base br 4 A.BI A.BJ ["plate", "ring", "beat", "cells"] (ab3 K [A.bw,A.a_]):=by
 have agT:=agx (P:=P) (w:=w) (base:=base) T aG;have yh:=LM (P:=P) (w:=w) (base:=base) T aG;have agU:=af0 (P:=P) (w:=w) (base:=base) T aG;refine T.J_.ok qU (λvs H Q E h=>?_) (λaO Ar outer s H vs Q E hr h=>?_)
 ·obtain⟨C,p,P,fp,r,b,ca,bu,cz,rfl,_⟩:=h
  rfl
 ·obtain⟨C,p,P,fp,r,b,ca,bu,cz,rfl,hC,hP,ok,r0,r1,hz,hq,hlen,q⟩:=h;have VW:=ok.sw.len;refine⟨_,(aF (aQ (i:=4) qU.nd rfl (Or.inl rfl) (dG au))
   (aF (cQ PassesOwn.never rfl (c_ (aa 3)) (ji rfl (cV (bB (i:=5) qU.nd rfl (Or.inl rfl)) (cV (bB (i:=6) qU.nd rfl (Or.inl rfl)) iO)))
   (aF (aQ (i:=7) qU.nd rfl (Or.inl rfl) (aY agT (hr.mono (by first | decide | lia)) rfl T.Tn T.J9.kp T.Tj .nil aN (ah (aa 0) (ah (aa 5) (ah (aa 6) (ah (aE dz (aa 2) (kM (aa 0) T.afP agU (hr.mono (by first | decide | lia)) T.Ux .nil aN (ah (aa 1) (ah (aa 5) au)))) au))))))
   (aF (aQ (i:=1) qU.nd rfl (Or.inl rfl) (aa 5))
   (aF (aQ (i:=2) qU.nd rfl (Or.inl rfl) (aE dz (aa 7) (kM (aa 0) T.LI yh (hr.mono (by first | decide | lia)) T.DO .nil aN (ah (aa 5) au))))
   (aK (c8 (jG PySem.F.plainAttrs_list PySem.F.slot_list_append PySem.F.type_list_append jH (aa 4) (ah (cE (ah (aa 1) (ah (aa 6) (ah (aa 7) (ah (aa 2) au))))) au))))))))
   (aK (bF (aa 4))))),?_⟩
  walk_at "rdm";intro l hl;have sl:=aj.put (o:=.lst []) hl;refine rl ca (bu.map V.ref) (λi σ H'=>∃x y z ts,σ = [some (.ref p),some (.int (aW P (r,b) (cz.take i)).1),some (.int (aW P (r,b) (cz.take i)).2),some (.ref ca),some (.ref l),x,y,z]/\aj H H'/\(∀t∈ts,H t=none)/\i<=cz.length/\Zt H' l ts (dh P (r,b) (cz.take i))) (λQ q=>q) (sl.seq hz.sq)
   ⟨none,none,none,[],rfl,sl,(λ_ h=>nomatch h),Nat.zero_le _,Zt.start⟩ (by rintro i σ H' _ ⟨x,y,z,ts,rfl,hs,_⟩;exact hs.seq hz.sq) ?_ ?_
  ·rintro i x σ H' N hN hx ⟨x0,y0,z0,dW,rfl,hs,lB,hi,h1⟩;obtain⟨t,w,rfl,hw,ht⟩:=hz.at hx;have nX:=cN hw;obtain⟨w0,w1,w2,w3⟩:=hq w (get_mem hw);have pK:=ok.c w.1.toNat (by lia)
   obtain⟨e0,e1⟩:=iX P (n:=P.rc.length) (cz.take i) (r,b) r0 r1 λq iS=>⟨(hq q (List.mem_of_mem_take iS)).1,(hq q (List.mem_of_mem_take iS)).2.1⟩;have es:aW P (r,b) (cz.take (i+1))=cT P (aW P (r,b) (cz.take i)) w:=by rw[take_succ_get hw,sO]
   have ws:dh P (r,b) (cz.take (i+1))=dh P (r,b) (cz.take i)++[nj P (aW P (r,b) (cz.take i)) w]:=by rw[take_succ_get hw,sP]
   rw[es,ws] at hN;have wl:(dh P (r,b) (cz.take i)).length=i:=by rw[kN,List.length_take];lia
   generalize aW P (r,b) (cz.take i)=st at e0 e1 hN ⊢;generalize dh P (r,b) (cz.take i)=rows at h1 wl hN ⊢;refine kK (aL.of (hs _ _ ht)) rfl ?_;have qZ:=hP.same hs;obtain⟨dx,a1,a2,a3,a4,ts,fs,nZ,h⟩:=id qZ;wp_walk using h.o,h.f1,h.f2,h.f3,h.f4,h.f5,h.f6,h.m1,h.m2,h.m3,h.m4,h.m5,h.m6,h.m7,h.m8,h.m9,h.fH,h.fW,h.cp.cl,h.cp.n1,h.cp.n2,h.cp.n3,h.cp.n4,h.cp.n5,h.cp.n6;refine⟨hC,C,p,P,fp,st.1,w.1,rfl,qZ,by lia,?_⟩
   wp_walk using h.o,h.f1,h.f2,h.f3,h.f4,h.f5,h.f6,h.m1,h.m2,h.m3,h.m4,h.m5,h.m6,h.m7,h.m8,h.m9,h.fH,h.fW,h.cp.cl,h.cp.n1,h.cp.n2,h.cp.n3,h.cp.n4,h.cp.n5,h.cp.n6;refine⟨C,p,P,fp,w.1,w.2,_,rfl,hC,qZ,ok,w0,w1,w2,w3,?_⟩;wp_walk using h.o,h.f1,h.f2,h.f3,h.f4,h.f5,h.f6,h.m1,h.m2,h.m3,h.m4,h.m5,h.m6,h.m7,h.m8,h.m9,h.fH,h.fW,h.cp.cl,h.cp.n1,h.cp.n2,h.cp.n3,h.cp.n4,h.cp.n5,h.cp.n6;refine⟨hC,C,p,P,fp,w.1,rfl,qZ,w0,w1,pK.1,pK.2,?_⟩;walk_at "rdm";refine⟨⟨_,aA.of h1.l⟩,λt1 n1=>?_⟩;have hn:=h1.n;have e2:=aj.put n1 (o:=.tup [V.int w.1,V.int w.2,V.int (oV P st w),V.int (cT P st w).2]) _ _ h1.l;refine⟨_,e2,by simp;lia,hN _ _ ⟨_,_,_,dW++[t1],rfl,aj.put2 (hs.trans (aj.put n1)) hl,?_,nX,h1.snoc n1 (nj P st w)⟩⟩
   intro t' jy;rcases List.mem_append.mp jy with jy | jy
   ·exact lB t' jy
   ·rw[List.mem_singleton.mp jy];exact hs.free n1
  ·rintro σ H' ⟨x0,y0,z0,dW,rfl,hs,lB,hi,h1⟩;walk_at "rdm";rw[lenZ hz.n,List.take_length] at h1;exact q _ _ _ hs hl lB h1
theorem agV(T:Tx K mg A)(aG:bx mg base A.bf A.aV):aX P w K mg base br 4 A.CQ A.CS ["self", "zones", "lap", "skew", "swing", "spares", "bad"] (adv K A.a_ A.aV (nC fZ) (nF "nearest_rings")):=by
 have L7:=VP (P:=P) (w:=w) (base:=base) T aG;have L8:=VR (P:=P) (w:=w) (base:=base) T aG;have Mq:=V7 (P:=P) (w:=w) (base:=base) T aG;have agW:=af1 (P:=P) (w:=w) (base:=base) T aG;have agX:=agj (P:=P) (w:=w) (base:=base) T aG;have agY:=agH (P:=P) (w:=w) (base:=base) T aG;refine T.UX.ok xD (λvs H Q E h=>?_) (λaO Ar outer s H vs Q E hr h=>?_)
 ·obtain⟨p,dx,za,sa,ba,bq,iW,z,bz,ao,bY,s,sw,rfl,_⟩:=h
  rfl
 ·obtain⟨p,dx,za,sa,ba,bq,iW,z,bz,ao,bY,s,sw,rfl,cp,nm,hp,hz,ok,h1,h2,h3,h4,hd,hS,so,yx,Wa,bnd,bin,c64,fO,gv,tab,en,q⟩:=h;refine⟨_,(aF (c8 (abW rfl T.LG T.Vq Mq (hr.mono (by first | decide | lia)) T.KL .nil aN (ah (aa 0) (ah (aa 1) (ah (aa 2) (ah (aa 3) (ah (aa 4) au)))))))
   (aF (c8 (aY agW (hr.mono (by first | decide | lia)) rfl T.UL T.KQ.kp T.UK .nil aN (ah (aa 5) (ah (b_ (aa 0) rfl) au))))
   (aF (aQ (i:=7) xD.nd rfl (Or.inl rfl) (aY agX (hr.mono (by first | decide | lia)) rfl T.UN T.KR.kp T.UM .nil aN (ah (aa 0) (ah (aa 6) au))))
   (aF (gu (aa 0) (aY L7 (hr.mono (by first | decide | lia)) rfl T.KH T.DM.kp T.KG .nil aN (ah (b_ (aa 0) rfl) (ah (aa 5) au))) rfl)
   (aF (gu (aa 0) (aY agY (hr.mono (by first | decide | lia)) rfl T.UW T.KY.kp T.UU .nil aN (ah (b_ (aa 0) rfl) (ah (aa 5) (ah (b_ (aa 0) rfl) (ah (aa 7) au))))) rfl)
   (aF (cQ PassesOwn.never rfl (c_ (b_ (aa 0) rfl)) (ji rfl (cV (bB (i:=8) xD.nd rfl (Or.inl rfl)) (cV (bB (i:=9) xD.nd rfl (Or.inl rfl)) (cV (bB (i:=10) xD.nd rfl (Or.inl rfl)) iO))))
   (aK (qa (aa 10) (u5 (b_ (aa 0) rfl) (aa 8) set_list))))
   (aK (gu (aa 0) (aY L8 (hr.mono (by first | decide | lia)) rfl T.KJ T.DN.kp T.KI .nil aN (ah (b_ (aa 0) rfl) au)) rfl)))))))),?_⟩
  walk_at "rdm";refine⟨_,p,dx,za,sa,bq,z,ao,bY,sw,rfl,cp,hp,hz,ok,h1,h2,h3,h4,hd,hS,so,λH1 pR a1 a2 a3 a4 ts sb nf mD hA=>?_⟩;have cl:=oR z λp hp=>(ok.r p hp).1;have agG:=ok.zZ;have c2:=ok.s2;have cm:∀c∈counts z,0<=c/\c<=60:=λc hc=>by
   obtain⟨y,hy,rfl⟩:=oU hc;have:=ok.r y hy;lia
  have Wq:∀c∈counts z,0<=c/\c<=1000:=λc hc=>by have:=cm c hc;lia
  have cS:0<(counts z).length:=by lia
  have s60:s<60:=by
   have:=gv _ (List.getElem_mem cS);have:=cm _ (List.getElem_mem cS);lia
  have Mr:∀ {a:Addr} {o:HO},H a=some o->(∀C d f,o≠.ins C d f)->a≠p:=λe n z=>n _ _ _ (by rw[z,hp] at e;exact(Option.some.inj e).symm)
  have ba1:Zn H1 ba iW bz:=⟨sb _ _ yx.l (Mr yx.l (by intro _ _ _ z;cases z)),yx.n,λi t x e1 e2=>sb _ _ (yx.t i t x e1 e2) (Mr (yx.t i t x e1 e2) (by intro _ _ _ z;cases z))⟩
  have pP:A.aV≠p:=(tab.ne hp (by intro _ z;cases z)).symm
  have agZ:cH A.aV (nC fZ) (nF "nearest_rings") H1:=by
   obtain⟨ps,e',k,c⟩:=tab;refine⟨ps,sb _ _ e' pP,k,?_⟩;rcases c with c | ⟨c',c1,c2⟩
   ·exact .inl c
   ·exact .inr ⟨c',c1,sb _ _ c2 (Mr c2 (by intro _ _ _ z;cases z))⟩
  wp_walk using hA.o,hA.f1,hA.f2,hA.f3,hA.f4,hA.f5,hA.f6,hA.m1,hA.m2,hA.m3,hA.m4,hA.m5,hA.m6,hA.m7,hA.m8,hA.m9,hA.fH,hA.fW,hA.cp.cl,hA.cp.n1,hA.cp.n2,hA.cp.n3,hA.cp.n4,hA.cp.n5,hA.cp.n6;refine⟨a1,counts z,s,rfl,aA.of hA.rc,by lia,fO,gv,?_⟩
  refine⟨_,p,ba,_,_,iW,bz,rfl,by simp,⟨pR,a1,a2,a3,a4,ts,_,rfl,hA⟩,ba1,by lia,bnd,bin,λd H2 s2 nd e2=>?_⟩
  have cJ:=hA.move (H':=H2) (by rw[hA.o];exact s2 _ _ hA.o) (by rw[hA.rc];exact s2 _ _ hA.rc) (by rw[hA.sw];exact s2 _ _ hA.sw) (by rw[hA.nc.l];exact s2 _ _ hA.nc.l) (by rw[hA.cn];exact s2 _ _ hA.cn) (λt ht=>by obtain⟨o,e⟩:=hA.nc.has ht;rw[e];exact s2 _ _ e)
  wp_walk using cJ.o,cJ.f1,cJ.f2,cJ.f3,cJ.f4,cJ.f5,cJ.f6,cJ.m1,cJ.m2,cJ.m3,cJ.m4,cJ.m5,cJ.m6,cJ.m7,cJ.m8,cJ.m9,cJ.fH,cJ.fW,cJ.cp.cl,cJ.cp.n1,cJ.cp.n2,cJ.cp.n3,cJ.cp.n4,cJ.cp.n5,cJ.cp.n6;refine⟨a1,counts z,s,rfl,aA.of cJ.rc,by lia,Wq,fO,?_,λl3 t3 H3 s3 n3 Wr z3=>?_⟩
  ·have:=gv _ (List.getElem_mem cS);have:=cm _ (List.getElem_mem cS);lia
  have o3:=s3 _ _ cJ.o;wp_walk using o3,sM,cp.cl,cp.n1,cp.n5,nm;have q9:l3≠p:=(bO cJ.o n3).symm;have yy:∀t∈t3,t≠p:=λt ht=>(bO cJ.o (Wr t ht)).symm;have pd:d≠p:=(bO hA.o nd).symm;have EA:a1≠p:=gQ cJ.rc cJ.o (by intro z;cases z)
  have Mt:a2≠p:=gQ cJ.sw cJ.o (by intro z;cases z)
  have pL:SameBut p H H3:=(sb.step s2).step s3;have Ws:=agZ.same (s2.trans s3);have zl:(e8 (counts z) s).length<=1000000:=by
   have:=z7 (s:=s) fO (counts z) 0 Wq;have e:(counts z).length<=120:=by lia
   unfold e8;lia
  have tu:Az (bz.map kT):=adb (λx hx=>by
   obtain⟨b1,b2,b3,b4⟩:=bin x hx;have hi:x.1.toNat<(counts z).length:=by lia
   rw[show (counts z).getD x.1.toNat 0=(counts z)[x.1.toNat] by simp[hi]] at b4
   have:=cm _ (List.getElem_mem hi);lia) bnd
  refine⟨a1,l3,d,s,counts z,t3,_,bz,rfl,aA.of ((aI EA).trans (s3 _ _ cJ.rc)),by lia,c64,fO,by lia,λc hc=>by have:=gv c hc;have:=cm c hc;lia,z3.keep (aI q9) (λt ht=>aI (yy t ht)),zl,(aI pd).trans (s3 _ _ e2),tu,Wa,Ws.put o3,en,λmv us os ms H5 k5 EB Wt hL hM=>?_⟩
  have yz:mv≠p:=(bO aD EB).symm;have ag0:H3 mv=none:=by rw[aI yz] at EB;exact EB
  have yC:=Ws.put (o:=HO.ins A.a_ pR [(Str.ofString "ring_cells",V.ref a1),(Str.ofString "lap",V.int ao),(Str.ofString "skew",V.int bY),(Str.ofString "swing",V.ref a2),(Str.ofString "number_cells",V.ref l3),(Str.ofString "cell_numbers",V.ref a4)]) o3;have p5:=k5.get yC aD;wp_walk using p5,cp.cl,nm;refine sL ?_;wp_walk using cp.cl,nm;have zU:=z3.keep (H':=upd H3 p (HO.ins A.a_ pR [(Str.ofString "ring_cells",V.ref a1),(Str.ofString "lap",V.int ao),(Str.ofString "skew",V.int bY),(Str.ofString "swing",V.ref a2),(Str.ofString "number_cells",V.ref l3),(Str.ofString "cell_numbers",V.ref a4)])) (aI q9) (λt ht=>aI (yy t ht));have z5:Zn H5 l3 t3 _:=⟨k5.get yC zU.l,zU.n,λi t x e1 e2=>k5.get yC (zU.t i t x e1 e2)⟩;have Mu:mv≠l3:=(bO zU.l EB).symm;generalize e6:upd H5 p (HO.ins A.a_ pR [(Str.ofString "ring_cells",V.ref a1),(Str.ofString "lap",V.int ao),(Str.ofString "skew",V.int bY),(Str.ofString "swing",V.ref a2),(Str.ofString "number_cells",V.ref l3),(Str.ofString "cell_numbers",V.ref a4),(Str.ofString "moves",V.ref mv)])=H6;have p6:H6 p=some (HO.ins A.a_ pR [(Str.ofString "ring_cells",V.ref a1),(Str.ofString "lap",V.int ao),(Str.ofString "skew",V.int bY),(Str.ofString "swing",V.ref a2),(Str.ofString "number_cells",V.ref l3),(Str.ofString "cell_numbers",V.ref a4),(Str.ofString "moves",V.ref mv)]):=by rw[← e6];exact aD
  have o6:∀b,b≠p->H6 b=H5 b:=λb hb=>by rw[← e6];exact aI hb
  have Wu:cH A.aV (nC fZ) (nF "nearest_rings") H6:=by rw[← e6];exact k5.t.put p5
  have M6:g8 H6 mv t3 us os ms:=⟨(o6 mv yz).trans hM.l,hM.n,hM.no,λi u m e1 e2=>by
   obtain⟨tc,to,x,a,b,c,d⟩:=hM.t i u m e1 e2;exact⟨tc,to,x,(o6 _ (gQ a p5 (by intro z;cases z))).trans a,b,(o6 _ (gQ c p5 (by intro z;cases z))).trans c,(o6 _ (gQ d p5 (by intro z;cases z))).trans d⟩⟩
  have z6:=z5.keep (o6 l3 q9) (λt ht=>o6 t (yy t ht));refine nh.by mv (us.map V.ref) (λi σ H'=>∃x y w lF,σ = [some (V.ref p),some (V.ref za),some (V.int ao),some (V.int bY),some (V.ref sa),some (V.int s),some (V.ref ba),some (V.ref d),x,y,w]/\(∀b,b≠l3->H' b=H6 b)/\Zn H' l3 lF (mj (e8 (counts z) s) (ms.take i))/\∀t∈lF,t∈t3\/t∈os)
   (aA.of M6.l) ⟨none,none,none,t3,rfl,λ_ _=>rfl,z6,λt ht=>.inl ht⟩ (by rintro i σ H' _ ⟨x,y,w,lF,rfl,hb,_⟩;exact aA.of ((hb mv Mu).trans M6.l)) ?_ ?_
  ·rintro i x σ H' N hN hx ⟨x0,y0,w0,lF,rfl,hb,lE,jx⟩;obtain⟨u,uu,rfl⟩:=dM hx;have hi:i<ms.length:=by rw[← M6.n];exact cN uu
   obtain⟨m,hm⟩:∃m,ms[i]? = some m:=⟨_,List.getElem?_eq_getElem hi⟩;obtain⟨tc,to,ho,ea,eb,ec,ed⟩:=M6.t i u m uu hm;have EC:∀ {a:Addr} {xs:List V},H6 a=some (.tup xs)->H' a=some (.tup xs):=λ{a xs} e=>(hb a (gQ e z6.l (by intro z;cases z))).trans e
   refine⟨u,[.int (m.1:Int),.ref tc,.ref to],rfl,aL.of (EC ea),rfl,_,_,rfl,_,_,rfl,_,_,rfl,rfl,?_⟩;wp_walk using(hb p q9.symm).trans p6,cp.cl,cp.n5;have hml:m.1<lF.length:=by rw[lE.n,AD,← z6.n];exact cN eb
   refine⟨_,lE.l,m.1,adt (by rw[List.length_map];exact hml),?_⟩
   rw[← List.map_set];refine hN _ _ ⟨_,_,_,lF.set m.1 to,rfl,λb h=>by rw[aI h];exact hb b h,?_,?_⟩
   ·rw[take_succ_get hm,adu];exact lE.setAt (EC ed)
   ·intro t ht;rcases List.mem_or_eq_of_mem_set ht with h | h
    ·exact jx t h
    ·rw[h];exact .inr (get_mem ho)
  ·rintro σ H' ⟨x,y,w,lF,rfl,hb,lE,jx⟩;rw[List.length_map,M6.n,List.take_length] at lE;have ED:=(hb p q9.symm).trans p6;wp_walk using ED,cp.cl,cp.n5,cp.n6;have sZ:=Wu.keep hb z6.l;refine⟨l3,lF,_,rfl,lE,by rw[AD];exact zl,λcn H7 s7 yD ecn=>?_⟩
   have Wv:cn≠p:=(bO ED yD).symm;wp_walk using s7 _ _ ED,cp.cl,cp.n6;have fresh:∀b,b≠p->H3 b=none->H b=none:=λb hb e=>by
    cases q':H b with
    | none=>rfl
    | some o=>rw[pL _ _ q' hb] at e;cases e
   have ux:H l3=none:=by
    cases q':H l3 with
    | none=>rfl
    | some o=>rw[(sb.step s2) _ _ q' q9] at n3;cases n3
   have Ww:∀b o,H b=some o->b≠p->b≠A.aV->H' b=some o:=λb o e np nP=>by
    rw[hb b (bO e ux),o6 b np];exact k5.b _ _ ((aI np).trans (pL _ _ e np)) nP
   have a13:a1≠l3:=bO cJ.rc n3;have a23:a2≠l3:=bO cJ.sw n3;have r7:=s7 _ _ ((hb a1 a13).trans ((o6 a1 EA).trans (k5.get yC ((aI EA).trans (s3 _ _ cJ.rc)))));have w7:=s7 _ _ ((hb a2 a23).trans ((o6 a2 Mt).trans (k5.get yC ((aI Mt).trans (s3 _ _ cJ.sw)))));have tp:∀t∈lF,t≠p:=λt ht=>by
    obtain⟨o,e⟩:=lE.has ht;rcases jx t ht with h | h
    ·exact yy t h
    ·exact(bO aD (Wt t h)).symm
   have EC:∀ {a:Addr} {xs:List V},H6 a=some (.tup xs)->H7 a=some (.tup xs):=λ{a xs} e=>s7 _ _ ((hb a (gQ e z6.l (by intro z;cases z))).trans e)
   have Mv:∀ {a:Addr} {xs:List V} {o:HO},H6 a=some (.tup xs)->upd H7 p o a=some (.tup xs):=λ{a xs o} e=>(aI (gQ e p6 (by intro z;cases z))).trans (EC e)
   refine q _ (a1::a2::l3::cn::lF) mv t3 us os ms (λb o e np nP=>(aI np).trans (s7 _ _ (Ww b o e np nP))) ((sZ.same s7).put (s7 _ _ ED)) ?_ hL ⟨pR,a1,a2,l3,cn,lF,[(Str.ofString "ring_cells",V.ref a1),(Str.ofString "lap",V.int ao),(Str.ofString "skew",V.int bY),(Str.ofString "swing",V.ref a2),(Str.ofString "number_cells",V.ref l3),(Str.ofString "cell_numbers",V.ref cn),(Str.ofString "moves",V.ref mv)],rfl,?_,nm,?_,?_⟩ ⟨?_,M6.n,M6.no,λi u m e1 e2=>?_⟩
   ·intro b iz;simp only[List.mem_cons] at iz;rcases iz with rfl | rfl | rfl | rfl | rfl | iz
    ·exact fresh _ yz ag0
    ·exact nf _ (by simp)
    ·exact nf _ (by simp)
    ·exact ux
    ·cases q':H b with
     | none=>rfl
     | some o =>
      by_cases nP:b=A.aV
      ·obtain⟨ps,e',_⟩:=sZ;rw[nP,e'] at yD;cases yD
      ·rw[Ww _ _ q' Wv nP] at yD;cases yD
    ·rcases jx b iz with h | h
     ·have:=Wr b h;cases q':H b with
      | none=>rfl
      | some o=>rw[(sb.step s2) _ _ q' (yy b h)] at this;cases this
     ·have np:=tp b iz;have:=Wt b h;rw[aI np] at this;exact fresh b np this
   ·refine⟨cp,aD,?_,?_,?_,?_,?_,?_,?_,?_,?_,?_,?_,?_,?_,?_,?_,?_,?_,?_,?_,?_,?_⟩
    rotate_left 17
    ·exact(aI EA).trans r7
    ·exact(aI Mt).trans w7
    ·exact(lE.same s7).keep (aI q9) (λt ht=>aI (tp t ht))
    ·exact(aI Wv).trans ecn
    all_goals simp[List.lookup_cons,sI]
   ·simp[List.lookup_cons,sI]
   ·exact(aI yz).trans (s7 _ _ ((hb mv Mu).trans M6.l))
   ·exact(aI yz).trans (s7 _ _ ((hb mv Mu).trans M6.l))
   ·obtain⟨tc,to,x,a,b,c,d⟩:=M6.t i u m e1 e2;exact⟨tc,to,x,Mv a,b,Mv c,Mv d⟩
theorem ag1(T:Tx K mg A)(aG:bx mg base A.bf A.aV):aX P w K mg base br 4 A.Dd A.De ["_law_script", "_law_plate_here", "_law_spec_here", "_law_spot_here", "_law_most"] (ad2 K [A.bw,A.a_]):=by
 have EE:=afY (P:=P) (w:=w) (base:=base) T aG;have LQ:=VT (P:=P) (w:=w) (base:=base) T aG;have kg:=LN (P:=P) (w:=w) (base:=base) T aG;have yi:=LO (P:=P) (w:=w) (base:=base) T aG;have yt:=L3 (P:=P) (w:=w) (base:=base) T aG;have ag2:=agL (P:=P) (w:=w) (base:=base) T aG;have ag3:=agM (P:=P) (w:=w) (base:=base) T aG;refine T.K8.ok fq (λvs H Q E h=>?_) (λaO Ar outer s H vs Q E hr h=>?_)
 ·obtain⟨C,sc,p,t,sp,z,ao,sk,sw,za,bq,ca,sa,nc,fp,r,b,most,ns,rfl,_⟩:=h
  rfl
 ·obtain⟨C,sc,p,t,sp,z,ao,sk,sw,za,bq,ca,sa,nc,fp,r,b,most,ns,rfl,gv,lG,hC,hP,nk,hS,ok,cY,r0,r1,b0,b1,m1,m7,q⟩:=h;refine⟨_,(aF (aQ (i:=5) fq.nd rfl (Or.inl rfl) (aY kg (hr.mono (by first | decide | lia)) rfl T.lq T.j8.kp T.lg .nil aN (ah (aa 0) (ah ak au))))
   (aF (aQ (i:=6) fq.nd rfl (Or.inl rfl) (gR jj (aE fj (aE i9 (aa 5) ak) ak) ak (bI _)))
   (aF (aQ (i:=7) fq.nd rfl (Or.inl rfl) (aH bL (dG (ah (aE fj (aa 5) (aa 4)) (ah (aa 4) au))) (jm Ht rfl T.qX boot_int (ah (gR jj (aE fj (aE i9 (aa 5) (aa 4)) ak) ak (bI _)) au)) (λ_ _=>rfl)))
   (aF (k6 (c9 (jh (aa 6)) (aK (aQ (i:=7) fq.nd rfl (Or.inl rfl) (aE dj ak (aE fj (aE i9 (aa 5) ak) ak)))) bT))
   (aF (aQ (i:=8) fq.nd rfl (Or.inl rfl) (aE dz (aH bH (aa 2) ak (λ_ _=>rfl)) (aH mW (aH bH (aa 2) ak (λ_ _=>rfl)) (qi qk ak) (λ_ _=>rfl))))
   (aF (aQ (i:=9) fq.nd rfl (Or.inl rfl) (dG au))
   (aF (aQ (i:=10) fq.nd rfl (Or.inl rfl) (qi qk ak))
   (aF (aQ (i:=11) fq.nd rfl (Or.inl rfl) (aa 3))
   (aF (cQ PassesOwn.never rfl (jB rfl T.eY (ah (aa 7) au)) (bB (i:=12) fq.nd rfl (Or.inl rfl))
   (aF (aQ (i:=13) fq.nd rfl (Or.inr rfl) (aY yi (hr.mono (by first | decide | lia)) rfl T.DQ T.yc.kp T.DP .nil aN (ah (aE dz (aY kg (hr.mono (by first | decide | lia)) rfl T.lq T.j8.kp T.lg .nil aN (ah (aa 0) (ah (aE dj ak (aa 12)) au))) (aa 12)) (ah ak au))))
   (aF (aQ (i:=14) fq.nd rfl (Or.inr rfl) (aE cB (aH bL (aa 13) ak (λ_ _=>rfl)) (aH bL (dG (ah (wF (aa 1) T.El EE (hr.mono (by first | decide | lia)) T.ya .nil aN) (ah (bR (FI rfl) rfl T.nT boot_min (ah (wF (aa 1) T.El EE (hr.mono (by first | decide | lia)) T.ya .nil aN) (ah ak au))) au))) (aE fj (aE i9 (aa 5) ak) ak) (λ_ _=>rfl))))
   (aF (k6 (c9 (jh (aa 6)) (aK (aQ (i:=14) fq.nd rfl (Or.inr rfl) (aE rN (aE cB (aH bL (aa 13) ak (λ_ _=>rfl)) ak) (aE lQ (wF (aa 1) T.El EE (hr.mono (by first | decide | lia)) T.ya .nil aN) ak)))) bT))
   (aF (aQ (i:=15) fq.nd rfl (Or.inl rfl) (aE dz ak (aE cB (aH bL (aa 13) ak (λ_ _=>rfl)) (bR (FI rfl) rfl T.nT boot_min (ah (aE k_ ak (jm Ht rfl T.qX boot_int (ah (aa 6) au))) (ah (aE lQ (wF (aa 1) T.El EE (hr.mono (by first | decide | lia)) T.ya .nil aN) (aa 14)) au))))))
   (aF (aQ (i:=10) fq.nd rfl (Or.inl rfl) (aE dz (aE dj (aa 10) ak) (aE cB (aH bL (aa 13) ak (λ_ _=>rfl)) ak)))
   (aF (k6 (tF (i:=16) fq.nd rfl (Or.inl rfl) (N:=["_law_j", "_law_plate_here", "_law_first"]) (nt:=1) (fv:=[1,14]) (cD.of rfl rfl (by rfl) (by rfl) (by repeat (first | exact trivial | refine⟨rfl,?_⟩)) (by rfl) (by rfl) (by rfl) (by decide) (by decide +kernel)) rfl (jB rfl T.eY (ah (aa 15) au)) (λC s H fp=>(bB (i:=0) (show List.Nodup (["_law_j", "_law_plate_here", "_law_first"]:List Str) by decide +kernel) rfl (Or.inl rfl))) (λC s H fp=>iT) (λC s H fp=>(kM (aa 1) T.VJ LQ (hr.mono (by first | decide | lia)) T.KO .nil aN (ah (aE dj (aa 2) (aa 0)) au)))))
   (aF (k6 (aQ (i:=11) fq.nd rfl (Or.inl rfl) (aY yt (hr.mono (by first | decide | lia)) rfl T.DS T.yd.kp T.DR .nil aN (ah (aa 2) (ah (aH bH (aa 11) ak (λ_ _=>rfl)) (ah (aH bH (aa 11) ak (λ_ _=>rfl)) (ah (aa 16) au)))))))
   (aF (aQ (i:=17) fq.nd rfl (Or.inl rfl) (aH mW (dG (ah oq (ah (aE lQ (aH bH (aa 11) ak (λ_ _=>rfl)) (aE cB (aH bL (aa 13) ak (λ_ _=>rfl)) ak)) au))) (aE cB (aH bL (aa 13) ak (λ_ _=>rfl)) ak) (λ_ _=>rfl)))
   (aF (k6 (c9 (cW iQ (aE cB (aH bL (aa 13) ak (λ_ _=>rfl)) ak) ak (bI _)) (aK (aQ (i:=17) fq.nd rfl (Or.inl rfl) (aE dz (aH bH (aa 3) ak (λ_ _=>rfl)) (aE cB (aH bL (aa 13) ak (λ_ _=>rfl)) (aE dz ak (aE rN (aa 8) (aE dz ak (aE cB (aH bL (aa 13) ak (λ_ _=>rfl)) (aH bL (dG (ah ak (ah ak au))) (jm Ht rfl T.qX boot_int (ah (aa 6) au)) (λ_ _=>rfl)))))))))) bT))
   (aF (aQ (i:=18) fq.nd rfl (Or.inl rfl) (jm FW rfl T.pI boot_tuple (ah (gm (N:=["_law_j", "_law_xs"]) (nt:=1) (fv:=[13]) (cD.of rfl rfl (by rfl) (by rfl) (by repeat (first | exact trivial | refine⟨rfl,?_⟩)) (by rfl) (by rfl) (by rfl) (by decide) (by decide +kernel)) rfl (jB rfl T.eY (ah (aa 10) au)) (λC s H fp=>(bB (i:=0) (show List.Nodup (["_law_j", "_law_xs"]:List Str) by decide +kernel) rfl (Or.inl rfl))) (λC s H fp=>(lV (PW.pt (rK (cW jj (aE cB (aE rO (aH (HX (K:=K) rfl) (aa 1) ak (λ_ _=>rfl)) (aE dj ak (aa 0))) ak) ak (bI _)) (rJ (cW jj (aE cB (aH (HX (K:=K) rfl) (aa 1) ak (λ_ _=>rfl)) ak) ak (bI _))))))) (λC s H fp=>(aa 0))) au)))
   (aK (c8 (jG PySem.F.plainAttrs_list PySem.F.slot_list_append PySem.F.type_list_append jH (aa 9) (ah (cE (ah (aa 10) (ah (aa 14) (ah (aa 15) (ah (Fq (aa 6) (lK (gR jj (aE cB (aH bL (aa 13) ak (λ_ _=>rfl)) ak) ak (bI _)))) (ah (aa 18) (ah (aa 17) (ah (aa 16) au)))))))) au)))))))))))))))
   (aF (k6 (ia (dF HW (aE fj (aE i9 (aa 5) ak) ak) ak (bI _)) (aK (aQ (i:=9) fq.nd rfl (Or.inl rfl) (aY ag2 (hr.mono (by first | decide | lia)) rfl T.U9 T.K6.kp T.U8 .nil aN (ah (aa 1) (ah (aa 2) (ah (aa 3) (ah (aE i9 (aa 5) ak) au))))))) bT))
   (aF (k6 (ia (dF HW (aE fj (aE i9 (aa 5) ak) ak) ak (bI _)) (aK (aQ (i:=9) fq.nd rfl (Or.inl rfl) (aY ag3 (hr.mono (by first | decide | lia)) rfl T.Va T.K7.kp T.U_ .nil aN (ah (aa 2) (ah (aa 3) (ah (aa 9) au)))))) bT))
   (aK (bF (pv 9)))))))))))))),?_⟩
  wp_walk using iU;have Eu:=aL.of (K:=K) hS.o;have kp:=aL.of (K:=K) cY;refine⟨ns,gv,lG,by lia,λo1 mG=>⟨by lia,by lia,_,aA.of aD,.int (if eg ns 5 / most % 5=1 then most else eg ns 5 % most),by split <;> rfl,?_⟩⟩
  have sA:=aj.put (o:=.lst [V.int (eg ns 5 % most),V.int most]) mG;generalize upd H o1 (.lst [V.int (eg ns 5 % most),V.int most])=H1 at sA ⊢;have e0:=Int.emod_nonneg (eg ns 5) (show most≠0 by lia)
  have e1:=Int.emod_lt_of_pos (eg ns 5) (show 0<most by lia)
  have f0:=Int.emod_nonneg (eg ns 5 / 400) (show (2:Int)≠0 by decide)
  have f1:=Int.emod_lt_of_pos (eg ns 5 / 400) (show (0:Int)<2 by decide)
  generalize kj:decide (eg ns 5 / 50 % 8=1)=ch;refine⟨λσ H'=>∃mn:Int,σ = [some (.ref sc),some (.ref p),some (.ref t),some (.ref sp),some (.int most),some (.int (eg ns 5)),some (.bl ch),some (.int mn),none,none,none,none,none,none,none,none,none,none,none]/\H' = H1/\0<=mn/\mn<=7,bW (λ_=>⟨_,rfl,rfl,by lia,by lia⟩) λ_=>⟨_,rfl,rfl,by split <;> lia,by split <;> lia⟩,?_⟩
  rintro σ H' ⟨mn,rfl,rfl,mn0,mn7⟩;generalize eg ns 5=cell at *
  have swl:=ok.so.len;have sw2:=ok.so.two;have fr:=RG ok.so (sw.length - 1);wp_walk using iU;refine⟨_,sA.fG Eu,_,rfl,_,sA.fG Eu,_,rfl,sa,rfl,_,aA.of (sA _ _ hS.s),_,GD (by lia),?_⟩
  wp_walk using iU;have fl1:=ok.l1;have fl2:=ok.l2;intro l nl;have gM:=hS.same sA;have uw:=hP.same sA;have kp1:=sA.fG kp;have yE:=sA.seq gv;have nn2:=nk.n2;have Wx:=nk.n1;generalize ag4:ao+sw.getD (sw.length - 1) 0=g_;have ag5:1<=g_:=by lia
  have ag6:g_<=2000000000:=by lia
  have pk:=ok.pl [];have l2':(bC z ao sk sw []).ao<=1000000000:=ok.l2;clear ag4;refine z9 mn (λi σ H2=>∃(y1 y2 y3 y4 y5 y6 y7:Option V) (nu:Int) (u:Addr) (st:Int×Int) (ts:List Addr) (ks:List Kn),σ = [some (.ref sc),some (.ref p),some (.ref t),some (.ref sp),some (.int most),some (.int cell),some (.bl ch),some (.int mn),some (.int g_),some (.ref l),some (.int nu),some (.ref u),y1,y2,y3,y4,y5,y6,y7]/\aj H' H2/\H2 u=some (.tup [.int st.1,.int st.2])/\0<=st.1/\st.1<(counts z).length/\0<=st.2/\st.2<=1000000000000+6000000000*(i:Int)/\jQ H' H2 l ts ks/\ks.length=i/\-1<=nu/\nu<3*(i:Int)/\(∀k∈ks,qH nc k/\k.n<=nu)/\ks.Pairwise λa b=>a.n<b.n) (λQ q=>q) (by lia) (by lia) ⟨none,none,none,none,none,none,none,-1,sp,(r,b),[],[],rfl,aj.put nl,aj.put nl _ _ (sA _ _ cY),r0,r1,b0,by dsimp only;lia,⟨aD,rfl,nl,λi t k e=>by simp at e⟩,rfl,by lia,by lia,(λ_ h=>nomatch h),.nil⟩ ?_ ?_
  ·rintro i σ H2 N hN hi ⟨y1,y2,y3,y4,y5,y6,y7,nu,u,st,ts,ks,rfl,s2,hu,u0,u1,t0,t1,hg,gn,g0,g1,gk,gp⟩;have i7:(i:Int)<7:=by lia
   wp_walk using iU;refine⟨ns,s2.seq yE,lG,by lia,_,_,rfl,by decide,by decide,λxa xs H3 s3 nx hx X=>?_⟩
   have X:nG xs 9:=X;have xl:=X.n;have g:∀k:Int,0<=k->k<9->dR (xs.map V.int) k=some (.int (xs.getD k.toNat 0)):=λk h0 h1=>fF h0 (by lia)
   have Mw:=s2.trans s3;obtain⟨jz,a1,a2,a3,a4,dW,fs,nZ,hA⟩:=uw.same Mw;have hp:=hA.o;wp_walk using iU;have yF:=uw.same Mw;refine⟨_,aA.of hx,_,g 0 (by decide) (by decide),C,jz,fs,hp,hC,hA.m2,C,p,bC z ao sk sw nc,fp,rfl,yF,C,jz,fs,hp,hC,hA.m2,C,p,bC z ao sk sw nc,fp,rfl,yF,_,rfl,λo2 Mx=>?_⟩
   have enc:(bC z ao sk sw nc).nc=nc:=rfl;simp only[enc];have pS:=aj.put (o:=.lst [V.int (nc.length:Int),V.int (if 5<(nc.length:Int) then 5 else(nc.length:Int))]) Mx
   have fM:upd H3 o2 (.lst [V.int (nc.length:Int),V.int (if 5<(nc.length:Int) then 5 else(nc.length:Int))]) o2=some (.lst [V.int (nc.length:Int),V.int (if 5<(nc.length:Int) then 5 else(nc.length:Int))]):=aD
   generalize upd H3 o2 (.lst [V.int (nc.length:Int),V.int (if 5<(nc.length:Int) then 5 else(nc.length:Int))])=H4 at pS fM ⊢
   obtain⟨D,hD,D0,D1⟩:∃D:Int,dR [V.int (nc.length:Int),V.int (if 5<(nc.length:Int) then 5 else(nc.length:Int))] (cell / 25 % 2)=some (.int D)/\1<=D/\D<=nc.length:=by
    have h0:=Int.emod_nonneg (cell / 25) (show (2:Int)≠0 by decide)
    have h1:=Int.emod_lt_of_pos (cell / 25) (show (0:Int)<2 by decide)
    have:cell / 25 % 2=0\/cell / 25 % 2=1:=by lia
    rcases this with e | e <;> rw[e]
    ·exact⟨_,rfl,by lia,by lia⟩
    ·exact⟨_,rfl,by split <;> lia,by split <;> lia⟩
   have Ep:=Mw.trans pS;have EF:=pS _ _ hx;have My:=yF.same pS;have k9:=pS _ _ hp;have q0:=X.md (Int.toNat 0) (k:=D) (by lia)
   have q2:=X.md (Int.toNat 0) (k:=2) (by decide)
   refine⟨_,aA.of fM,_,hD,_,rfl,_,rfl,by lia,λσ H5=>∃f:Int,σ = [some (.ref sc),some (.ref p),some (.ref t),some (.ref sp),some (.int most),some (.int cell),some (.bl ch),some (.int mn),some (.int g_),some (.ref l),some (.int nu),some (.ref u),some (.int (i:Int)),some (.ref xa),some (.int f),y4,y5,y6,y7]/\H5=H4/\0<=f/\f<nc.length,bW (λ_=>⟨_,aA.of EF,_,g 0 (by decide) (by decide),_,rfl,?_⟩) λ_=>⟨_,rfl,rfl,q0.1,by lia⟩,?_⟩
   ·refine⟨C,jz,fs,k9,hC,hA.m2,C,p,bC z ao sk sw nc,fp,rfl,My,_,rfl,.inl ⟨by lia,by lia⟩,_,rfl,rfl,?_,?_⟩
    ·exact Int.mul_nonneg q2.1 (by simp only[enc];lia)
    ·simp only[enc];have:xs.getD (Int.toNat 0) 0 % 2=0\/xs.getD (Int.toNat 0) 0 % 2=1:=by lia
     rcases this with e | e <;> rw[e] <;> lia
   rintro σ H5 ⟨f,rfl,rfl,Mz,f1'⟩;clear hD D0 D1 q0 q2 fM;wp_walk using iU;obtain⟨m0,Wy,m01,m02,m03⟩:∃m0:Int,(if (nc.length:Int) - f<2 - (if ch=true then 1 else 0) then(nc.length:Int) - f else 2 - (if ch=true then 1 else 0))=m0/\1<=m0/\m0<=2/\m0<=nc.length - f:=by
    refine⟨_,rfl,?_,?_,?_⟩ <;> (split <;> split <;> lia)
   have y1':=X.md (Int.toNat 1) (k:=m0) (by lia)
   have y3':=X.md (Int.toNat 3) (k:=3) (by decide)
   refine⟨_,aA.of EF,_,g 1 (by decide) (by decide),C,jz,fs,k9,hC,hA.m2,C,p,bC z ao sk sw nc,fp,rfl,My,_,rfl,_,rfl,?_⟩
   simp only[enc,Wy];refine⟨by lia,_,aA.of EF,_,g 3 (by decide) (by decide),_,rfl,?_⟩
   generalize xs.getD (Int.toNat 3) 0 % 3=d3 at y3' ⊢;generalize hsz:1+xs.getD (Int.toNat 1) 0 % m0=sz;have sz1:1<=sz:=by lia
   have sz2:sz<=2:=by lia
   have Wz:f+sz<=nc.length:=by lia
   clear hsz y1' Wy;refine⟨λσ H6=>∃(D:Addr) (bu:List Addr),σ = [some (.ref sc),some (.ref p),some (.ref t),some (.ref sp),some (.int most),some (.int cell),some (.bl ch),some (.int mn),some (.int g_),some (.ref l),some (.int (nu+1+d3)),some (.ref u),some (.int (i:Int)),some (.ref xa),some (.int f),some (.int sz),some (.ref D),y6,y7]/\aj H5 H6/\H5 D=none/\Zn H6 D bu (eW nc f sz),?_,?_⟩
   ·refine Ab sz (λD j ys aB H6=>∃(v:Option V) (bu:List Addr),aB = [v,some (.ref p),some (.int f)]/\ys=bu.map V.ref/\Zn H6 D bu ((nc.drop f.toNat).take j)/\aj H5 H6/\H5 D=none/\j<=2) (λQ q=>q) (by lia) (by lia) ?_ ?_ ?_ ?_
    ·intro D hD;exact⟨none,[],rfl,rfl,by rw[List.take_zero];exact Zn.start,aj.put hD,hD,by lia⟩
    ·rintro D j ys aB H6 ⟨v,bu,rfl,rfl,g2,g3,g4,g5⟩;exact⟨g2.l,fD (by rw[List.length_map,g2.n,List.length_take];lia)⟩
    ·rintro D j ys aB H6 N2 f9 hj ⟨v,bu,rfl,rfl,g2,g3,g4,g5⟩;walk_at "rdm";refine⟨C,jz,fs,g3 _ _ k9,hC,hA.m9,C,p,bC z ao sk sw nc,fp,_,rfl,My.same g3,by lia,by simp only[enc];lia,λct q0 eq ht=>⟨g2.l,f9 _ _ _ ⟨_,bu++[ct],rfl,by rw[List.map_append];rfl,?_,aj.put2 g3 g4,g4,by lia⟩⟩⟩
     have eq':nc[(f+(j:Int)).toNat]? = some q0:=eq;rw[Hu Mz eq'];exact g2.push ht
    ·rintro D ys aB H6 ⟨v,bu,rfl,rfl,g2,g3,g4,g5⟩;exact⟨D,bu,rfl,g3,g4,g2⟩
   ·rintro σ H6 ⟨D,bu,rfl,g3,g4,g2⟩;have cin:gg (bC z ao sk sw []) (eW nc f sz):=λq hq=>by
     have:=nk.c q (RC hq);refine⟨this.1,this.2.1,this.2.2.1,?_⟩;obtain⟨y,hy,e⟩:=oU (get_mem (wC (counts z) (show q.1.toNat<(counts z).length by lia)))
     have:=ok.zl.ok.r y hy;lia
    have MA:(eW nc f sz).length=sz.toNat:=RD Mz (by lia) Wz
    have WA:=Ep.trans g3;have hu6:=(s3.trans (pS.trans g3)) _ _ hu;have ku:=aL.of (K:=K) hu6;walk_at "rdm";refine⟨λσ H7=>∃(u2:Addr) (bV:Int×Int),σ = [some (.ref sc),some (.ref p),some (.ref t),some (.ref sp),some (.int most),some (.int cell),some (.bl ch),some (.int mn),some (.int g_),some (.ref l),some (.int (nu+1+d3)),some (.ref u2),some (.int (i:Int)),some (.ref xa),some (.int f),some (.int sz),some (.ref D),y6,y7]/\aj H6 H7/\H7 u2=some (.tup [.int bV.1,.int bV.2])/\0<=bV.1/\bV.1<(counts z).length/\1<=bV.2/\bV.2<=st.2+6000000000,⟨_,ku,_,rfl,_,ku,_,rfl,t,z,ao,sk,sw,za,bq,ca,sa,st.1,st.2,D,bu,eW nc f sz,rfl,gM.same WA,ok,u0,u1,g2,cin,by lia,λu2 H7 s7 nu2 uv=>?_⟩,?_⟩
    ·have eb:=AJ pk l2' (eW nc f sz) st cin;have ei:=iX (bC z ao sk sw []) (n:=((bC z ao sk sw []).rc.length:Int)) (eW nc f sz) st u0 u1 λq hq=>⟨(cin q hq).1,(cin q hq).2.1⟩;have xg:1<=(aW (bC z ao sk sw []) st (eW nc f sz)).2:=by
      have:=ad3 ok st cin (λe=>by rw[e] at MA;simp at MA;lia)
      lia
     exact⟨u2,aW (bC z ao sk sw []) st (eW nc f sz),rfl,s7,uv,ei.1,ei.2,xg,by rw[MA] at eb;lia⟩
    rintro σ H7 ⟨u2,bV,rfl,s7,uv,ei1,ei2,xg,eb⟩;have WB:=(s7 _ _ (g3 _ _ EF));have ku2:=aL.of (K:=K) uv;walk_at "rdm";have z6:=X.md (Int.toNat 6) (k:=2) (by decide)
    have z4:=X.md (Int.toNat 4) (k:=2) (by decide)
    refine⟨_,ku2,_,rfl,_,aA.of WB,_,g 6 (by decide) (by decide),_,rfl,_,rfl,λo3 no3=>?_⟩
    have uy:=aj.put (o:=.lst [V.aP,V.int (bV.2 - xs.getD (Int.toNat 6) 0 % 2)]) no3;have MB:upd H7 o3 (.lst [V.aP,V.int (bV.2 - xs.getD (Int.toNat 6) 0 % 2)]) o3=some (.lst [V.aP,V.int (bV.2 - xs.getD (Int.toNat 6) 0 % 2)]):=aD;generalize upd H7 o3 (.lst [V.aP,V.int (bV.2 - xs.getD (Int.toNat 6) 0 % 2)])=H8 at uy MB ⊢;have yG:=uy _ _ WB;obtain⟨la,WC,WD⟩:∃la:Option Int,dR [V.aP,V.int (bV.2 - xs.getD (Int.toNat 6) 0 % 2)] (xs.getD (Int.toNat 4) 0 % 2)=some (d7 la)/\∀x,la=some x->0<=x/\x<=10000000000000:=by
     have:xs.getD (Int.toNat 4) 0 % 2=0\/xs.getD (Int.toNat 4) 0 % 2=1:=by lia
     rcases this with e | e <;> rw[e]
     ·exact⟨none,rfl,λx hx=>by cases hx⟩
     ·refine⟨some (bV.2 - xs.getD (Int.toNat 6) 0 % 2),rfl,λx hx=>?_⟩;cases hx;constructor <;> lia
    have kp8:=((WA.trans s7).trans uy).fG kp1;refine⟨_,aA.of yG,_,g 4 (by decide) (by decide),_,rfl,_,aA.of MB,_,WC,λσ H9=>∃lb:Option Int,σ = [some (.ref sc),some (.ref p),some (.ref t),some (.ref sp),some (.int most),some (.int cell),some (.bl ch),some (.int mn),some (.int g_),some (.ref l),some (.int (nu+1+d3)),some (.ref u2),some (.int (i:Int)),some (.ref xa),some (.int f),some (.int sz),some (.ref D),some (d7 lb),y7]/\aj H8 H9/\∀x,lb=some x->0<=x/\x<=10000000000000,⟨_,aA.of yG,_,g 4 (by decide) (by decide),_,rfl,bW (λ_=>?_) λ_=>⟨la,rfl,aj.refl _,WD⟩⟩,?_⟩
    ·try walk_at "rdm"
     have v6:∀k:Int,0<k->k<=9->1<=g_*(1+xs.getD (Int.toNat 6) 0 % k)/\g_*(1+xs.getD (Int.toNat 6) 0 % k)<=2000000000*9:=λk hk hk9=>by
      have:=X.md (Int.toNat 6) (k:=k) hk;have h1:=Int.mul_le_mul ag5 (show 1<=1+xs.getD (Int.toNat 6) 0 % k by lia) (by decide) (by lia)
      have h2:=Int.mul_le_mul ag6 (show 1+xs.getD (Int.toNat 6) 0 % k<=9 by lia) (by lia) (by decide)
      exact⟨by lia,h2⟩
     have vk:=v6 (if ch=true then 9 else 4) (by split <;> decide) (by split <;> decide)
     have v5a:=Int.emod_nonneg (xs.getD (Int.toNat 5) 0) (show 1+g_*(1+xs.getD (Int.toNat 6) 0 % (if ch=true then 9 else 4))≠0 by lia)
     have v5b:=Int.emod_lt_of_pos (xs.getD (Int.toNat 5) 0) (show 0<1+g_*(1+xs.getD (Int.toNat 6) 0 % (if ch=true then 9 else 4)) by lia)
     refine⟨_,kp8,_,rfl,_,aA.of yG,_,g 5 (by decide) (by decide),_,aA.of yG,_,g 6 (by decide) (by decide),λo4 no4=>⟨_,aA.of aD,.int (if ch=true then 9 else 4),by cases ch <;> rfl,_,rfl,_,rfl,by split <;> decide,.inl ⟨by lia,by lia⟩,_,rfl,by lia,_,rfl,some _,rfl,aj.put no4,λx hx=>?_⟩⟩
     cases hx;constructor <;> lia
    rintro σ H9 ⟨lb,rfl,EG,lbb⟩;clear WC WD MB;have WE:=EG _ _ yG;have n9:0<=nu+1+d3/\nu+1+d3<=30:=by lia
    walk_at "rdm";refine Ab (nu+1+d3) (λD2 j ys aB HA=>∃(v:Option V) (js:List Int),ys=js.map V.int/\aB = [v,some (.ref xa)]/\HA D2=some (.lst ys)/\aj H9 HA/\H9 D2=none/\js.length<=j/\j<=30/\js.Pairwise (· < ·)/\∀x∈js,0<=x/\x<(j:Int)) (λQ q=>q) (by lia) (by lia) ?_ ?_ ?_ ?_
    ·intro D2 je;exact⟨none,[],rfl,rfl,aD,aj.put je,je,Nat.le_refl _,by lia,.nil,λ_ h=>nomatch h⟩
    ·rintro D2 j ys aB HA ⟨v,js,rfl,rfl,j1,j2,j3,j4,j5,j6,j7⟩;exact⟨j1,fD (by rw[List.length_map];lia)⟩
    ·rintro D2 j ys aB HA N2 f9 hj ⟨v,js,rfl,rfl,j1,j2,j3,j4,j5,j6,j7⟩;have WG:=j2 _ _ WE;walk_at "rdm";have yes:HA D2=some (.lst (js.map V.int))/\N2 (js.map V.int++[V.int (j:Int)]) [some (V.int (j:Int)),some (V.ref xa)] (upd HA D2 (.lst (js.map V.int++[V.int (j:Int)]))):=by
      refine⟨j1,f9 _ _ _ ⟨_,js++[(j:Int)],by rw[List.map_append];rfl,rfl,aD,aj.put2 j2 j3,j3,by simp;lia,by lia,?_,λx hx=>?_⟩⟩
      ·rw[List.pairwise_append];exact⟨j6,by simp,λa ha b' hb=>by rw[List.mem_singleton.mp hb];exact(j7 a ha).2⟩
      ·rcases List.mem_append.mp hx with hx | hx
       ·have:=j7 x hx;lia
       ·rw[List.mem_singleton.mp hx];lia
     have no:N2 (js.map V.int) [some (V.int (j:Int)),some (V.ref xa)] HA:=f9 _ _ _ ⟨_,js,rfl,rfl,j1,j2,j3,by lia,by lia,j6,λx hx=>by have:=j7 x hx;lia⟩
     exact⟨_,aA.of WG,_,g 7 (by decide) (by decide),_,rfl,by lia,by lia,bW (λ_=>⟨_,aA.of WG,_,g 8 (by decide) (by decide),_,rfl,bW (λ_=>yes) λ_=>no⟩) λ_=>no⟩
    ·rintro D2 ys aB HA ⟨v,js,rfl,rfl,j1,j2,j3,j4,j5,j6,j7⟩;refine⟨D2,rfl,_,.inl ⟨aA.of j1,λbt nbt=>?_⟩⟩;have WH:upd HA bt (.tup (js.map V.int)) bt=some (.tup (js.map V.int)):=aD;have yH:=j2.trans (aj.put (o:=.tup (js.map V.int)) nbt);generalize upd HA bt (.tup (js.map V.int))=HB at WH yH ⊢;have hxB:=yH _ _ WE;walk_at "rdm";have s5B:=g3.trans (s7.trans (uy.trans (EG.trans yH)));have WI:=s3.trans (pS.trans s5B);have WJ:=hg.same WI;have Dl:D≠l:=(bO ((s3.trans pS) _ _ hg.hl) g4).symm;have fin:∀(wr:Bool) (kt:Addr),HB kt=none->∃x,upd HB kt (.tup [V.int (nu+1+d3),V.int f,V.int sz,V.bl wr,V.ref bt,d7 lb,V.ref D]) l=some (.lst x)/\x.length<16777216/\
       N [some (V.ref sc),some (V.ref p),some (V.ref t),some (V.ref sp),some (V.int most),some (V.int cell),some (V.bl ch),some (V.int mn),some (V.int g_),some (V.ref l),some (V.int (nu+1+d3)),some (V.ref u2),some (V.int (i:Int)),some (V.ref xa),some (V.int f),some (V.int sz),some (V.ref D),some (d7 lb),some (V.ref bt)]
        (upd (upd HB kt (.tup [V.int (nu+1+d3),V.int f,V.int sz,V.bl wr,V.ref bt,d7 lb,V.ref D])) l (.lst (x++[V.ref kt]))):=by
      intro wr kt nkt;have sK:=aj.put (o:=.tup [V.int (nu+1+d3),V.int f,V.int sz,V.bl wr,V.ref bt,d7 lb,V.ref D]) nkt;have hK:fX (upd HB kt (.tup [V.int (nu+1+d3),V.int f,V.int sz,V.bl wr,V.ref bt,d7 lb,V.ref D])) kt ⟨nu+1+d3,f,sz,wr,js,lb,eW nc f sz⟩ bt D bu:=⟨aD,sK _ _ WH,g2.same ((s7.trans (uy.trans (EG.trans yH))).trans sK)⟩;have MC:=WJ.same sK;have MD:=((uy.trans (EG.trans yH)).trans sK) _ _ uv;have u2l:u2≠l:=λe=>by rw[e,MC.hl] at MD;cases MD
      have hnk:qH nc ⟨nu+1+d3,f,sz,wr,js,lb,eW nc f sz⟩:=⟨Mz,sz1,by dsimp only;lia,Wz,rfl,⟨j6,λx hx=>(j7 x hx).1,λx hx=>by have:=(j7 x hx).2;lia⟩,lbb⟩
      refine⟨_,MC.hl,by rw[List.length_map,hg.n,gn];lia,hN _ _ ⟨_,_,_,_,_,_,_,nu+1+d3,u2,bV,ts++[kt],ks++[_],rfl,aj.put2 (s2.trans (WI.trans sK)) nl,(aI u2l).trans MD,ei1,ei2,by lia,by lia,MC.snoc hK Dl,by simp[gn],by lia,by lia,λk hk=>?_,?_⟩⟩
      ·rcases List.mem_append.mp hk with hk | hk
       ·have:=gk k hk;exact⟨this.1,by have:=this.2;lia⟩
       ·rw[List.mem_singleton.mp hk];exact⟨hnk,Int.le_refl _⟩
      ·rw[List.pairwise_append];refine⟨gp,by simp,λk hk k' kZ=>?_⟩
       rw[List.mem_singleton.mp kZ];have:=(gk k hk).2;dsimp only;lia
     exact⟨⟨_,aA.of WJ.hl⟩,bW (λ_=>fin true) λ_=>⟨_,aA.of hxB,_,g 2 (by decide) (by decide),_,rfl,fin _⟩⟩
  ·rintro σ H2 ⟨y1,y2,y3,y4,y5,y6,y7,nu,u,st,ts,ks,rfl,s2,hu,u0,u1,t0,t1,hg,gn,g0,g1,gk,gp⟩;wp_walk using iU;have ag7:=s2 _ _ (sA _ _ cY);refine⟨λσ H5=>∃(l2:Addr) (q8:List Addr) (q_:List Kn),σ = [some (.ref sc),some (.ref p),some (.ref t),some (.ref sp),some (.int most),some (.int cell),some (.bl ch),some (.int mn),some (.int g_),some (.ref l2),some (.int nu),some (.ref u),y1,y2,y3,y4,y5,y6,y7]/\aj H' H5/\H' l2=none/\d9 H5 l2 q8 q_/\qI nc q_,bW (λ_=>⟨C,p,t,sp,z,ao,sk,sw,za,bq,ca,sa,nc,fp,r,b,_,rfl,hC,uw.same s2,nk,gM.same s2,ok,ag7,r0,r1,λl2 q8 q_ H3 s3 pQ hk nB=>⟨l2,q8,q_,rfl,s2.trans s3,s2.free pQ,hk,nB⟩⟩) λ_=>⟨l,ts,ks,rfl,s2,hg.nl,hg.tD,⟨λk hk=>(gk k hk).1,gp,by lia⟩⟩,?_⟩
   rintro σ H5 ⟨l2,q8,q_,rfl,s5,pQ,hk,nB⟩;walk_at "rdm";refine⟨λσ H6=>∃(l3:Addr) (yI:List Addr) (uz:List Kn),σ[9]? = some (some (.ref l3))/\aj H' H6/\H' l3=none/\d9 H6 l3 yI uz/\qI nc uz,bW (λ_=>⟨t,sp,l2,z,ao,sk,sw,za,bq,ca,sa,r,b,q8,q_,rfl,gM.same s5,ok,s5 _ _ (sA _ _ cY),r0,r1,b0,by lia,hk,λk kZ=>(nB.ok k kZ).cells nk ok,(Nat.le_trans nB.n7 (by decide)),λl3 yI uz H6 s6 ux ME rt=>⟨l3,yI,uz,rfl,s5.trans s6,s5.free ux,ME,rt.ok nB⟩⟩) λ_=>⟨l2,q8,q_,rfl,s5,pQ,hk,nB⟩,?_⟩
   rintro σ H6 ⟨l3,yI,uz,e9,s6,ux,ME,ok3⟩;simp only[_L.Later,pD,mI,mC,xw,xx,qT,A3,tO,nM,nN,tQ,HU,xy,HV,AX,wW,r9,AG,AH,Ag,nv,Ah,Af,vO,sN,oN,vK,zL,zA,w5,Hy,vC,vB,vA,vF,vE,and_assoc,yX,HO.ins.injEq,zY,sI,eT,String.reduceBEq,List.lookup_cons,List.lookup_nil,aD,HO.lst.injEq,HO.dT.injEq,HO.tup.injEq,String.reduceEq,false_and,or_false,false_or,lW,wg,we,vZ,vW,vX,vY,wj,Bool.not_eq_true',decide_eq_false_iff_not,Classical.not_not,uY,if_false_left,if_false_right,wz,uR,iB,List.length_map,List.getElem?_nil,uT,p_,lN,rM,p8,p9,uZ,rH,tC,oG,gF,rI,ve,rU,vj,tB,uX,uW,zj,uU,rY,vo,rS,rT,uS,uM,ow,uN,uO,uP,uQ,vq,vp,vL,oO,vM,vN,vP,vQ,r_,qp,vg,vh,HZ,H_,Ia,Ib,Ic,Ie,Ig,Ih,qj,vf,zx,rR,vn,zC,vt,_L.start,GB,GC,HF,List.map_cons,List.map_nil,List.cons_append,List.nil_append,List.append_nil,List.length_cons,List.length_nil,List.getElem?_cons_zero,List.getElem?_cons_succ,Option.some.injEq,exists_eq_left,exists_eq_left',exists_and_left,exists_eq,V.int.injEq,V.ref.injEq,V.bl.injEq,V.ty.injEq,V.str.injEq,List.cons.injEq,and_true,true_and,List.set_cons_zero,List.set_cons_succ,decide_eq_true_eq,Nat.reduceSub,Nat.reduceAdd,List.replicate_succ,List.replicate_zero,List.replicate,Int.reduceLT,Int.reduceLE,Int.reducePow,Int.reduceToNat,Int.reduceNeg,Nat.reduceLT,Nat.reduceLeDiff,Nat.reducePow,Int.reduceMul,Int.reduceAdd,Int.reduceSub,and_self,or_true,true_or,gt_iff_lt,ge_iff_le,if_true,if_false,Bool.false_eq_true,reduceIte,Nat.sub_self,Nat.sub_zero];exact⟨_,e9,q l3 yI uz H6 (sA.trans s6) (sA.free ux) ME ok3⟩
theorem WK(T:Tx K mg A)(aG:bx mg base A.bf A.aV):aX P w K mg base br 5 A.BK A.BL ["plate", "ring", "beat", "cells"] (ab4 K [A.bw,A.a_]):=by
 have ag8:=agS (P:=P) (w:=w) (base:=base) T aG;refine T.DI.ok SK (λvs H Q E h=>?_) (λaO Ar outer s H vs Q E hr h=>?_)
 ·obtain⟨C,p,P,fp,r,b,ca,bu,cz,rfl,_⟩:=h
  rfl
 ·obtain⟨C,p,P,fp,r,b,ca,bu,cz,rfl,hC,hP,ok,r0,r1,hz,hq,hlen,q⟩:=h;refine⟨_,(aF (aQ (i:=4) SK.nd rfl (Or.inl rfl) (aY ag8 (hr.mono (by first | decide | lia)) rfl T.Tp T.J_.kp T.To .nil aN (ah (aa 0) (ah (aa 1) (ah (aa 2) (ah (aa 3) au))))))
   (aF (c9 (mO (FG (aa 4) (λ_=>rfl))) (aK (bF (cE (ah (aa 1) (ah (aa 2) au))))) bT)
   (aK (bF (cE (ah (aH vD (aH bL (aa 4) (qi qk ak) (λ_ _=>rfl)) ak (λ_ _=>rfl)) (ah (aH vD (aH bL (aa 4) (qi qk ak) (λ_ _=>rfl)) ak (λ_ _=>rfl)) au))))))),?_⟩
  walk_at "rdm";refine⟨C,p,P,fp,r,b,ca,bu,cz,rfl,hC,hP,ok,r0,r1,hz,hq,hlen,λl ts H1 s1 n1 Er h1=>?_⟩;walk_at "rdm";have hn:=h1.n;rw[kN] at hn;refine⟨_,.inl ⟨_,aA.of h1.l,rfl⟩,bW (λe=>λt nt=>?_) λe=>?_⟩
  ·have ez:cz = []:=by
    have:cz.length=0:=by
     have e1:ts = []:=by simpa using e
     rw[e1] at hn;simpa using hn.symm
    exact List.eq_nil_of_length_eq_zero this
   subst ez;exact q t _ (aj.put2 s1 (s1.free nt)) (s1.free nt) aD
  ·have ez:cz≠[]:=by
    rintro rfl;have e1:ts = []:=List.eq_nil_of_length_eq_zero hn;rw[e1] at e;exact e rfl
   have hp:0<cz.length:=List.length_pos_iff.mpr ez;obtain⟨t,et,ht⟩:=h1.at (i:=cz.length - 1) (by rw[kN];lia)
   obtain⟨a,c,ew⟩:=ab1 P (r,b) ez;rw[ew] at ht;have ei:dR (ts.map V.ref) (-1)=some (.ref t):=by
    unfold dR;rw[abV (by rw[List.length_map];lia),List.length_map,hn]
    exact et
   refine⟨_,aA.of h1.l,_,ei,?_⟩;walk_at "rdm";refine⟨_,aL.of ht,_,rfl,_,aA.of h1.l,_,ei,?_⟩;walk_at "rdm";refine⟨_,aL.of ht,_,rfl,λt2 nt=>?_⟩;exact q t2 _ (aj.put2 s1 (s1.free nt)) (s1.free nt) aD
theorem ag9(T:Tx K mg A)(aG:bx mg base A.bf A.aV):aX P w K mg base br 5 A.Df A.Dg ["_law_one", "_law_cell"] (adQ K A.bM):=by
 have MF:=Wm (P:=P) (w:=w) (base:=base) T aG;have ag_:=agQ (P:=P) (w:=w) (base:=base) T aG;refine T.K9.ok SR (λvs H Q E h=>?_) (λaO Ar outer s H vs Q E hr h=>?_)
 ·obtain⟨t,k,b,cl,bu,c,nc,rfl,_⟩:=h
  rfl
 ·obtain⟨t,k,b,cl,bu,c,nc,rfl,hk,ok,hn,q⟩:=h;refine⟨_,(aF (c9 (jh (aH bH (aa 0) ak (λ_ _=>rfl))) (aF (tF (i:=2) SR.nd rfl (Or.inl rfl) (N:=["_law_j", "_law_cell"]) (nt:=1) (fv:=[1]) (cD.of rfl rfl (by rfl) (by rfl) (by repeat (first | exact trivial | refine⟨rfl,?_⟩)) (by rfl) (by rfl) (by rfl) (by decide) (by decide +kernel)) rfl (jB rfl T.eY (ah (aH bH (aa 0) ak (λ_ _=>rfl)) au)) (λC s H fp=>(bB (i:=0) (show List.Nodup (["_law_j", "_law_cell"]:List Str) by decide +kernel) rfl (Or.inl rfl))) (λC s H fp=>iT) (λC s H fp=>(aE fj (aE dj (aa 1) (aE jV ak (aa 0))) (aE dj (aE oH ak ak) ak))))
   (aK (bF (aY ag_ (hr.mono (by first | decide | lia)) rfl T.S3 T.JW.kp T.S2 .nil aN (ah (aH bH (aa 0) ak (λ_ _=>rfl)) (ah (aa 2) (ah (aE fj (aa 1) (aE oH ak ak)) (ah (aE fj (aa 1) ak) (ah (aH bH (aa 0) ak (λ_ _=>rfl)) (ah (aH bH (aa 0) ak (λ_ _=>rfl)) (ah (gR jj (aE fj (aa 1) ak) ak (bI _)) au))))))))))) bT)
   (aK (bF (aY MF (hr.mono (by first | decide | lia)) rfl T.JV T.DG.kp T.S0 .nil aN (ah (aH bH (aa 0) ak (λ_ _=>rfl)) (ah (aH bH (aa 0) ak (λ_ _=>rfl)) (ah (aE fj (aa 1) (aE oH ak ak)) (ah (aE fj (aa 1) ak) (ah (aH bH (aa 0) ak (λ_ _=>rfl)) (ah (aH bH (aa 0) ak (λ_ _=>rfl)) au)))))))))),?_⟩
  have k1:=aL.of (K:=K) hk.o;walk_at "rdm";have a0:=Int.emod_nonneg c (show (1000000000000:Int)≠0 by decide)
  have a1:=Int.emod_lt_of_pos c (show (0:Int)<1000000000000 by decide)
  have b0:=Int.emod_nonneg c (show (21:Int)≠0 by decide)
  have b1:=Int.emod_lt_of_pos c (show (0:Int)<21 by decide)
  have o1:=ok.m0;have o2:=ok.m1;have o3:=ok.fit;have hB:Aj k.f k.m (c % 1000000000000) (c % 21) k.eV:=⟨ok.f0,by lia,ok.m0,ok.m1,a0,by lia,b0,by lia,ok.l⟩
  refine⟨_,k1,_,rfl,k.w,rfl,bW (λhw=>?_) λhw=>⟨_,k1,_,rfl,_,k1,_,rfl,by decide,_,k1,_,rfl,_,k1,_,rfl,k.f,k.m,_,_,k.eV,_,k.bh,rfl,hB,.inr ⟨b,rfl,.inr hk.b⟩,ok.r,λp mk bb dx H' s np ha=>q _ p mk bb dx H' ⟨rfl,rfl,rfl,?_,rfl⟩ s np ha⟩⟩
  ·refine Ab k.m (λD i ys aB H2=>∃(u:Option V) (ns:List Int),ys=ns.map V.int/\ns.length=i/\(∀x∈ns,0<=x/\x<=1000000000)/\aB = [u,some (.int c)]/\H2 D=some (.lst ys)/\aj H H2/\H D=none/\i<=16) (λQ q=>?_) (by lia) (by lia) ?_ ?_ ?_ ?_
   ·walk_at "rdm";exact⟨_,k1,_,rfl,q⟩
   ·intro D hD;exact⟨none,[],rfl,rfl,(λ_ h=>nomatch h),rfl,aD,aj.put hD,hD,by lia⟩
   ·rintro D i ys aB H2 ⟨u,ns,rfl,e0,eb,rfl,e1,e2,e3,e4⟩;exact⟨e1,fD (by rw[List.length_map];lia)⟩
   ·rintro D i ys aB H2 N hN hi ⟨u,ns,rfl,e0,eb,rfl,e1,e2,e3,e4⟩;walk_at "rdm";have m0:=Int.emod_nonneg (c+7*(i:Int)) (show (1000000001:Int)≠0 by decide)
    have m1:=Int.emod_lt_of_pos (c+7*(i:Int)) (show (0:Int)<1000000001 by decide)
    refine⟨by decide,e1,hN _ _ _ ⟨_,ns++[(c+7*(i:Int)) % 1000000001],by rw[List.map_append];rfl,by simp[e0],λx hx=>?_,rfl,aD,aj.put2 e2 e3,e3,by lia⟩⟩
    rcases List.mem_append.mp hx with hx | hx
    ·exact eb x hx
    ·rw[List.mem_singleton.mp hx];lia
   ·rintro D ys aB H2 ⟨u,ns,rfl,e0,eb,rfl,e1,e2,e3,e4⟩;have k2:=e2.fG k1;have el:(ns.length:Int)=k.m:=by lia
    refine⟨_,k2,_,rfl,by decide,_,k2,_,rfl,_,k2,_,rfl,k.f,_,_,D,ns,k.eV,_,k.bh,_,rfl,aA.of e1,eb,by rw[el];exact hB,.inr ⟨b,rfl,.inr (e2 _ _ hk.b)⟩,ok.r,λp mk bb dx H' s np ha=>q _ p mk bb dx H' ⟨rfl,el,rfl,by rw[if_pos hw],rfl⟩ (e2.trans s) (e2.free np) ha⟩
  ·rw[if_neg hw]
theorem aha(T:Tx K mg A)(aG:bx mg base A.bf A.aV):aX P w K mg base br 6 A.B4 A.B5 ["plate", "ring", "beat", "dues"] (adT K [A.bw,A.a_] A.bM A.bX):=by
 have MG:=WK (P:=P) (w:=w) (base:=base) T aG;have ahb:=age (P:=P) (w:=w) (base:=base) T aG;refine T.Kr.ok SN (λvs H Q E h=>?_) (λaO Ar outer s H vs Q E hr h=>?_)
 ·obtain⟨C,p,dl,P,fp,r,b,ps,ds,rfl,_⟩:=h
  rfl
 ·obtain⟨C,p,dl,P,fp,r,b,ps,ds,rfl,hC,hP,ok,r0,r1,hd,dn,dc,q⟩:=h;refine⟨_,(aF (aQ (i:=4) SN.nd rfl (Or.inl rfl) (aE dz (aa 2) (bR (Gv rfl) rfl T.uq boot_sum (ah (gm (N:=["due", "plate"]) (nt:=1) (fv:=[0]) (cD.of rfl rfl (by rfl) (by rfl) (by repeat (first | exact trivial | refine⟨rfl,?_⟩)) (by rfl) (by rfl) (by rfl) (by decide) (by decide +kernel)) rfl (c_ (aa 3)) (λC s H fp=>(bB (i:=0) (show List.Nodup (["due", "plate"]:List Str) by decide +kernel) rfl (Or.inl rfl))) (λC s H fp=>iT) (λC s H fp=>(aY ahb (hr.mono (by first | decide | lia)) rfl T.TM T.Kq.kp T.TL .nil aN (ah (aa 1) (ah (aa 0) au))))) au))))
   (aK (bF (bR (adB rfl) rfl T.Ek boot_max (ah (aE su (dG (ah (aa 4) au)) (gm (N:=["due", "plate", "ring", "beat"]) (nt:=1) (fv:=[0,1,2]) (cD.of rfl rfl (by rfl) (by rfl) (by repeat (first | exact trivial | refine⟨rfl,?_⟩)) (by rfl) (by rfl) (by rfl) (by decide) (by decide +kernel)) rfl (c_ (aa 3)) (λC s H fp=>(bB (i:=0) (show List.Nodup (["due", "plate", "ring", "beat"]:List Str) by decide +kernel) rfl (Or.inl rfl))) (λC s H fp=>iT) (λC s H fp=>(aH (abz (K:=K) rfl) (aY MG (hr.mono (by first | decide | lia)) rfl T.Kc T.DI.kp T.Ka .nil aN (ah (aa 1) (ah (aa 2) (ah (aa 3) (ah (HY (K:=K) rfl (aa 0) rfl) au))))) ak (λ_ _=>rfl))))) au))))),?_⟩
  walk_at "rdt";have iK:=hd.n;refine gU dl (ps.map V.ref) (λD i ys aB H2=>∃(u:Option V),ys=(((ds.take i).map (·.c)).map (eL P)).map V.int/\aB = [u,some (.ref p)]/\H2 D=some (.lst ys)/\aj H H2/\H D=none) (λQ q=>q) (aA.of hd.l) ?_ ?_ ?_ ?_
  ·intro D hD;exact⟨none,rfl,rfl,aD,aj.put hD,hD⟩
  ·rintro D i ys aB H2 ⟨u,rfl,rfl,e1,e2,e3⟩;exact⟨e1,fD (by simp only[List.length_map,List.length_take];lia),aA.of (e2 _ _ hd.l)⟩
  ·rintro D i x ys aB H2 N hN hx ⟨u,rfl,rfl,e1,e2,e3⟩;obtain⟨dp,jc,rfl⟩:=dM hx;have hi:i<ds.length:=by rw[← iK];exact cN jc
   obtain⟨dx,ap,l,ts,m,b',bU,hD⟩:=(hd.same e2).t i dp ds[i] jc (List.getElem?_eq_getElem hi);obtain⟨c1,c2⟩:=dc ds[i] (List.getElem_mem hi);walk_at "rdm";refine⟨C,p,dp,P,fp,ds[i],dx,ap,l,ts,m,b',bU,rfl,hC,hP.same e2,ok,hD,c1,c2,λH3 s3=>⟨s3 _ _ e1,hN _ _ _ ⟨_,?_,rfl,aD,aj.put2 (e2.trans s3) e3,e3⟩⟩⟩;rw[take_succ_get (List.getElem?_eq_getElem hi),List.map_append,List.map_append,List.map_append];rfl
  ·rintro D ys aB H2 ⟨u,rfl,rfl,e1,e2,e3⟩;rw[List.length_map,iK,List.take_length] at e1
   try walk_at "rdm"
   refine⟨_,aA.of e1,λo1 mG=>?_⟩;have so:=aj.put (o:=.lst [V.int (b+((ds.map (·.c)).map (eL P)).sum)]) mG;have rm:upd H2 o1 (.lst [V.int (b+((ds.map (·.c)).map (eL P)).sum)]) o1=some (.lst [V.int (b+((ds.map (·.c)).map (eL P)).sum)]):=aD;generalize upd H2 o1 (.lst [V.int (b+((ds.map (·.c)).map (eL P)).sum)])=H3 at so rm ⊢;have s3:=e2.trans so;refine gU dl (ps.map V.ref) (λD i ys aB H4=>∃(u:Option V),ys=(((ds.take i).map (·.c)).map λc=>(aW P (r,b) c).2).map V.int/\aB = [u,some (.ref p),some (.int r),some (.int b)]/\H4 D=some (.lst ys)/\aj H3 H4/\H3 D=none) (λQ q=>q) (aA.of (s3 _ _ hd.l)) ?_ ?_ ?_ ?_
   ·intro D hD;exact⟨none,rfl,rfl,aD,aj.put hD,hD⟩
   ·rintro D i ys aB H4 ⟨u,rfl,rfl,g1,g2,g3⟩;exact⟨g1,fD (by simp only[List.length_map,List.length_take];lia),aA.of (g2 _ _ (s3 _ _ hd.l))⟩
   ·rintro D i x ys aB H4 N hN hx ⟨u,rfl,rfl,g1,g2,g3⟩;obtain⟨dp,jc,rfl⟩:=dM hx;have hi:i<ds.length:=by rw[← iK];exact cN jc
    obtain⟨dx,ap,l,ts,m,b',bU,hD⟩:=((hd.same s3).same g2).t i dp ds[i] jc (List.getElem?_eq_getElem hi);obtain⟨c1,c2⟩:=dc ds[i] (List.getElem_mem hi);have dP:=hD.o;unfold nH at dP;wp_walk using T,dP;refine⟨C,p,P,fp,r,b,l,ts,ds[i].c,rfl,hC,(hP.same s3).same g2,ok,r0,r1,hD.c,c1,c2,λt H5 s5 nt ht=>⟨t,rfl,_,aL.of ht,_,rfl,s5 _ _ g1,hN _ _ _ ⟨_,?_,rfl,aD,aj.put2 (g2.trans s5) g3,g3⟩⟩⟩;rw[take_succ_get (List.getElem?_eq_getElem hi),List.map_append,List.map_append,List.map_append];rfl
   ·rintro D ys aB H4 ⟨u,rfl,rfl,g1,g2,g3⟩;rw[List.length_map,iK,List.take_length] at g1;refine⟨D,rfl,_,g2 _ _ rm,_,g1,by simp only[List.length_map,List.length_cons,List.length_nil];lia,λl nl=>⟨(b+((ds.map (·.c)).map (eL P)).sum)::(ds.map (·.c)).map (λc=>(aW P (r,b) c).2),aA.of aD,by simp,λM hM WL=>?_⟩⟩
    have eb:pB P r b (ds.map (·.c))=M:=adU (f:=λc=>(aW P (r,b) c).2) (by
      rcases List.mem_cons.mp hM with h | h
      ·exact .inl h
      ·exact .inr h) (WL _ List.mem_cons_self) λy hy=>WL y (List.mem_cons_of_mem _ hy)
    rw[← eb];exact q _ ((s3.trans g2).trans (aj.put nl))
theorem ahc(T:Tx K mg A)(aG:bx mg base A.bf A.aV):aX P w K mg base br 6 A.C2 A.C3 ["_law_spec_here", "_law_cell"] (adM K [A.bw,A.a_] A.aV (nC fZ) (nF "nearest_rings")):=by
 have Mq:=V7 (P:=P) (w:=w) (base:=base) T aG;have ahd:=agV (P:=P) (w:=w) (base:=base) T aG;have yi:=LO (P:=P) (w:=w) (base:=base) T aG;refine T.K4.ok tU (λvs H Q E h=>?_) (λaO Ar outer s H vs Q E hr h=>?_)
 ·obtain⟨t,z,ao,sk,sw,za,bq,ca,sa,c,rfl,_⟩:=h
  rfl
 ·obtain⟨t,z,ao,sk,sw,za,bq,ca,sa,c,rfl,hS,ok,T0,q⟩:=h;have hu:=mY hr;refine⟨_,(aF (aQ (i:=2) tU.nd rfl (Or.inl rfl) (aY yi (hr.mono (by first | decide | lia)) rfl T.DQ T.yc.kp T.DP .nil aN (ah (aa 1) (ah ak au))))
   (aF (c9 (cW iQ (aE cB (aH bL (aa 2) ak (λ_ _=>rfl)) ak) ak (bI _)) (aK (bF (rW T.Vr Mq (hr.mono (by first | decide | lia)) rfl T.LG T.KL .nil aN (ah (jm vJ rfl T.nR boot_list (ah (aH bH (aa 0) ak (λ_ _=>rfl)) au)) (ah (aH bH (aa 0) ak (λ_ _=>rfl)) (ah (aH bH (aa 0) ak (λ_ _=>rfl)) (ah (jm vJ rfl T.nR boot_list (ah (aH bH (aa 0) ak (λ_ _=>rfl)) au)) au))))))) bT)
   (aF (aQ (i:=3) tU.nd rfl (Or.inl rfl) (aE cB (aH bL (aa 2) ak (λ_ _=>rfl)) (bR (Gw rfl) rfl T.nT boot_min (ah (aH bH (aa 0) ak (λ_ _=>rfl)) au))))
   (aF (aQ (i:=4) tU.nd rfl (Or.inl rfl) Gh)
   (aF (cQ PassesOwn.never rfl (jB rfl T.eY (ah (bR (FI rfl) rfl T.nT boot_min (ah (aE cB (aH bL (aa 2) ak (λ_ _=>rfl)) ak) (ah (aE jV (aa 3) (bR vI rfl T.dm boot_len (ah (aH bH (aa 0) ak (λ_ _=>rfl)) au))) au))) au)) (bB (i:=5) tU.nd rfl (Or.inl rfl))
   (aF (aQ (i:=6) tU.nd rfl (Or.inl rfl) (aE cB (aH bL (aa 2) (aE dj ak (aa 5)) (λ_ _=>rfl)) (bR vI rfl T.dm boot_len (ah (aH bH (aa 0) ak (λ_ _=>rfl)) au))))
   (aK (v_ hu (aa 4) (cE (ah (aa 6) (ah (aE cB (aH bL (aa 2) (aE dj ak (aa 5)) (λ_ _=>rfl)) (aH mW (aH bH (aa 0) ak (λ_ _=>rfl)) (aa 6) (λ_ _=>rfl))) au))) iL rfl))))
   (aK (bF (rW T.Vs ahd (hr.mono (by first | decide | lia)) rfl T.Vt T.UY .nil aN (ah (jm vJ rfl T.nR boot_list (ah (aH bH (aa 0) ak (λ_ _=>rfl)) au)) (ah (aH bH (aa 0) ak (λ_ _=>rfl)) (ah (aH bH (aa 0) ak (λ_ _=>rfl)) (ah (jm vJ rfl T.nR boot_list (ah (aH bH (aa 0) ak (λ_ _=>rfl)) au)) (ah (aa 3) (ah (jm (adk rfl) rfl T.nR boot_list (ah (aa 4) au)) au)))))))))))))),?_⟩
  walk_at "rdm";refine⟨c,16,rfl,by decide,by decide,λxa xs H1 s1 n1 hx X=>?_⟩
  have X:nG xs 16:=X;have xl:=X.n;have g:∀k:Int,0<=k->k<16->dR (xs.map V.int) k=some (.int (xs.getD k.toNat 0)):=λk h0 h1=>fF h0 (by lia)
  have gM:=hS.same s1;have T1:=T0.same s1;have zl:=ok.zl;have cl:=oR z λp hp=>(zl.ok.r p hp).1;have GN:=zl.sm;have c2:=zl.ok.s2;have cm:∀c∈counts z,1<=c/\c<=60:=λc hc=>by
   obtain⟨y,hy,rfl⟩:=oU hc;have:=zl.ok.r y hy;lia
  have k1:=aL.of (K:=K) gM.o;walk_at "rdm";refine⟨_,aA.of hx,_,g 0 (by decide) (by decide),_,rfl,bW (λh0=>?_) λh0=>?_⟩
  ·refine⟨_,k1,_,rfl,za,rfl,_,.inl gM.zn.sq,λzc yJ=>?_⟩;have z2:=aj.put (o:=.lst (bq.map V.ref)) yJ;refine⟨_,z2.fG k1,_,rfl,_,z2.fG k1,_,rfl,_,z2.fG k1,_,rfl,sa,rfl,_,.inl (aA.of (z2 _ _ gM.s)),λsc MH p dx np iZ nd=>?_⟩;clear z2;have z2:=aj.put (o:=.lst (bq.map V.ref)) yJ;have z3:=aj.put (o:=.lst (sw.map V.int)) MH;have rq:=z2.trans z3;have MI:Zn (upd (upd H1 zc (.lst (bq.map V.ref))) sc (.lst (sw.map V.int))) zc bq z:=⟨z3 _ _ aD,gM.zn.n,(gM.zn.same rq).t⟩;have gv:upd (upd H1 zc (.lst (bq.map V.ref))) sc (.lst (sw.map V.int)) sc=some (.lst (sw.map V.int)):=aD;generalize upd (upd H1 zc (.lst (bq.map V.ref))) sc (.lst (sw.map V.int))=H3 at *
   have rz:=aj.put (o:=.own p) iZ;have eZ:upd H3 dx (.own p) p=none:=by rw[aI (Ne.symm nd)];exact np
   have gw:=rz.trans (aj.put (o:=.ins A.bw dx []) eZ);refine⟨A.bw,p,dx,zc,sc,bq,z,ao,sk,sw,rfl,T.afL,aD,MI.same gw,zl.ok,ok.l1,ok.l2,ok.k0,ok.k1,ok.l3,aA.of (gw _ _ gv),ok.so,λH5 pR b1 b2 b3 b4 tss sb nf hp5 hA=>⟨rfl,?_⟩⟩;exact q A.bw p _ _ H5 (λb o e _=>sb _ _ (gw _ _ (rq _ _ (s1 _ _ e))) (bO (rq _ _ (s1 _ _ e)) np)) (by simp) ⟨pR,b1,b2,b3,b4,tss,_,rfl,hA⟩ (adL (by lia) (by lia) λc hc=>⟨by have:=cm c hc;lia,(cm c hc).2⟩)
  ·refine⟨_,aA.of hx,_,g 1 (by decide) (by decide),_,k1,_,rfl,ca,rfl,_,aA.of gM.c,by lia,λM hM Em=>⟨_,rfl,?_⟩⟩
   have hM1:=cm M hM;have p0:=Int.emod_nonneg (xs.getD (Int.toNat 1) 0) (show M≠0 by lia)
   have p1:∀c∈counts z,xs.getD (Int.toNat 1) 0 % M<c:=λc hc=>Int.lt_of_lt_of_le (Int.emod_lt_of_pos _ (by lia)) (Em c hc)
   refine⟨by lia,λd nd=>?_⟩
   generalize xs.getD (Int.toNat 1) 0 % M=sp at p0 p1 ⊢;have pM:=p1 M hM;have gD:∀i:Nat,i<(counts z).length->(counts z).getD i 0∈counts z:=λi hi=>by
    rw[show (counts z).getD i 0=(counts z)[i] by simp[hi]];exact List.getElem_mem hi
   have y2:=X.md (Int.toNat 2) (k:=7) (by decide)
   have q0:0<=sp*((counts z).length:Int):=Int.mul_nonneg p0 (by lia)
   have q1:sp*((counts z).length:Int)<=60*15:=Int.mul_le_mul (by lia) (by lia) (by lia) (by decide)
   obtain⟨M',eM,M6,Ms⟩:∃M':Nat,(if sp*((counts z).length:Int)<xs.getD (Int.toNat 2) 0 % 7 then sp*((counts z).length:Int) else xs.getD (Int.toNat 2) 0 % 7)=(M':Int)/\M'<=6/\(M':Int)<=sp*((counts z).length:Int) :=
    ⟨(if sp*((counts z).length:Int)<xs.getD (Int.toNat 2) 0 % 7 then sp*((counts z).length:Int) else xs.getD (Int.toNat 2) 0 % 7).toNat,by split <;> lia,by split <;> lia,by split <;> lia⟩
   have sd:=aj.put (o:=.dT []) nd;refine z8 M' (λi σ H'=>∃x y bz,σ = [some (.ref t),some (.int c),some (.ref xa),some (.int sp),some (.ref d),x,y]/\aj H1 H'/\H' d=some (.dT (cG bz))/\bz.Nodup/\(∀q∈bz,0<=q.1/\q.1<(counts z).length/\0<=q.2/\q.2<(counts z).getD q.1.toNat 0)/\bz.length<=i) (λQ q=>?_) (by lia) ⟨none,none,[],rfl,sd,aD,List.nodup_nil,(λ_ h=>nomatch h),Nat.le_refl _⟩ ?_ ?_
   ·have f_:=sd _ _ hx;walk_at "rdm";refine⟨_,aA.of f_,_,g 2 (by decide) (by decide),_,rfl,_,sd.fG k1,_,rfl,ca,rfl,_,.inl (aA.of (sd _ _ gM.c)),.inl ⟨by lia,by lia⟩,?_⟩
    rw[List.length_map,eM];exact q
   ·rintro i σ H' N hN hi ⟨x,y,bz,rfl,hs,hd,nb,EH,bl⟩;have f_:=hs _ _ hx;have r0:=Int.emod_nonneg (xs.getD (3+(i:Int)).toNat 0) (show ((counts z).length:Int)≠0 by lia)
    have r1:=Int.emod_lt_of_pos (xs.getD (3+(i:Int)).toNat 0) (show 0<((counts z).length:Int) by lia)
    walk_at "rdm";refine⟨_,aA.of f_,_,g _ (by lia) (by lia),_,hs.fG k1,_,rfl,ca,rfl,_,.inl (aA.of (hs _ _ gM.c)),?_⟩
    rw[List.length_map]
    try walk_at "rdm"
    generalize xs.getD (3+(i:Int)).toNat 0 % ((counts z).length:Int)=r at r0 r1 ⊢;have hcr:=cm _ (gD r.toNat (by lia))
    have c0:=Int.emod_nonneg (xs.getD (9+(i:Int)).toNat 0) (show (counts z).getD r.toNat 0≠0 by lia)
    have c1:=Int.emod_lt_of_pos (xs.getD (9+(i:Int)).toNat 0) (show 0<(counts z).getD r.toNat 0 by lia)
    refine⟨by lia,_,aA.of f_,_,g _ (by lia) (by lia),_,hs.fG k1,_,rfl,ca,rfl,_,aA.of (hs _ _ gM.c),_,fF r0 r1,_,rfl,_,rfl,by lia,λp np=>?_⟩
    generalize xs.getD (9+(i:Int)).toNat 0 % (counts z).getD r.toNat 0=c' at c0 c1 ⊢;have MJ:=aj.put (o:=.tup [V.int r,V.int c']) np;refine⟨_,jJ.t (k:=kT (r,c')) (MJ _ _ hd) aD (by rw[lW,cG,List.length_map];lia),hN _ _ ?_⟩
    by_cases hm:(r,c')∈bz
    ·rw[ady _ hm];exact⟨_,_,bz,rfl,aj.put2 (hs.trans MJ) nd,aD,nb,EH,by lia⟩
    ·rw[Ri _ hm];refine⟨_,_,bz++[(r,c')],rfl,aj.put2 (hs.trans MJ) nd,aD,?_,?_,by simp;lia⟩
     ·rw[List.nodup_append];exact⟨nb,by simp,λx hx y hy e=>hm (by rw[List.mem_singleton.mp hy] at e;rw[← e];exact hx)⟩
     ·intro x hx;rcases List.mem_append.mp hx with h | h
      ·exact EH x h
      ·rw[List.mem_singleton.mp h];exact⟨r0,r1,c0,c1⟩
   ·rintro σ H' ⟨x,y,bz,rfl,hs,hd,nb,EH,bl⟩;walk_at "rdm";have k2:=hs.fG k1;have j_:=gM.same hs;refine⟨_,k2,_,rfl,za,rfl,_,.inl j_.zn.sq,λzc yJ=>?_⟩;have z2:=aj.put (o:=.lst (bq.map V.ref)) yJ;refine⟨_,z2.fG k2,_,rfl,_,z2.fG k2,_,rfl,_,z2.fG k2,_,rfl,sa,rfl,_,.inl (aA.of (z2 _ _ j_.s)),λsc MH=>?_⟩;clear z2;have z2:=aj.put (o:=.lst (bq.map V.ref)) yJ;have z3:=aj.put (o:=.lst (sw.map V.int)) MH;have rq:=z2.trans z3;have MI:Zn (upd (upd H' zc (.lst (bq.map V.ref))) sc (.lst (sw.map V.int))) zc bq z:=⟨z3 _ _ aD,j_.zn.n,(j_.zn.same rq).t⟩;have gv:upd (upd H' zc (.lst (bq.map V.ref))) sc (.lst (sw.map V.int)) sc=some (.lst (sw.map V.int)):=aD;generalize upd (upd H' zc (.lst (bq.map V.ref))) sc (.lst (sw.map V.int))=H3 at *
    refine⟨_,rq _ _ hd,λWM iW WN ka p dx np iZ ndp=>?_⟩;have ur:=ka.zn WN;have MK:=aj.put (o:=.lst (iW.map V.ref)) WN;generalize upd H3 WM (.lst (iW.map V.ref))=H4 at ur MK np iZ ⊢;have rz:=aj.put (o:=.own p) iZ;have eZ:upd H4 dx (.own p) p=none:=by rw[aI (Ne.symm ndp)];exact np
    have gw:=rz.trans (aj.put (o:=.ins A.a_ dx []) eZ);have pT:=MK.trans gw;have ML:=(s1.trans hs).trans (rq.trans MK);have ben:bz.length<=sp.toNat*(counts z).length:=by
     have:((sp.toNat*(counts z).length:Nat):Int)=sp*((counts z).length:Int):=by rw[Int.natCast_mul,Int.toNat_of_nonneg p0]
     lia
    try walk_at "rdm"
    refine⟨p,dx,zc,sc,WM,bq,iW,z,bz,ao,sk,sp,sw,rfl,T.afM,T.Eg,aD,MI.same pT,zl.ok,ok.l1,ok.l2,ok.k0,ok.k1,ok.l3,aA.of (pT _ _ gv),ok.so,ur.same gw,by lia,nb,EH,by lia,p0,p1,
     (T0.same ML).same gw,λos r is=>adw p0 ben os r is,λH6 fp mv ts us os ms keep Wu nf ahe hM hmv=>⟨rfl,?_⟩⟩
    exact q A.a_ p _ _ H6 (λb o e nP=>keep b o (gw _ _ (ML _ _ e)) (bO (ML _ _ e) np) nP) (by simp) hM.ab0 (RA (by lia) (by lia) (λc hc=>⟨p1 c hc,(cm c hc).2⟩) p0 ahe)
theorem WO(T:Tx K mg A)(aG:bx mg base A.bf A.aV):aX P w K mg base br 7 A.B6 A.B7 ["plate", "dues", "begun", "stop"] (aeP K [A.bw,A.a_] A.bM A.bX):=by
 have LR:=VO (P:=P) (w:=w) (base:=base) T aG;have ahf:=aha (P:=P) (w:=w) (base:=base) T aG;refine T.DK.ok SO (λvs H Q E h=>?_) (λaO Ar outer s H vs Q E hr h=>?_)
 ·obtain⟨C,p,l,b,st,P,fp,ps,ds,bg,s0,rfl,_⟩:=h
  rfl
 ·obtain⟨C,p,l,b,st,P,fp,ps,ds,bg,s0,rfl,hC,hP,ok,r0,r1,hd,nU,dc,hb,fu,q⟩:=h;refine⟨_,(aF (aQ (i:=4) SO.nd rfl (Or.inl rfl) (aY LR (hr.mono (by first | decide | lia)) rfl T.Km T.DJ.kp T.Kl .nil aN (ah (aa 1) (ah (aa 2) au))))
   (aK (bF (cE (ah (aY ahf (hr.mono (by first | decide | lia)) rfl T.TQ T.Kr.kp T.TN .nil aN (ah (aa 0) (ah (aH bH (aa 3) ak (λ_ _=>rfl)) (ah (aH bH (aa 3) ak (λ_ _=>rfl)) (ah (aa 4) au))))) (ah (bR eE rfl T.dm boot_len (ah (aa 4) au)) (ah (aa 2) (ah (aa 3) au)))))))),?_⟩
  walk_at "rdt";refine⟨l,b,ps,ds,bg,H,rfl,aj.refl H,hd,nU,hb,λL pl H1 s1 nL hL hl=>?_⟩;have hl1:=(hl.same s1).AL hL;walk_at "rdt";have WQ:=s1 _ _ fu;refine⟨_,aL.of WQ,_,rfl,_,aL.of WQ,_,rfl,C,p,L,P,fp,s0.1,s0.2,pl,bK ds bg,rfl,hC,hP.same s1,ok,r0,r1,hl1,Nat.le_trans (List.length_filter_le _ _) nU,λd eF=>dc d (tL.mp eF).1,λH2 s2=>⟨_,.inl (aA.of (s2 _ _ hL)),λa na=>?_⟩⟩;have s3:=(s1.trans s2).trans (aj.put (o:=.tup [V.int (pB P s0.1 s0.2 ((bK ds bg).map (·.c))),V.int ((pl.map V.ref).length:Int),V.ref b,V.ref st]) na);refine q a _ s3 ((s1.trans s2).free na) ⟨b,st,?_,s3 _ _ hb,s3 _ _ fu⟩;rw[aD,List.length_map,hl.n];rfl
theorem ahg(T:Tx K mg A)(aG:bx mg base A.bf A.aV):aX P w K mg base br 7 A.Dz A.DA ["_law_script", "_law_most"] (ad4 K [A.bw,A.a_] A.bM A.bX A.aV (nC fZ) (nF "nearest_rings")):=by
 have MM:=Wo (P:=P) (w:=w) (base:=base) T aG;have kg:=LN (P:=P) (w:=w) (base:=base) T aG;have ahh:=agm (P:=P) (w:=w) (base:=base) T aG;have ahi:=ahc (P:=P) (w:=w) (base:=base) T aG;have ahj:=ag1 (P:=P) (w:=w) (base:=base) T aG;have ahk:=ag9 (P:=P) (w:=w) (base:=base) T aG;refine T.Li.ok qW (λvs H Q E h=>?_) (λaO Ar outer s H vs Q E hr h=>?_)
 ·obtain⟨sc,ns,most,rfl,_⟩:=h
  rfl
 ·obtain⟨sc,ns,most,rfl,gv,lG,m1,m7,T0,q⟩:=h;refine⟨_,(aF (aQ (i:=2) qW.nd rfl (Or.inl rfl) (aY ahh (hr.mono (by first | decide | lia)) rfl T.U3 T.K3.kp T.U1 .nil aN (ah (aY kg (hr.mono (by first | decide | lia)) rfl T.lq T.j8.kp T.lg .nil aN (ah (aa 0) (ah ak au))) (ah (aY kg (hr.mono (by first | decide | lia)) rfl T.lq T.j8.kp T.lg .nil aN (ah (aa 0) (ah ak au))) au))))
   (aF (aQ (i:=3) qW.nd rfl (Or.inr rfl) (aY ahi (hr.mono (by first | decide | lia)) rfl T.U5 T.K4.kp T.U4 .nil aN (ah (aa 2) (ah (aY kg (hr.mono (by first | decide | lia)) rfl T.lq T.j8.kp T.lg .nil aN (ah (aa 0) (ah ak au))) au))))
   (aF (aQ (i:=4) qW.nd rfl (Or.inl rfl) (aE cB (aY kg (hr.mono (by first | decide | lia)) rfl T.lq T.j8.kp T.lg .nil aN (ah (aa 0) (ah ak au))) (bR vI rfl T.dm boot_len (ah (aH bH (aa 2) ak (λ_ _=>rfl)) au))))
   (aF (aQ (i:=5) qW.nd rfl (Or.inl rfl) (aE cB (aY kg (hr.mono (by first | decide | lia)) rfl T.lq T.j8.kp T.lg .nil aN (ah (aa 0) (ah ak au))) (aH mW (dG (ah (aE oH ak ak) (ah (aE oH ak ak) au))) (aE cB (aE rO (aY kg (hr.mono (by first | decide | lia)) rfl T.lq T.j8.kp T.lg .nil aN (ah (aa 0) (ah ak au))) ak) ak) (λ_ _=>rfl))))
   (aF (aQ (i:=6) qW.nd rfl (Or.inl rfl) (aY ahj (hr.mono (by first | decide | lia)) rfl T.Vc T.K8.kp T.Vb .nil aN (ah (aa 0) (ah (aa 3) (ah (aa 2) (ah (cE (ah (aa 4) (ah (aa 5) au))) (ah (aa 1) au)))))))
   (aF (tF (i:=7) qW.nd rfl (Or.inl rfl) (N:=["_law_one", "_law_plate_here", "_law_script"]) (nt:=1) (fv:=[3,0]) (cD.of rfl rfl (by rfl) (by rfl) (by repeat (first | exact trivial | refine⟨rfl,?_⟩)) (by rfl) (by rfl) (by rfl) (by decide) (by decide +kernel)) rfl (c_ (aa 6)) (λC s H fp=>(bB (i:=0) (show List.Nodup (["_law_one", "_law_plate_here", "_law_script"]:List Str) by decide +kernel) rfl (Or.inl rfl))) (λC s H fp=>iT) (λC s H fp=>(rW T.LC MM (hr.mono (by first | decide | lia)) rfl T.LD T.J8 .nil aN (ah (aa 1) (ah (aH (jW (K:=K) rfl) (aa 0) ak (λ_ _=>rfl)) (ah (aY ahk (hr.mono (by first | decide | lia)) rfl T.Ve T.K9.kp T.Vd .nil aN (ah (aa 0) (ah (aE dz (aY kg (hr.mono (by first | decide | lia)) rfl T.lq T.j8.kp T.lg .nil aN (ah (aa 2) (ah ak au))) (aH (jW (K:=K) rfl) (aa 0) ak (λ_ _=>rfl))) au))) au))))))
   (aK (bF (cE (ah (aa 2) (ah (aa 3) (ah (aa 4) (ah (aa 5) (ah (aa 6) (ah (aa 7) au))))))))))))))),?_⟩
  wp_walk using iU;refine⟨ns,gv,lG,ns,gv,lG,_,_,rfl,λt z ao sk sw za bq ca sa H1 s1 nt hS ok=>?_⟩;have yE:=s1.seq gv;have T1:=T0.same s1
  try wp_walk using iU
  refine⟨ns,yE,lG,t,z,ao,sk,sw,za,bq,ca,sa,_,rfl,hS,ok,T1,λC p nc fp H2 keep hC hP nk=>?_⟩;have j_:=hS.but T1 keep;have uA:=yE.but T1 keep;clear keep T1 yE hS s1 nt T0;have cl:=oR z λp hp=>(ok.zl.ok.r p hp).1;have GN:=ok.zl.sm;have c2:=ok.zl.ok.s2;have k1:=aL.of (K:=K) j_.o
  try wp_walk using iU
  refine⟨ns,uA,lG,_,k1,_,rfl,ca,rfl,_,.inl (aA.of j_.c),by rw[List.length_map];lia,ns,uA,lG,by decide,by decide,λo1 mG=>?_⟩
  rw[List.length_map];have s3:=aj.put (o:=.lst [V.int 10000,V.int 1000000000000]) mG;have rm:upd H2 o1 (.lst [V.int 10000,V.int 1000000000000]) o1=some (.lst [V.int 10000,V.int 1000000000000]):=aD;generalize upd H2 o1 (.lst [V.int 10000,V.int 1000000000000])=H3 at s3 rm ⊢;have r0:=Int.emod_nonneg (eg ns 3) (show ((counts z).length:Int)≠0 by lia)
  have r1:=Int.emod_lt_of_pos (eg ns 3) (show 0<((counts z).length:Int) by lia)
  obtain⟨D,hD,D0,D1⟩:∃D:Int,dR [V.int 10000,V.int 1000000000000] (eg ns 3 / 16 % 2)=some (.int D)/\1<=D/\D<=1000000000000:=by
   have h0:=Int.emod_nonneg (eg ns 3 / 16) (show (2:Int)≠0 by decide)
   have h1:=Int.emod_lt_of_pos (eg ns 3 / 16) (show (0:Int)<2 by decide)
   have:eg ns 3 / 16 % 2=0\/eg ns 3 / 16 % 2=1:=by lia
   rcases this with e | e <;> rw[e]
   ·exact⟨_,rfl,by decide,by decide⟩
   ·exact⟨_,rfl,by decide,by decide⟩
  refine⟨ns,s3.seq uA,lG,_,aA.of rm,_,hD,_,rfl,by lia,λsp nsp=>?_⟩
  have b0:=Int.emod_nonneg (eg ns 4) (show D≠0 by lia)
  have b1:=Int.emod_lt_of_pos (eg ns 4) (show 0<D by lia)
  generalize eg ns 3 % ((counts z).length:Int)=r at r0 r1 ⊢;generalize eg ns 4 % D=b at b0 b1 ⊢;have s4:=s3.trans (aj.put (o:=.tup [V.int r,V.int b]) nsp);have cY:upd H3 sp (.tup [V.int r,V.int b]) sp=some (.tup [V.int r,V.int b]):=aD;generalize upd H3 sp (.tup [V.int r,V.int b])=H4 at s4 cY ⊢;refine⟨C,sc,p,t,sp,z,ao,sk,sw,za,bq,ca,sa,nc,fp,r,b,most,ns,rfl,s4.seq uA,lG,hC,hP.same s4,nk,j_.same s4,ok,cY,r0,r1,b0,by lia,m1,m7,λkl bN ks H5 s5 nkl hk MN=>?_⟩
  have MO:=s4.trans s5;have hP5:=hP.same MO;have ahl:=MO.seq uA;have dH:=hk.n;have n10:=MN.n7;have Wx:=nk.n1;refine gU kl (bN.map V.ref) (λD2 i ys aB H6=>∃(v:Option V) (ps:List Addr) (ds:List Dr),ys=ps.map V.ref/\aB = [v,some (.ref p),some (.ref sc)]/\aj H5 H6/\H5 D2=none/\mq K A.bM A.bX H6 D2 ps ds/\ds.length=i/\i<=ks.length/\∀(j:Nat) (k:Kn) (d:Dr),j<i->ks[j]? = some k->ds[j]? = some d->AK nc k d) (λQ q=>q) hk.sq ?_ ?_ ?_ ?_
  ·intro D2 je;exact⟨none,[],[],rfl,rfl,aj.put je,je,⟨aD,rfl,λi t k e=>by simp at e⟩,rfl,Nat.zero_le _,λj k d h=>absurd h (by lia)⟩
  ·rintro D2 i ys aB H6 ⟨v,ps,ds,rfl,rfl,s6,nD,hd,dn,di,dk⟩;exact⟨hd.hl,fD (by rw[List.length_map,hd.n];lia),(hk.same s6).sq⟩
  ·rintro D2 i x ys aB H6 N hN hx ⟨v,ps,ds,rfl,rfl,s6,nD,hd,dn,di,dk⟩;obtain⟨u,hu,rfl⟩:=dM hx;have hi:i<ks.length:=by rw[← dH];exact cN hu
   obtain⟨b',e_,bu,hK⟩:=(hk.same s6).t i u ks[i] hu (List.getElem?_eq_getElem hi);have mH:=MN.ok ks[i] (List.getElem_mem hi);have ku:=aL.of (K:=K) hK.o;wp_walk using iU;refine⟨_,ku,_,rfl,ns,s6.seq ahl,lG,_,ku,_,rfl,?_⟩
   try wp_walk using iU
   refine⟨u,ks[i],b',e_,bu,_,nc,rfl,hK,mH,by lia,λaq ap mk bb MP H7 pU s7 Ez ha=>?_⟩
   try wp_walk using iU
   intro x dx nx iZ eB;have MQ:=s6.trans s7;have mF:=hP5.same MQ;have rz:=aj.put (o:=.own x) iZ;have eZ:upd H7 dx (.own x) x=none:=by rw[aI (Ne.symm eB)];exact nx
   have gw:=rz.trans (aj.put (o:=.ins A.bX dx []) eZ);obtain⟨op,MR⟩:=mF.here;have xp:x≠p:=(bO MR nx).symm;have xf:x∉fp:=λhb=>by
    obtain⟨ob,MS⟩:=mF.has hb;exact bO MS nx rfl
   have o1:=mH.m0;have o2:=mH.m1;refine⟨C,x,p,ap,dx,ks[i].n,bC z ao sk sw nc,fp,aq,mk,bb,MP,rfl,aD,hC,mF.same gw,xp,xf,ha.same gw,⟨by rw[pU.1];exact mH.f0,by rw[pU.2.1];lia,by rw[pU.2.1];lia,by rw[pU.1,pU.2.1];exact mH.fit⟩,by show nc.length<=1000000;lia,λl ts H8 nl sb MT=>⟨rfl,?_⟩⟩
   have rA:aj H6 H8:=λb o e=>sb _ _ (gw _ _ (s7 _ _ e)) (bO (s7 _ _ e) nx);have lD:l≠D2:=(bO (gw _ _ (s7 _ _ hd.hl)) nl).symm;refine⟨rA _ _ hd.hl,hN _ _ _ ⟨_,ps++[x],ds++[_],by rw[List.map_append];rfl,rfl,aj.put2 (s6.trans rA) nD,nD,(hd.same rA).snoc MT lD,by simp[dn],by lia,λj k d hj e1 e2=>?_⟩⟩
   by_cases gY:j<i
   ·rw[List.getElem?_append_left (by lia)] at e2
    exact dk j k d gY e1 e2
   ·have:j=i:=by lia
    subst this;rw[List.getElem?_eq_getElem hi] at e1;rw[List.getElem?_append_right (by lia),dn,Nat.sub_self] at e2
    cases e1;cases e2;exact⟨rfl,pU,by show eW nc aq.first aq.many=_;rw[pU.1,pU.2.1]⟩
  ·rintro D2 ys aB H6 ⟨v,ps,ds,rfl,rfl,s6,nD,hd,dn,di,dk⟩;rw[List.length_map,dH] at dn;intro tt ntt;have s7:=aj.put (o:=.tup [V.ref t,V.ref p,V.int r,V.int b,V.ref kl,V.ref D2]) ntt;have pO:=(MO.trans s6).trans s7;refine q tt t p r b kl D2 z ao sk sw nc ks ds _ aD (pO.seq uA) ⟨⟨za,bq,ca,sa,j_.same pO⟩,ok,⟨C,fp,hC,hP.same pO⟩,nk,r0,r1,b0,by lia,⟨bN,(hk.same s6).same s7⟩,MN,⟨ps,hd.AL.same s7⟩,dn,λj k d e1 e2=>dk j k d ?_ e1 e2⟩
   rw[List.length_map,dH];exact cN e1
theorem ahm(T:Tx K mg A)(aG:bx mg base A.bf A.aV):aX P w K mg base br 8 A.B8 A.B9 ["heap", "plate", "dues", "kept", "node"] (aeQ K [A.bw,A.a_] A.bM A.bX):=by
 have ahn:=afR (P:=P) (w:=w) (base:=base) T aG;have MG:=WK (P:=P) (w:=w) (base:=base) T aG;have aho:=agd (P:=P) (w:=w) (base:=base) T aG;have MU:=WO (P:=P) (w:=w) (base:=base) T aG;refine T.Kv.ok xB (λvs H Q E h=>?_) (λaO Ar outer s H vs Q E hr h=>?_)
 ·obtain⟨C,hp,p,l,kd,a,P,fp,ps,ds,az,bg,s0,zs,H0,rfl,_⟩:=h
  rfl
 ·obtain⟨C,hp,p,l,kd,a,P,fp,ps,ds,az,bg,s0,zs,H0,rfl,s1,fh,hC,hP,ok,r0,r1,hd,n7,dc,hk,⟨pb,pq,ha,hb,hq⟩,hz,hf,hzn,hbn,q⟩:=h;refine⟨_,(aF (aQ (i:=5) xB.nd rfl (Or.inl rfl) (aH bH (aa 4) ak (λ_ _=>rfl)))
   (aF (aQ (i:=6) xB.nd rfl (Or.inl rfl) (aH bH (aa 4) ak (λ_ _=>rfl)))
   (aK (cQ PassesOwn.never rfl (c_ (aY aho (hr.mono (by first | decide | lia)) rfl T.TJ T.Ko.kp T.TH .nil aN (ah (aa 2) (ah (aa 3) (ah (aa 5) au))))) (bB (i:=7) xB.nd rfl (Or.inl rfl))
   (aF (aQ (i:=8) xB.nd rfl (Or.inl rfl) (aY MG (hr.mono (by first | decide | lia)) rfl T.Kc T.DI.kp T.Ka .nil aN (ah (aa 1) (ah (aH bH (aa 6) ak (λ_ _=>rfl)) (ah (aH bH (aa 6) ak (λ_ _=>rfl)) (ah (b_ (aa 7) rfl) au))))))
   (aK (c8 (aY ahn (hr.mono (by first | decide | lia)) rfl T.S7 T.JY.kp T.S6 .nil aN (ah (aa 0) (ah (aY MU (hr.mono (by first | decide | lia)) rfl T.Ku T.DK.kp T.Ks .nil aN (ah (aa 1) (ah (aa 2) (ah (aE aek (aa 5) (cE (ah (b_ (aa 7) rfl) au))) (ah (aa 8) au))))) au)))))))))),?_⟩
  walk_at "rdt";refine⟨_,aL.of ha,_,rfl,_,aL.of ha,_,rfl,?_⟩;refine sL ?_;walk_at "rdt";refine⟨l,kd,pb,ps,ds,az,bg,H0,rfl,s1,hd,by lia,hk,hb,λD pd H1 s2 nD hD xm=>⟨D,rfl,?_⟩⟩
  have MV:=s1.trans s2;have nDh:D≠hp:=λz=>by rw[z,hz.l] at nD;cases nD
  have iK:=xm.n;have kX:H1 pb=some (.tup (bg.map V.int)):=s2 _ _ hb;have hq2:H1 pq=some (.tup [.int s0.1,.int s0.2]):=s2 _ _ hq;have ur:bg.length<=100:=hbn;have nx7:(fP ds bg).length<=7:=Nat.le_trans (List.length_filter_le _ _) (Nat.le_trans (List.length_filter_le _ _) n7);refine nh.by D (pd.map V.ref) (λi σ H'=>∃(x y:Option V) (cI:Ms),σ = [some (V.ref hp),some (V.ref p),some (V.ref l),some (V.ref kd),some (V.ref a),some (V.ref pb),some (V.ref pq),x,y]/\aj H0 H'/\H' D=some (.lst (pd.map V.ref))/\H' pb=some (.tup (bg.map V.int))/\H' pq=some (.tup [.int s0.1,.int s0.2])/\eN H' hp cI/\gW fc cI.length (fm cI)/\(cI.map (·.2)).Perm (((fP ds bg).take i).map (λd=>c7 P ds (bg++[d.n]) (aW P s0 d.c))++zs.map (·.2))) (aA.of hD) ⟨none,none,zs,rfl,MV,hD,kX,hq2,hz.same s2,hf,by simp⟩ (by rintro i σ H' _ ⟨x,y,cI,rfl,_,h,_⟩;exact aA.of h) ?_ ?_
  ·rintro i x σ H' N hN hx ⟨x0,y0,cI,rfl,g1,g2,g3,g4,g5,g6,g7⟩;obtain⟨dp,jc,rfl⟩:=dM hx;have hi:i<(fP ds bg).length:=by rw[← iK];exact cN jc
   obtain⟨dx,ap,la,ts,m,b',bU,WR⟩:=xm.t i dp (fP ds bg)[i] jc (List.getElem?_eq_getElem hi);have tk:=take_succ_get (List.getElem?_eq_getElem hi);have hm:=(pC.mp (List.getElem_mem hi)).1.1;have zl:cI.length<=zs.length+7:=by
    have:=g7.length_eq;simp only[List.length_map,List.length_append,List.length_take] at this;lia
   generalize (fP ds bg)[i] = d at *
   obtain⟨c1,c2⟩:=dc d hm;have dP:=g1 _ _ WR.o;unfold nH at dP;wp_walk using T,dP;refine⟨_,aL.of g4,_,rfl,_,aL.of g4,_,rfl,C,p,P,fp,s0.1,s0.2,la,ts,d.c,rfl,hC,hP.same g1,ok,r0,r1,(WR.same g1).c,c1,c2,λt H3 s3 nt ht=>?_⟩;have ahp:=s3 _ _ dP;wp_walk using T,ahp;intro p1 eZ;have s4:=s3.trans (aj.put (o:=.tup [V.int d.n]) eZ);refine⟨_,aL.of (s4 _ _ g3),by simp,?_,λpn H5 s5 hpn=>?_⟩
   ·have nb:bg.length<=100:=ur;rw[List.length_map];lia
   have WS:=s4.trans s5;have yK:=g1.trans WS;have ahq:H5 t=some (.tup [.int (aW P s0 d.c).1,.int (aW P s0 d.c).2]):=s5 _ _ (aj.put eZ _ _ ht);have en:=iX P (n:=P.rc.length) d.c s0 r0 r1 (λq hq=>⟨(c1 q hq).1,(c1 q hq).2.1⟩);refine⟨C,p,l,pn,t,P,fp,ps,ds,bg++[d.n],aW P s0 d.c,rfl,hC,hP.same yK,ok,en.1,en.2,hd.same yK,by lia,dc,by rw[hpn];simp,ahq,λa2 H6 s6 V9 WT=>?_⟩
   have pT:=WS.trans s6;have uB:=g5.same pT;refine⟨hp,a2,c7 P ds (bg++[d.n]) (aW P s0 d.c),cI,rfl,uB,by lia,WT,g6,λEI pz hf2=>?_⟩
   have gz:=EI;refine hN _ _ ⟨_,_,EI,rfl,aj.put2 (g1.trans pT) fh,?_,?_,?_,⟨aD,aem pz (R8 (x:=(a2,_)) (WT.eG uB.l) (uB.z.eG uB.l)),by rw[pz.length_eq];simp only[List.length_cons];lia⟩,hf2,?_⟩
   ·rw[aI nDh];exact pT _ _ g2
   ·have:=pT _ _ g3;rw[aI (λz=>by rw[z,uB.l] at this;cases this)];exact this
   ·have:=pT _ _ g4;rw[aI (λz=>by rw[z,uB.l] at this;cases this)];exact this
   ·rw[tk,List.map_append,List.append_assoc];refine(pz.map λz:Addr×Nd=>z.2).trans ?_;rw[List.map_cons];exact(g7.cons _).trans (List.perm_middle.symm)
  ·rintro σ H' ⟨x0,y0,cI,rfl,g1,g2,g3,g4,g5,g6,g7⟩;rw[List.length_map,iK,List.take_length] at g7;exact q cI H' g1 g5 g6 g7
theorem ahr(T:Tx K mg A)(aG:bx mg base A.bf A.aV):aX P w K mg base br 9 A.B_ A.Ca ["plate", "ring", "beat", "dues"] (aeT K [A.bw,A.a_] A.bM A.bX):=by
 have ahs:=agt (P:=P) (w:=w) (base:=base) T aG;have aht:=af_ (P:=P) (w:=w) (base:=base) T aG;have ahu:=agA (P:=P) (w:=w) (base:=base) T aG;have MU:=WO (P:=P) (w:=w) (base:=base) T aG;have ahv:=ahm (P:=P) (w:=w) (base:=base) T aG;refine T.Kw.ok tR (λvs H Q E h=>?_) (λaO Ar outer s H vs Q E hr h=>?_)
 ·obtain⟨C,p,l,P,fp,r,b,ps,ds,rfl,_⟩:=h
  rfl
 ·obtain⟨C,p,l,P,fp,r,b,ps,ds,rfl,hC,hP,ok,r0,r1,hd,n7,nd,dc,q⟩:=h;have o9:∀d∈ds,∀q∈d.c,0<=q.1/\q.1<(P.rc.length:Int):=λd hd q hq=>⟨((dc d hd).1 q hq).1,((dc d hd).1 q hq).2.1⟩;refine⟨_,(aF (c8 (aY aht (hr.mono (by first | decide | lia)) rfl T.Tu T.Kf.kp T.Tt .nil aN (ah (aa 3) au)))
   (aF (aQ (i:=4) tR.nd rfl (Or.inl rfl) (aY ahu (hr.mono (by first | decide | lia)) rfl T.TF T.Kh.kp T.Tz .nil aN (ah (aa 3) au)))
   (aF (aQ (i:=5) tR.nd rfl (Or.inl rfl) (dG au))
   (aF (aQ (i:=6) tR.nd rfl (Or.inl rfl) (aY MU (hr.mono (by first | decide | lia)) rfl T.Ku T.DK.kp T.Ks .nil aN (ah (aa 0) (ah (aa 3) (ah (cE au) (ah (cE (ah (aa 1) (ah (aa 2) au))) au))))))
   (aF (Ft PassesOwn.never (cW iQ (aH bH (aa 6) ak (λ_ _=>rfl)) ak (bI _))
   (aF (c8 (aY ahv (hr.mono (by first | decide | lia)) rfl T.TU T.Kv.kp T.TR .nil aN (ah (aa 5) (ah (aa 0) (ah (aa 3) (ah (aa 4) (ah (aa 6) au)))))))
   (aK (aQ (i:=6) tR.nd rfl (Or.inl rfl) (aY ahs (hr.mono (by first | decide | lia)) rfl T.S9 T.JZ.kp T.S8 .nil aN (ah (aa 5) au))))))
   (aF (tF (i:=7) tR.nd rfl (Or.inl rfl) (N:=["other"]) (nt:=1) (fv:=[]) (cD.of rfl rfl (by rfl) (by rfl) (by repeat (first | exact trivial | refine⟨rfl,?_⟩)) (by rfl) (by rfl) (by rfl) (by decide) (by decide +kernel)) rfl (c_ (aE su (dG (ah (aa 6) au)) (aa 5))) (λC s H fp=>(bB (i:=0) (show List.Nodup (["other"]:List Str) by decide +kernel) rfl (Or.inl rfl))) (λC s H fp=>iT) (λC s H fp=>(cE (ah (aH (jW (K:=K) rfl) (aa 0) ak (λ_ _=>rfl)) (ah (aH (jW (K:=K) rfl) (aa 0) ak (λ_ _=>rfl)) au)))))
   (aK (bF (cE (ah (aH bH (aa 6) ak (λ_ _=>rfl)) (ah (aH bH (aa 6) ak (λ_ _=>rfl)) (ah (aa 7) au)))))))))))),?_⟩
  walk_at "rdt";refine⟨l,ps,ds,rfl,hd,n7,?_⟩;walk_at "rdt";refine⟨l,ps,ds,rfl,hd,by lia,nd,λkd az H0 s0 yp hk=>?_⟩
  walk_at "rdt";intro hp MW pe npe uC ahw;have sA:=aj.put (o:=.lst []) MW;have sB:=aj.put (o:=.tup []) npe;have sC:=aj.put (o:=.tup [V.int r,V.int b]) ahw;have WU:=(sA.trans sB).trans sC;have eh:upd (upd (upd H0 hp (.lst [])) pe (.tup [])) uC (.tup [V.int r,V.int b]) hp=some (.lst []):=sC _ _ (sB _ _ aD);have ee:upd (upd (upd H0 hp (.lst [])) pe (.tup [])) uC (.tup [V.int r,V.int b]) pe=some (.tup []):=sC _ _ aD;have es:upd (upd (upd H0 hp (.lst [])) pe (.tup [])) uC (.tup [V.int r,V.int b]) uC=some (.tup [V.int r,V.int b]):=aD;generalize upd (upd (upd H0 hp (.lst [])) pe (.tup [])) uC (.tup [V.int r,V.int b])=H1 at *
  have s1:=s0.trans WU;refine⟨C,p,l,pe,uC,P,fp,ps,ds,[],(r,b),rfl,hC,hP.same s1,ok,r0,r1,hd.same s1,by lia,dc,ee,es,λa H2 s2 na hn=>?_⟩
  have MV:=WU.trans s2;have hp0:=hP.same s0;have hd0:=hd.same s0;have pJ:eN H2 hp []:=⟨s2 _ _ eh,λ_ h=>(nomatch h),Nat.zero_le _⟩;have hw:eX 7=13700:=by decide
  refine⟨λm σ H'=>∃(a:Addr) (t:Nd) (zs:Ms),m=fL (t::zs.map (·.2))/\σ = [some (V.ref p),some (V.int r),some (V.int b),some (V.ref l),some (V.ref kd),some (V.ref hp),some (V.ref a),none]/\aj H0 H'/\eN H' hp zs/\gW fc zs.length (fm zs)/\fK H' a t/\mw P ds (r,b) t (zs.map (·.2))/\m<=13700,⟨_,a,c7 P ds [] (r,b),[],rfl,rfl,MV,pJ,λi _ h=>absurd h (by simp),hn,mw.start P ds (r,b),?_⟩,?_⟩
  ·rw[← hw];have e:fL (c7 P ds [] (r,b)::([]:Ms).map (·.2))=eX ds.length:=by simp[fL,c7,HL]
   rw[e];exact Sg n7
  ·rintro m σ H3 ⟨a3,t,zs,rfl,rfl,g1,g2,g3,g4,g5,g6⟩;obtain⟨bg,st,MX,rfl⟩:=g5.nd _ (List.mem_cons_self ..);have g4':=g4;obtain⟨pb,pq,h1,h2,h3⟩:=g4';walk_at "rdt";have tl:=Sj (c7 P ds bg st::zs.map (·.2));rw[List.length_cons,List.length_map] at tl;refine⟨_,aL.of h1,_,rfl,_,rfl,bW (λh0=>?_) λh0=>?_⟩
   ·have hl:bK ds bg≠[]:=λz=>by
     have h0:(0:Int)<((bK ds bg).length:Int):=h0;rw[z] at h0;simp at h0
    have xq:=MX.xq o9 r0 r1;have bl:=MX.len nd;refine⟨_,λ_ _ h=>h,C,hp,p,l,kd,a3,P,fp,ps,ds,az,bg,st,zs,H0,rfl,g1,MW,hC,hp0,ok,xq.1,xq.2,hd0,n7,dc,hk,g4,g2,g3,by lia,by lia,λEI H4 s4 uD hf4 pm=>?_⟩
    refine⟨hp,EI,rfl,uD,hf4,λe=>?_,λz cI pz lo hf5=>?_⟩
    ·rw[e] at pm;have:=List.length_pos_iff.mpr (aeC hl);have:=pm.length_eq;unfold tN at this;simp at this;lia
    ·obtain⟨I2,lt2⟩:=g5.step nd MX hl pm (pz.map λz:Addr×Nd=>z.2) (λy hy=>by
      obtain⟨w,hw,rfl⟩:=List.mem_map.mp hy;exact lo w hw)
     have hzs:gr H4 cI:=λw hw=>uD.z w (pz.mem_iff.mpr (List.mem_cons_of_mem _ hw));have ln:=uD.n;have ln2:=pz.length_eq;rw[List.length_cons] at ln2;exact⟨_,lt2,z.1,z.2,cI,rfl,rfl,aj.put2 s4 MW,⟨aD,hzs.eG uD.l,by lia⟩,hf5,(uD.z z (pz.mem_iff.mpr (List.mem_cons_self ..))).eG uD.l,I2,by lia⟩
   ·refine aeR ?_;walk_at "rdt";intro o1 mG;have n1:hp≠o1:=bO g2.l mG;have t1:=aj.put (o:=.lst [V.ref a3]) mG;refine⟨mV zs,by rw[aI n1];exact g2.l,by rw[g9];lia,λo2 Mx=>?_⟩
    have t2:=aj.put (o:=.lst (V.ref a3::mV zs)) Mx;have MY:=t1.trans t2;have fM:upd (upd H3 o1 (.lst [V.ref a3])) o2 (.lst (V.ref a3::mV zs)) o2=some (.lst (mV ((a3,c7 P ds bg st)::zs))):=aD;have WV:=g4.same MY;have g25:gr (upd (upd H3 o1 (.lst [V.ref a3])) o2 (.lst (V.ref a3::mV zs))) ((a3,c7 P ds bg st)::zs):=R8 (x:=(a3,c7 P ds bg st)) WV (g2.z.same MY);have yK:=g1.trans MY;have zl:((a3,c7 P ds bg st)::zs).length<=13701:=by rw[List.length_cons];lia
    have h0:(c7 P ds bg st).2.1<=0:=by lia
    generalize upd (upd H3 o1 (.lst [V.ref a3])) o2 (.lst (V.ref a3::mV zs))=H5 at *
    refine gU o2 (mV ((a3,c7 P ds bg st)::zs)) (λD i ys aB H6=>∃(u:Option V) (dQ:List Addr),ys=dQ.map V.ref/\aB = [u]/\H6 D=some (.lst ys)/\aj H5 H6/\H5 D=none/\mz H6 dQ ((((a3,c7 P ds bg st)::zs).map (·.2)).take i)) (λQ q=>q) (aA.of fM) ?_ ?_ ?_ ?_
    ·intro D hD;exact⟨none,[],rfl,rfl,aD,aj.put hD,hD,⟨rfl,λi a u e=>nomatch e⟩⟩
    ·rintro D i ys aB H6 ⟨u,dQ,rfl,rfl,f1,f2,f3,f4⟩;refine⟨f1,R5 ?_,aA.of (f2 _ _ fM)⟩;have:=f4.n;rw[List.length_take,List.length_map] at this;rw[List.length_map];lia
    ·rintro D i x ys aB H6 N hN hx ⟨u,dQ,rfl,rfl,f1,f2,f3,f4⟩;have hi:i<((a3,c7 P ds bg st)::zs).length:=by have:=cN hx;rwa [g9] at this
     rw[R4 hi] at hx;cases hx;obtain⟨EJ,pq2,k1,k2,k3⟩:=(g25 _ (List.getElem_mem hi)).same f2;walk_at "rdt";refine⟨_,aL.of k1,_,rfl,_,aL.of k1,_,rfl,λc nc=>?_⟩;have s7:=aj.put (o:=.tup [V.ref EJ,V.int (((a3,c7 P ds bg st)::zs)[i]).2.1]) nc;refine⟨s7 _ _ f1,hN _ _ _ ⟨_,dQ++[c],by simp,rfl,aD,aj.put2 (f2.trans s7) f3,f3,?_⟩⟩
     rw[take_succ_get (show (((a3,c7 P ds bg st)::zs).map (·.2))[i]? = some (((a3,c7 P ds bg st)::zs)[i]).2 by rw[List.getElem?_map,List.getElem?_eq_getElem hi];rfl)]
     exact((f4.same s7).snoc aD (s7 _ _ k2)).eG (s7 _ _ f1)
    ·rintro D ys aB H6 ⟨u,dQ,rfl,rfl,f1,f2,f3,f4⟩;rw[g9,List.take_of_length_le (by rw[List.length_map];exact Nat.le_refl _)] at f4
     obtain⟨EJ,pq2,k1,k2,k3⟩:=WV.same f2;refine⟨_,aL.of k1,_,rfl,_,aL.of k1,_,rfl,λc nc=>?_⟩;have s7:=aj.put (o:=.tup [V.ref EJ,V.int (c7 P ds bg st).1,V.ref D]) nc;have WW:=f4.same s7;exact q c EJ D dQ (c7 P ds bg st) (zs.map λz:Addr×Nd=>z.2) _ ((s0.trans yK).trans (f2.trans s7)) ((s0.trans yK).free f3) aD (s7 _ _ k2) ⟨s7 _ _ f1,WW.n,WW.t⟩ g5 h0
theorem ahx(T:Tx K mg A)(aG:bx mg base A.bf A.aV):∀n,aX P w K mg base br (n+4) A.xN A.xO ["_law_spec_here", "_law_spot_here", "_law_known_here"] (SD K n):=by
 have yu:=L4 (P:=P) (w:=w) (base:=base) T aG;have Mj:=VZ (P:=P) (w:=w) (base:=base) T aG;have ahy:=agN (P:=P) (w:=w) (base:=base) T aG;intro n
 induction n with
 | zero=>exact⟨λ_ _ _ _ ⟨_,_,_,_,_,_,_,_,_,_,_,_,_,_,_,_,_,_,_,_,_,_,_,_,z,_⟩=>absurd z (Nat.not_lt_zero _),λ_ _ _ _ _ _ _ _ _ _ _ _ _ ⟨_,_,_,_,_,_,_,_,_,_,_,_,_,_,_,_,_,_,_,_,_,_,_,_,z,_⟩=>absurd z (Nat.not_lt_zero _)⟩
 | succ n ih =>
  refine T.DX.ok xH (λvs H Q E h=>?_) (λaO Ar outer s H vs Q E hr h=>?_)
  ·obtain⟨t,sp,kl,z,ao,sk,sw,za,bq,ca,sa,r,bt,bN,ks,rfl,_⟩:=h
   rfl
  ·obtain⟨t,sp,kl,z,ao,sk,sw,za,bq,ca,sa,r,bt,bN,ks,rfl,hS,ok,r0,r1,cY,hk,kc,up,ln,l7,q⟩:=h;have j9:_+16<cLine:=Nat.lt_of_le_of_lt (Nat.add_le_add_left (by decide:16<=64) _) hr.units
   have dH:=hk.n;refine⟨_,(aF (c9 (cW (GQ j9) (aa 2) (dG au) (bI _)) (aK (bF (dG (ah (aH bH (aa 1) ak (λ_ _=>rfl)) au)))) bT)
   (aF (aQ (i:=3) xH.nd rfl (Or.inl rfl) (dG au))
   (aF (cQ PassesOwn.never rfl (c_ (aY yu (hr.mono (by first | decide | lia)) rfl T.DU T.yf.kp T.DT .nil aN (ah (aa 2) au))) (bB (i:=4) xH.nd rfl (Or.inl rfl))
   (aF (aQ (i:=5) xH.nd rfl (Or.inl rfl) (aY ahy (hr.mono (by first | decide | lia)) rfl T.Vi T.Le.kp T.Vh .nil aN (ah (aa 0) (ah (aH bH (aa 1) ak (λ_ _=>rfl)) (ah (aH bH (aa 1) ak (λ_ _=>rfl)) (ah (aa 2) (ah (cE (ah (aa 4) au)) au)))))))
   (aK (aQ (i:=3) xH.nd rfl (Or.inl rfl) (aE su (aa 3) (aY ih (hr.mono (by first | decide | lia)) rfl T.Lk T.DX.kp T.Lj .nil aN (ah (aa 0) (ah (aa 5) (ah (aY Mj (hr.mono (by first | decide | lia)) rfl T.Ld T.DW.kp T.Lc .nil aN (ah (aa 2) (ah (cE (ah (aa 4) au)) au))) au)))))))))
   (aK (bF (aa 3)))))),?_⟩
   walk_at "rdt";intro p0 np0;have uE:=aj.put (o:=.lst []) np0;have HS:=hk.same uE;refine⟨_,HS.sq,aA.of aD,bW (λh0=>?_) λh0=>?_⟩
   ·refine⟨_,aL.of (uE _ _ cY),_,rfl,λp1 eZ=>?_⟩;have e:ks = []:=by
     cases ks with
     | nil=>rfl
     | cons k ks=>rw[List.isEmpty_iff] at h0;rw[List.map_eq_nil_iff.mp h0] at dH;simp at dH
    subst e;exact q p1 _ (uE.trans (aj.put eZ)) (uE.free eZ) aD
   ·obtain⟨c,hc⟩:∃c,ks.length=c+1:=by
     cases ks with
     | nil=>rw[List.length_eq_zero_iff.mp dH] at h0;exact absurd rfl h0
     | cons k ks=>exact⟨ks.length,rfl⟩
    intro l0 WX;have s1:=uE.trans (aj.put (o:=.lst []) WX);have cS:upd (upd H p0 (.lst [])) l0 (.lst []) l0=some (.lst []):=aD;have fl0:=uE.free WX;generalize upd (upd H p0 (.lst [])) l0 (.lst [])=H1 at *
    refine sL ?_;walk_at "rdt";refine⟨kl,bN,ks,rfl,hk.same s1,by lia,λD H2 s2 nD hD=>⟨D,rfl,?_⟩⟩
    have s12:=s1.trans s2;have nDl:D≠l0:=(bO cS nD).symm;refine nh.by D ((gq ks).map V.int) (λi σ H'=>∃(l:Addr) (x y:Option V),σ = [some (.ref t),some (.ref sp),some (.ref kl),some (.ref l),x,y]/\aj H H'/\H' D=some (.lst ((gq ks).map V.int))/\H l=none/\H' l=some (.lst ((((gq ks).take i).flatMap λm=>endsF (bC z ao sk sw []) c (iI (bC z ao sk sw []) (r,bt) ks [m]) (cL ks [m])).map V.int))) (aA.of hD) ⟨l0,none,none,rfl,s12,hD,fl0,s2 _ _ cS⟩ (by rintro i σ H' _ ⟨l,x,y,rfl,_,h,_⟩;exact aA.of h) ?_ ?_
    ·rintro i' x σ H' N hN hx ⟨l,x0,y0,rfl,g1,g2,g3,g4⟩;obtain⟨m,hm,rfl⟩:=dM hx;have wl:=Sx up (List.mem_of_getElem? hm);have tk:=take_succ_get hm;walk_at "rdt";have WY:=g1 _ _ cY;refine⟨_,aL.of WY,_,rfl,_,aL.of WY,_,rfl,λpm npm=>?_⟩;have k1:=aj.put (o:=.tup [V.int m]) npm;have sm:=g1.trans k1;refine⟨t,kl,pm,z,ao,sk,sw,za,bq,ca,sa,r,bt,bN,ks,[m],rfl,hS.same sm,ok,r0,r1,hk.same sm,kc,aD,λu H3 s3 nu hu pm2 WZ=>?_⟩;have k2:=(k1.trans s3).trans (aj.put (o:=.tup [V.int m]) WZ);have s4:=g1.trans k2;refine⟨kl,pm2,bN,ks,[m],rfl,hk.same s4,by lia,aD,λW tsW H5 s5 nW hW=>?_⟩
     have k3:=k2.trans s5;have s6:=g1.trans k3;have hu5:=s5 _ _ (aj.put WZ _ _ hu);have i:=aeX (P:=bC z ao sk sw []) (n:=(counts z).length) (ks:=ks) (bg:=[m]) (s:=(r,bt)) (λk hk q hq=>⟨((kc k hk).1 q hq).1,((kc k hk).1 q hq).2.1⟩) r0 r1;refine⟨t,u,W,z,ao,sk,sw,za,bq,ca,sa,_,_,tsW,cL ks [m],rfl,hS.same s6,ok,i.1,i.2,hu5,hW,λk hk=>kc k (List.mem_filter.mp hk).1,up.sublist List.filter_sublist,by lia,by lia,λl2 H7 s7 pQ jr=>?_⟩
     have k4:=k3.trans s7;rw[show (cL ks [m]).length=c by lia] at jr
     have w6:eX 6=1957:=by decide
     have wc:=Sg (k:=c) (n:=6) (by lia)
     have fr:(gq ks).length<=7:=by unfold gq;rw[List.length_map];exact Nat.le_trans (List.length_filter_le _ _) l7
     have fl:=Sy (f:=λm=>endsF (bC z ao sk sw []) c (iI (bC z ao sk sw []) (r,bt) ks [m]) (cL ks [m])) (B:=eX c) (ms:=(gq ks).take i') λx hx=>HP c _ _ (by have:=Sx up (List.mem_of_mem_take hx);lia)
     have el:=HP (P:=bC z ao sk sw []) c ((iI (bC z ao sk sw []) (r,bt) ks [m]).1,(iI (bC z ao sk sw []) (r,bt) ks [m]).2) (cL ks [m]) (by lia)
     refine⟨l2,rfl,_,k4 _ _ g4,_,jr,?_,λp np=>hN _ _ ⟨p,_,_,rfl,(g1.trans k4).trans (aj.put np),?_,(g1.trans k4).free np,?_⟩⟩
     ·rw[List.length_map,List.length_map];have m1:=Nat.mul_le_mul (show ((gq ks).take i').length<=7 by rw[List.length_take];lia) (Nat.le_trans wc (Nat.le_of_eq w6))
      lia
     ·exact(aj.put np) _ _ (k4 _ _ g2)
     ·rw[aD,tk,List.flatMap_append,List.map_append];simp
    ·rintro σ H' ⟨l,x0,y0,rfl,g1,g2,g3,g4⟩;rw[List.length_map,List.take_length] at g4;walk_at "rdt";refine q l H' g1 g3 ?_;rw[g4,hc,endsF,if_neg (by intro z;rw[List.isEmpty_iff.mp z] at hc;simp at hc)]
theorem ahz(T:Tx K mg A)(aG:bx mg base A.bf A.aV):aX P w K mg base br 12 A.xN A.xO ["_law_spec_here", "_law_spot_here", "_law_known_here"] (SD K 8):=(ahx T aG 8).mono (by decide)
theorem ahA(T:Tx K mg A)(aG:bx mg base A.bf A.aV):aX P w K mg base br 13 A.DB A.DC ["_law_script"] (AE K [(A.bf,A.aV)]):=by
 have MF:=Wm (P:=P) (w:=w) (base:=base) T aG;have MM:=Wo (P:=P) (w:=w) (base:=base) T aG;have ahB:=ahr (P:=P) (w:=w) (base:=base) T aG;have kg:=LN (P:=P) (w:=w) (base:=base) T aG;have yu:=L4 (P:=P) (w:=w) (base:=base) T aG;have L5:=VY (P:=P) (w:=w) (base:=base) T aG;have ahC:=agO (P:=P) (w:=w) (base:=base) T aG;have ahD:=ahg (P:=P) (w:=w) (base:=base) T aG;have ahE:=ahz (P:=P) (w:=w) (base:=base) T aG;refine T.Vp.ok j0 (λvs H Q E h=>?_) (λaO Ar outer s H vs Q E hr h=>?_)
 ·obtain⟨a,ns,rfl,_⟩:=h
  rfl
 ·obtain⟨a,ns,rfl,hS,hl,tabs,q⟩:=h;have tab:=tabs (A.bf,A.aV) (by simp)
  have Wk:=hr.O_;refine⟨_,(aF (qa (aY ahD (hr.mono (by first | decide | lia)) rfl T.Vo T.Li.kp T.Vn .nil aN (ah (aa 0) (ah ak au))) (ji rfl (cV (bB (i:=1) j0.nd rfl (Or.inl rfl)) (cV (bB (i:=2) j0.nd rfl (Or.inr rfl)) (cV (bB (i:=3) j0.nd rfl (Or.inl rfl)) (cV (bB (i:=4) j0.nd rfl (Or.inl rfl)) (cV (bB (i:=5) j0.nd rfl (Or.inl rfl)) (cV (bB (i:=6) j0.nd rfl (Or.inl rfl)) iO))))))))
   (aF (k6 (ia (dF iQ (bR vI rfl T.dm boot_len (ah (aY yu (hr.mono (by first | decide | lia)) rfl T.DU T.yf.kp T.DT .nil aN (ah (aa 5) au)) au)) ak (bI _)) (aF (aQ (i:=5) j0.nd rfl (Or.inl rfl) (kE se (aa 5) kC (kD ak)))
   (aK (aQ (i:=6) j0.nd rfl (Or.inl rfl) (kE se (aa 6) kC (kD ak))))) bT))
   (aF (k6 (c9 (PW.pt (rK (cW jj (aE cB (aY kg (hr.mono (by first | decide | lia)) rfl T.lq T.j8.kp T.lg .nil aN (ah (aa 0) (ah ak au))) ak) ak (bI _)) (rJ (dF fz (bR eE rfl T.dm boot_len (ah (aa 5) au)) ak (bI _))))) (aF (tF (i:=5) j0.nd rfl (Or.inl rfl) (N:=["_law_one"]) (nt:=1) (fv:=[]) (cD.of rfl rfl (by rfl) (by rfl) (by repeat (first | exact trivial | refine⟨rfl,?_⟩)) (by rfl) (by rfl) (by rfl) (by decide) (by decide +kernel)) rfl (c_ (aa 5)) (λC s H fp=>(bB (i:=0) (show List.Nodup (["_law_one"]:List Str) by decide +kernel) rfl (Or.inl rfl))) (λC s H fp=>iT) (λC s H fp=>(aE (SG (K:=K) rfl) (aE (SG (K:=K) rfl) (kE (SE (K:=K) rfl) (aa 0) kC (kD ak)) (cE (ah iL (ah (cE au) au)))) (kE (SE (K:=K) rfl) (aa 0) (kD ak) kC))))
   (aK (tF (i:=6) j0.nd rfl (Or.inl rfl) (N:=["_law_one", "_law_plate_here"]) (nt:=1) (fv:=[2]) (cD.of rfl rfl (by rfl) (by rfl) (by repeat (first | exact trivial | refine⟨rfl,?_⟩)) (by rfl) (by rfl) (by rfl) (by decide) (by decide +kernel)) rfl (c_ (aa 5)) (λC s H fp=>(bB (i:=0) (show List.Nodup (["_law_one", "_law_plate_here"]:List Str) by decide +kernel) rfl (Or.inl rfl))) (λC s H fp=>iT) (λC s H fp=>(rW T.LC MM (hr.mono (by first | decide | lia)) rfl T.LD T.J8 .nil aN (ah (aa 1) (ah (aH (jW (K:=K) rfl) (aa 0) ak (λ_ _=>rfl)) (ah (aY MF (hr.mono (by first | decide | lia)) rfl T.JV T.DG.kp T.SY (show Vals [.int 0,.aP,.aP] [.int 0 A.JO,.none,.none] from(.cons ⟨_,rfl⟩ (.cons rfl (.cons rfl .nil)))) aN (ah (aH (jW (K:=K) rfl) (aa 0) ak (λ_ _=>rfl)) (ah (aH (jW (K:=K) rfl) (aa 0) ak (λ_ _=>rfl)) (ah ak au)))) au)))))))) bT))
   (aF (aQ (i:=7) j0.nd rfl (Or.inl rfl) (aY ahB (hr.mono (by first | decide | lia)) rfl T.TX T.Kw.kp T.TV .nil aN (ah (aa 2) (ah (aa 3) (ah (aa 4) (ah (aa 6) au))))))
   (aF (c9 (PW.pt (iN (mO (jh (bR zX rfl T.qY boot_isinstance (ah (aa 7) (ah (zg (v:=.ty "tuple") rfl T.pI boot_tuple rfl) au))))) (iM (mO (jh (aY L5 (hr.mono (by first | decide | lia)) rfl T.Lb T.DV.kp T.La .nil aN (ah (aH bH (aa 7) ak (λ_ _=>rfl)) au))))))) (aK (bF iL)) bT)
   (aK (bF (oz (aY ahC (hr.mono (by first | decide | lia)) rfl T.Vm T.Lh.kp T.Vl .nil aN (ah (aH bH (aa 7) ak (λ_ _=>rfl)) (ah (aa 5) au))) (lK (gR jj (aH bH (aa 7) ak (λ_ _=>rfl)) (bR (Gw rfl) rfl T.nT boot_min (ah (aY ahE (hr.mono (by first | decide | lia)) rfl T.Lk T.DX.kp T.Lj .nil aN (ah (aa 1) (ah (cE (ah (aa 3) (ah (aa 4) au))) (ah (aa 5) au)))) au)) (bI _))))))))))),?_⟩
  walk_at "rdt";refine⟨a,ns,4,rfl,hS,hl,by decide,by decide,⟨#[],tab,trivial,.inl rfl⟩,λt sa p r b kl dl z ao sk sw nc ks ds H1 ht gv st=>?_⟩
  try walk_at "rdt"
  refine⟨_,aL.of ht,rfl,_,_,rfl,_,_,rfl,_,_,rfl,_,_,rfl,_,_,rfl,_,_,rfl,rfl,?_⟩;refine⟨λσ H'=>∃(kl dl:Addr) (ks:List Kn) (ds:List Dr),σ = [some (V.ref a),some (V.ref sa),some (V.ref p),some (V.int r),some (V.int b),some (V.ref kl),some (V.ref dl),none]/\aA K H' a (ns.map V.int)/\jR K [A.bw,A.a_] A.bM A.bX H' sa p r b kl dl z ao sk sw nc ks ds,?_,?_⟩
  ·obtain⟨bN,hk⟩:=st.kn;obtain⟨ps,hd⟩:=st.du;have n7:=st.ok.n7;refine⟨kl,bN,ks,rfl,hk,by lia,λD H2 s2 nD hD=>⟨D,rfl,_,.inl (aA.of hD),bW (λh0=>?_) λh0=>?_⟩⟩
   ·refine⟨kl,rfl,_,(hk.same s2).sq,λk2 MZ=>⟨dl,rfl,_,aA.of (aj.put MZ _ _ (s2 _ _ hd.l)),λd2 wO=>⟨k2,d2,ks.take 4,ds.take 4,rfl,?_,?_⟩⟩⟩
    ·exact((s2.trans (aj.put (o:=.lst (cZ (bN.map V.ref) none (some 4))) MZ)).trans (aj.put (o:=.lst (cZ (ps.map V.ref) none (some 4))) wO)).seq gv
    ·have s3:=(s2.trans (aj.put (o:=.lst (cZ (bN.map V.ref) none (some 4))) MZ)).trans (aj.put (o:=.lst (cZ (ps.map V.ref) none (some 4))) wO);refine st.four hk hd s3 ?_ ?_
     ·rw[aj.put wO _ _ aD];rw[show (4:Int)=((4:Nat):Int) from rfl,Hx,List.map_take]
     ·rw[aD,show (4:Int)=((4:Nat):Int) from rfl,Hx,List.map_take]
   ·exact⟨kl,dl,ks,ds,rfl,s2.seq gv,st.same s2⟩
  ·rintro σ H2 ⟨kl,dl,ks,ds,rfl,yw,st⟩;walk_at "rdt";refine⟨λσ H'=>∃(kl dl:Addr) (ks:List Kn) (ds:List Dr),σ = [some (V.ref a),some (V.ref sa),some (V.ref p),some (V.int r),some (V.int b),some (V.ref kl),some (V.ref dl),none]/\HR K [A.bw,A.a_] A.bM A.bX H' sa p r b kl dl z ao sk sw nc ks ds,?_,?_⟩
   ·obtain⟨bN,hk⟩:=st.kn;have dH:=hk.n;have n7:=st.ok.n7;obtain⟨C,fp,hC,hP⟩:=st.pl;have Wx:=st.nk.n1;refine⟨a,ns,13,rfl,yw,hl,by decide,_,rfl,bW (λh0=>?_) λh0=>⟨kl,dl,ks,ds,rfl,st.lw⟩⟩
    refine⟨_,.inl hk.sq,bW (λh1=>?_) λh1=>⟨kl,dl,ks,ds,rfl,st.lw⟩⟩
    refine gU kl (bN.map V.ref) (λD i ys aB H3=>∃(v:Option V) (ts:List Addr),ys=ts.map V.ref/\aB = [v]/\aj H2 H3/\H2 D=none/\H3 D=some (.lst ys)/\jQ H2 H3 D ts ((ks.take i).map jU)) (λQ q=>q) hk.sq ?_ ?_ ?_ ?_
    ·intro D nD;exact⟨none,[],rfl,rfl,aj.put nD,nD,aD,⟨aD,rfl,nD,λi t k e=>(nomatch e)⟩⟩
    ·rintro D i ys aB H3 ⟨v,ts,rfl,rfl,s3,nD,hD,hL⟩;have:=hL.n;simp only[List.length_map,List.length_take] at this;exact⟨hD,fD (by rw[List.length_map];lia),(hk.same s3).sq⟩
    ·rintro D i x ys aB H3 N hN hx ⟨v,ts,rfl,rfl,s3,nD,hD,hL⟩;obtain⟨u,hu,rfl⟩:=dM hx;have hi:i<ks.length:=by rw[← dH];exact cN hu
     obtain⟨b',e_,bu,pA⟩:=hk.t i u ks[i] hu (List.getElem?_eq_getElem hi);have nD':e_≠D:=bO pA.c.l nD;have hK:=pA.same s3;have tk:=take_succ_get (List.getElem?_eq_getElem hi);generalize ks[i] = k at *
     walk_at "rdt";refine⟨u,_,rfl,aL.of hK.o,by simp[_H.bJ],λc1 Mh e0 ne0 o1 mG=>?_⟩
     have x1:=aj.put (o:=.tup (cZ [V.int k.n,V.int k.f,V.int k.m,V.bl k.w,V.ref b',d7 k.eV,V.ref e_] none (some 3))) Mh;have x2:=aj.put (o:=.tup []) ne0;have x3:=aj.put (o:=.tup [V.bl false,V.ref e0]) mG;have x13:=(x1.trans x2).trans x3;have Ey:=x3 _ _ (x2 _ _ (aD (H:=H3) (a:=c1) (o:=.tup (cZ [V.int k.n,V.int k.f,V.int k.m,V.bl k.w,V.ref b',d7 k.eV,V.ref e_] none (some 3)))));have Hj:=x3 _ _ (aD (H:=upd H3 c1 (.tup (cZ [V.int k.n,V.int k.f,V.int k.m,V.bl k.w,V.ref b',d7 k.eV,V.ref e_] none (some 3)))) (a:=e0) (o:=.tup []));have rm:=aD (H:=upd (upd H3 c1 (.tup (cZ [V.int k.n,V.int k.f,V.int k.m,V.bl k.w,V.ref b',d7 k.eV,V.ref e_] none (some 3)))) e0 (.tup [])) (a:=o1) (o:=.tup [V.bl false,V.ref e0]);generalize upd (upd (upd H3 c1 (.tup (cZ [V.int k.n,V.int k.f,V.int k.m,V.bl k.w,V.ref b',d7 k.eV,V.ref e_] none (some 3)))) e0 (.tup [])) o1 (.tup [V.bl false,V.ref e0])=H4 at *
     refine⟨c1,rfl,_,aL.of Ey,_,aL.of rm,(λz=>nomatch z),Nat.le_of_ble_eq_true rfl,λz=>(nomatch z),λ_ c2 nc2=>?_⟩;have x4:=aj.put (o:=.tup (cZ [V.int k.n,V.int k.f,V.int k.m,V.bl k.w,V.ref b',d7 k.eV,V.ref e_] none (some 3)++[V.bl false,V.ref e0])) nc2;have jo:=aD (H:=H4) (a:=c2) (o:=.tup (cZ [V.int k.n,V.int k.f,V.int k.m,V.bl k.w,V.ref b',d7 k.eV,V.ref e_] none (some 3)++[V.bl false,V.ref e0]));have W0:=x13.trans x4;have he4:=x4 _ _ Hj;generalize upd H4 c2 (.tup (cZ [V.int k.n,V.int k.f,V.int k.m,V.bl k.w,V.ref b',d7 k.eV,V.ref e_] none (some 3)++[V.bl false,V.ref e0]))=H5 at *
     refine⟨u,_,rfl,aL.of (W0 _ _ hK.o),by simp[_H.bJ],λc3 nc3=>?_⟩
     have x5:=aj.put (o:=.tup (cZ [V.int k.n,V.int k.f,V.int k.m,V.bl k.w,V.ref b',d7 k.eV,V.ref e_] (some 5) none)) nc3;refine⟨c3,rfl,_,aL.of (x5 _ _ jo),_,aL.of aD,(λz=>nomatch z),Nat.le_of_ble_eq_true rfl,λz=>(nomatch z),λ_ c4 nc4=>?_⟩;have x6:=aj.put (o:=.tup ((cZ [V.int k.n,V.int k.f,V.int k.m,V.bl k.w,V.ref b',d7 k.eV,V.ref e_] none (some 3)++[V.bl false,V.ref e0])++cZ [V.int k.n,V.int k.f,V.int k.m,V.bl k.w,V.ref b',d7 k.eV,V.ref e_] (some 5) none)) nc4;have EK:=(W0.trans x5).trans x6;have hD6:=EK _ _ hD;refine⟨hD6,hN _ _ _ ⟨_,ts++[c4],by rw[List.map_append];rfl,rfl,aj.put2 (s3.trans EK) nD,nD,aD,?_⟩⟩
     rw[tk,List.map_append];have K1:fX _ c4 (jU k) e0 e_ bu:=⟨aD,(x5.trans x6) _ _ he4,(hK.same EK).c⟩;exact(hL.same EK).snoc K1 nD'
    ·rintro D ys aB H3 ⟨v,ts,rfl,rfl,s3,nD,hD,hL⟩;rw[List.length_map,dH,List.take_length] at hL;have EL:d9 H3 D ts (ks.map jU):=hL.tD;have yF:=hP.same s3;refine gU D (ts.map V.ref) (λD2 i ys aB H6=>∃(v:Option V) (ps:List Addr) (ds:List Dr),ys=ps.map V.ref/\aB = [v,some (.ref p)]/\aj H3 H6/\H3 D2=none/\mq K A.bM A.bX H6 D2 ps ds/\ds.length=i/\i<=ks.length/\∀(j:Nat) (k:Kn) (d:Dr),j<i->ks[j]? = some k->ds[j]? = some d->A2 nc k d) (λQ q=>q) EL.sq ?_ ?_ ?_ ?_
     ·intro D2 je;exact⟨none,[],[],rfl,rfl,aj.put je,je,⟨aD,rfl,λi t k e=>by simp at e⟩,rfl,Nat.zero_le _,λj k d h=>absurd h (by lia)⟩
     ·rintro D2 i ys aB H6 ⟨v,ps,ds,rfl,rfl,s6,nD,hd,dn,di,dk⟩;exact⟨hd.hl,fD (by rw[List.length_map,hd.n];lia),(EL.same s6).sq⟩
     ·rintro D2 i x ys aB H6 N hN hx ⟨v,ps,ds,rfl,rfl,s6,nD,hd,dn,di,dk⟩;obtain⟨u,hu,rfl⟩:=dM hx;have n8:=hL.n;rw[List.length_map] at n8;have hi:i<ks.length:=by rw[← n8];exact cN hu
      obtain⟨b',e_,bu,hK⟩:=(EL.same s6).t i u (jU ks[i]) hu (by rw[List.getElem?_map,List.getElem?_eq_getElem hi];rfl)
      have mH:=st.ok.ok ks[i] (List.getElem_mem hi);have ku:=aL.of (K:=K) hK.o;walk_at "rdt";have o1:=mH.m0;have o2:=mH.m1;have o3:=mH.f0;have o4:=mH.fit;refine⟨_,ku,_,rfl,_,ku,_,rfl,_,ku,_,rfl,ks[i].f,ks[i].m,0,0,none,.aP,[],rfl,?_,?_,?_,λap mk bb MP H7 s7 Ez ha x dx nx iZ eB=>?_⟩
      ·exact⟨o3,by lia,o1,o2,by decide,by decide,by decide,by decide,λx z=>(nomatch z)⟩
      ·exact .inl ⟨rfl,rfl⟩
      ·exact⟨.nil,λ_ z=>(nomatch z),λ_ z=>(nomatch z)⟩
      have MQ:=s6.trans s7;have mF:=yF.same MQ;have rz:=aj.put (o:=.own x) iZ;have eZ:upd H7 dx (.own x) x=none:=by rw[aI (Ne.symm eB)];exact nx
      have gw:=rz.trans (aj.put (o:=.ins A.bX dx []) eZ);obtain⟨op,MR⟩:=mF.here;have xp:x≠p:=(bO MR nx).symm;have xf:x∉fp:=λhb=>by
       obtain⟨ob,MS⟩:=mF.has hb;exact bO MS nx rfl
      refine⟨C,x,p,ap,dx,ks[i].n,bC z ao sk sw nc,fp,_,mk,bb,MP,rfl,aD,hC,mF.same gw,xp,xf,ha.same gw,⟨o3,by show (0:Int)<=ks[i].m;lia,o2,o4⟩,by show nc.length<=1000000;lia,λl dW H8 nl sb MT=>⟨rfl,?_⟩⟩
      have rA:aj H6 H8:=λb o e=>sb _ _ (gw _ _ (s7 _ _ e)) (bO (s7 _ _ e) nx);have lD:l≠D2:=(bO (gw _ _ (s7 _ _ hd.hl)) nl).symm;refine⟨rA _ _ hd.hl,hN _ _ _ ⟨_,ps++[x],ds++[_],by rw[List.map_append];rfl,rfl,aj.put2 (s6.trans rA) nD,nD,(hd.same rA).snoc MT lD,by simp[dn],by lia,λj k d hj e1 e2=>?_⟩⟩
      by_cases gY:j<i
      ·rw[List.getElem?_append_left (by lia)] at e2
       exact dk j k d gY e1 e2
      ·have:j=i:=by lia
       subst this;rw[List.getElem?_eq_getElem hi] at e1;rw[List.getElem?_append_right (by lia),dn,Nat.sub_self] at e2
       cases e1;cases e2;exact⟨rfl,rfl,rfl,rfl⟩
     ·rintro D2 ys aB H6 ⟨v,ps,kQ,rfl,rfl,s6,nD,hd,dn,di,dk⟩;have n8:=hL.n;rw[List.length_map] at n8;rw[List.length_map,n8] at dn;exact⟨D,D2,ks.map jU,kQ,rfl,st.reads (s3.trans s6) (EL.same s6) hd.AL dn λj k d e1 e2=>dk j k d (by rw[List.length_map,n8];exact cN e1) e1 e2⟩
   ·rintro σ H3 ⟨kl,dl,ks,ds,rfl,st⟩;walk_at "rdt";obtain⟨bN,hk⟩:=st.kn;obtain⟨ps,hd⟩:=st.du;obtain⟨za,bq,ca,qJ,cY⟩:=st.sp;obtain⟨C,fp,hC,hP⟩:=st.pl;have n7:=st.n7;have kd:=st.kd;have pk:=st.wo.pl nc;have dc:∀d∈ds,gg (bC z ao sk sw nc) d.c/\d.c.length<=1000:=λd eF=>by
     obtain⟨i,k,e1,e2⟩:=kd.at eF;have:=st.kc k (get_mem e1);rw[(kd.e i k d e1 e2).2];exact⟨this.1,by lia⟩
    have o9:∀d∈ds,∀q∈d.c,0<=q.1/\q.1<((bC z ao sk sw nc).rc.length:Int):=λd hd q hq=>⟨((dc d hd).1 q hq).1,((dc d hd).1 q hq).2.1⟩;refine⟨C,p,dl,bC z ao sk sw nc,fp,r,b,ps,ds,rfl,hC,hP,pk,st.r0,st.r1,hd,by rw[kd.n];exact n7,kd.nd,dc,λu pb lv dQ t2 hp H4 s4 nlv hu hpb hlv I h0=>?_⟩
    have W:=I.done pk o9 st.r0 st.r1 kd.nd h0;obtain⟨bV,xr,e2⟩:=W.r;refine⟨_,.tup hu,true,rfl,ite_no (by simp) ?_⟩
    refine⟨_,aL.of hu,_,rfl,_,rfl,_,rfl,ite_no (by simp) ⟨_,aL.of hu,_,rfl,pb,kl,bN,ks,_,rfl,hpb,hk.same s4,by lia,kd.up,kd.ord xr W.f,λH5 s5=>⟨_,rfl,ite_yes rfl ?_⟩⟩⟩
    refine⟨_,aL.of (s5 _ _ hu),_,rfl,λp2 lC=>?_⟩;have s6:=(s4.trans s5).trans (aj.put (o:=.tup [V.int r,V.int b]) lC);refine⟨sa,p2,kl,z,ao,sk,sw,za,bq,ca,qJ,r,b,bN,ks,rfl,cY.same s6,st.wo,st.r0,st.r1,aD,hk.same s6,st.kc,kd.up,by lia,n7,λl2 H7 s7 pQ jr=>?_⟩
    refine⟨l2,rfl,_,aA.of jr,?_,λM hM Em=>?_⟩
    ·have:=Sw kd (xr.HQ λs c=>AM z ao sk sw nc c s) W.f ks.length .nil (by rw[HN];exact Nat.le_refl _) List.nil_prefix
     rw[HN] at this;exact List.length_pos_of_mem this
    ·have e:=ae3 kd W hM Em;subst e;refine⟨rfl,?_⟩;rw[show decide (V.int t2.1=V.int t2.1)=true from decide_eq_true rfl];exact q _
end
theorem pW{C:List Value->Prop}(h:C []):∀us:List Value,us.length=0->C us:=λ| [],_=>h
theorem cK{n:Nat}{C:List Value->Prop}(h:∀a us,us.length=n->C (a::us)):∀us:List Value,us.length=n+1->C us:=λ| a::us,e=>h a us (Nat.succ.inj e)
theorem M0{K:W.Frag}{fd:FuncData}{ps:List Str}{ds:List Value}(n:Nat)(e:n+ds.length=ps.length)(h:∀s,K.In s.heap->∀us:List Value,us.length=n->BindsTo s fd ⟨us,[]⟩ (ps.zip (us++ds))):Binds K fd ps ds:=λs us X hl=>h s X us (by rw[List.length_append] at hl;lia)
theorem gO{C:List Value->Prop}(h:∀a0,C [a0]):∀us:List Value,us.length=1->C us:=cK λa0=>pW (h a0)
theorem d_{C:List Value->Prop}(h:∀a0 a1,C [a0,a1]):∀us:List Value,us.length=2->C us:=cK λa0=>cK λa1=>pW (h a0 a1)
theorem ie{C:List Value->Prop}(h:∀a0 a1 a2,C [a0,a1,a2]):∀us:List Value,us.length=3->C us:=cK λa0=>cK λa1=>cK λa2=>pW (h a0 a1 a2)
theorem jA{C:List Value->Prop}(h:∀a0 a1 a2 a3,C [a0,a1,a2,a3]):∀us:List Value,us.length=4->C us:=cK λa0=>cK λa1=>cK λa2=>cK λa3=>pW (h a0 a1 a2 a3)
theorem EM{C:List Value->Prop}(h:∀a0 a1 a2 a3 a4,C [a0,a1,a2,a3,a4]):∀us:List Value,us.length=5->C us:=cK λa0=>cK λa1=>cK λa2=>cK λa3=>cK λa4=>pW (h a0 a1 a2 a3 a4)
theorem W2{C:List Value->Prop}(h:∀a0 a1 a2 a3 a4 a5,C [a0,a1,a2,a3,a4,a5]):∀us:List Value,us.length=6->C us:=cK λa0=>cK λa1=>cK λa2=>cK λa3=>cK λa4=>cK λa5=>pW (h a0 a1 a2 a3 a4 a5)
theorem W3{C:List Value->Prop}(h:∀a0 a1 a2 a3 a4 a5 a6,C [a0,a1,a2,a3,a4,a5,a6]):∀us:List Value,us.length=7->C us:=cK λa0=>cK λa1=>cK λa2=>cK λa3=>cK λa4=>cK λa5=>cK λa6=>pW (h a0 a1 a2 a3 a4 a5 a6)
theorem ahF{C:List Value->Prop}(h:∀a0 a1 a2 a3 a4 a5 a6 a7 a8 a9,C [a0,a1,a2,a3,a4,a5,a6,a7,a8,a9]):∀us:List Value,us.length=10->C us:=cK λa0=>cK λa1=>cK λa2=>cK λa3=>cK λa4=>cK λa5=>cK λa6=>cK λa7=>cK λa8=>cK λa9=>pW (h a0 a1 a2 a3 a4 a5 a6 a7 a8 a9)
theorem all_mk{l:W.OpenLaw}{w:World}{K:W.Frag}{h:Heap}{mg:Str->Option Value}{fa:Addr}{EN M3 M4 M5 M7 EO yL ER ES M8 M9 M_ Na Nb Nc Nf ET Ng Nh Ni Nj Nk Nl Nm Nn Np Nq Nr Nt Nu Nv Nx Ny Nz NB NC ND NF yM yN yO yP yQ yR yS yT yU yV NG NH NI EU NJ NK EV NL NN NO NP NQ NR NS NT NU NV NW NY NZ N1 N6 N7 N8 N9 N_ Oa Ob:Addr}{ahG EW ahH ahI Oc ahJ ahK W4 ahL Od:Option Addr}{ahM ahN ahO ahP ahQ ahR:Array (Option Value)}{ahS EX EY EZ yW E1 ahT ahU Oe Of Og E3 Oh ahV ahW W5 W6 W7 E4 W8 ahX Oi Oj Ol E5 Om:Value}{ahY ahZ:Nat}{Oo W9:Tok}{W_ Xa Xb Xc Xd Xe Xf Xg Xh Xi Xj Xk Xl Xm Xn Xo Xp Xq Xr Xs Xu Xv Xw Xx Xy Xz XA XC XD XE XF XG XH XI XJ XM XN XO XQ XR XS XT XU XW XX XY XZ X0 X3 X4 X5 X6 X7 X8 X_ Yb Yc Yd Ye Yg Yh Yi Yj Yk Yl Ym Yn Yo Yp Yq:FuncData}{bM:Addr}{bX:Addr}{bw:Addr}{a_:Addr}{xP:Tok}{xQ:Tok}{xR:Tok}{xS:Tok}{xT:Tok}{xU:Tok}{xV:Tok}{xW:Tok}{xX:Tok}{xY:Tok}{xZ:Tok}{x8:Tok}{x9:Tok}{x_:Tok}{bf aV:Addr}{ah0:Option Addr}{Yr:Array Value}{ah1:Array (Option Value)}(X:K.In h)(G:h.Ns mainGlobals mg)(hfa:mg "law" = some (.ref fa))
  (ah2:W.nsIn K mainGlobals "Ask" = some (some (.ref bM)))
  (ah3:W.nsIn K mainGlobals "Due" = some (some (.ref bX)))
  (ah4:W.nsIn K mainGlobals "Plate" = some (some (.ref bw)))
  (ah5:W.nsIn K mainGlobals "Mended" = some (some (.ref a_)))
  (ax0:W.findIn K (.ref bM) "__init__" = some (some (.ref EN)))
  (ix0:W.isFn K (.ref EN)=true)
  (F0:aJ K "__init__" "Ask.__init__" Ii EN W_)
  (ax1:W.nsIn K mainGlobals "check_between" = some (some (.ref M3)))
  (F1:aJ K "check_between" "check_between" Ij M3 Xa)
  (ax2:W.nsIn K mainGlobals "check_behind" = some (some (.ref M4)))
  (F2:aJ K "check_behind" "check_behind" Ik M4 Xb)
  (ax3:W.nsIn K mainGlobals "check_fields" = some (some (.ref M5)))
  (F3:aJ K "check_fields" "check_fields" Il M5 Xc)
  (ax4:W.nsIn K mainGlobals "told_behind" = some (some (.ref M7)))
  (F4:aJ K "told_behind" "told_behind" Im M7 Xd)
  (ax5:W.nsIn K mainGlobals "reading" = some (some (.ref EO)))
  (lx5:K.lookup EO=some ⟨ahS,ahG,.func (W.fnOf "reading" "reading" (fV iJ) (eU iJ) (aR iJ) (.ref yL) EX EY EZ EW yW E1),ahM⟩)
  (Ys:K.lookup yL=some ⟨ahT,ahH,.seq #[.int 0 Oo,.none,.none] ahY,ahN⟩)
  (cx5:W.codeIn K yW "reading" = true)
  (kx5:W.keepIn K (.ref EO)=true)
  (ax6:W.nsIn K mainGlobals "writing" = some (some (.ref ER)))
  (lx6:K.lookup ER=some ⟨ahU,ahI,.func (W.fnOf "writing" "writing" (fV jX) (eU jX) (aR jX) (.ref ES) Oe Of Og Oc E3 Oh),ahO⟩)
  (dx6:K.lookup ES=some ⟨ahV,ahJ,.seq #[.int 0 W9,.none,.none,.bool false] ahZ,ahP⟩)
  (cx6:W.codeIn K E3 "writing" = true)
  (kx6:W.keepIn K (.ref ER)=true)
  (ax7:W.nsIn K mainGlobals "clash" = some (some (.ref M8)))
  (F7:aJ K "clash" "clash" Io M8 Xe)
  (ax8:W.nsIn K mainGlobals "heap_put" = some (some (.ref M9)))
  (F8:aJ K "heap_put" "heap_put" Ip M9 Xf)
  (ax9:W.nsIn K mainGlobals "heap_take" = some (some (.ref M_)))
  (F9:aJ K "heap_take" "heap_take" Iq M_ Xg)
  (ah6:W.nsIn K mainGlobals "lesser_child" = some (some (.ref Na)))
  (Yt:aJ K "lesser_child" "lesser_child" Ir Na Xh)
  (ah7:W.nsIn K mainGlobals "sink" = some (some (.ref Nb)))
  (Yu:aJ K "sink" "sink" Iu Nb Xi)
  (ah8:W.nsIn K mainGlobals "stretch" = some (some (.ref Nc)))
  (Yv:aJ K "stretch" "stretch" Iv Nc Xj)
  (ah9:W.nsIn K mainGlobals "stretch_by_number" = some (some (.ref Nf)))
  (Yw:aJ K "stretch_by_number" "stretch_by_number" Iw Nf Xk)
  (ah_:W.findIn K (.ref bX) "__init__" = some (some (.ref ET)))
  (aia:W.isFn K (.ref ET)=true)
  (Yx:aJ K "__init__" "Due.__init__" Iz ET Xl)
  (aib:W.nsIn K mainGlobals "next_begin" = some (some (.ref Ng)))
  (Yy:aJ K "next_begin" "next_begin" IA Ng Xm)
  (aic:W.nsIn K mainGlobals "way" = some (some (.ref Nh)))
  (Yz:aJ K "way" "way" IB Nh Xn)
  (aid:W.nsIn K mainGlobals "way_end" = some (some (.ref Ni)))
  (YA:aJ K "way_end" "way_end" IC Ni Xo)
  (aie:W.nsIn K mainGlobals "are_few" = some (some (.ref Nj)))
  (YB:aJ K "are_few" "are_few" ID Nj Xp)
  (aif:W.nsIn K mainGlobals "check_few" = some (some (.ref Nk)))
  (YC:aJ K "check_few" "check_few" IE Nk Xq)
  (aih:W.nsIn K mainGlobals "keeps_behind" = some (some (.ref Nl)))
  (YD:aJ K "keeps_behind" "keeps_behind" IF Nl Xr)
  (aii:W.nsIn K mainGlobals "behind_among" = some (some (.ref Nm)))
  (YE:aJ K "behind_among" "behind_among" IG Nm Xs)
  (aij:W.nsIn K mainGlobals "left_behind" = some (some (.ref Nn)))
  (YF:aJ K "left_behind" "left_behind" II Nn Xu)
  (aik:W.nsIn K mainGlobals "next_behind" = some (some (.ref Np)))
  (YG:aJ K "next_behind" "next_behind" IJ Np Xv)
  (ail:W.nsIn K mainGlobals "passing_beats" = some (some (.ref Nq)))
  (YH:aJ K "passing_beats" "passing_beats" IK Nq Xw)
  (aim:W.nsIn K mainGlobals "bound_of" = some (some (.ref Nr)))
  (YI:aJ K "bound_of" "bound_of" IL Nr Xx)
  (ain:W.nsIn K mainGlobals "beginning" = some (some (.ref Nt)))
  (YJ:aJ K "beginning" "beginning" IM Nt Xy)
  (aio:W.nsIn K mainGlobals "put_longer_ones" = some (some (.ref Nu)))
  (YK:aJ K "put_longer_ones" "put_longer_ones" IP Nu Xz)
  (aip:W.nsIn K mainGlobals "least_way" = some (some (.ref Nv)))
  (YL:aJ K "least_way" "least_way" IQ Nv XA)
  (aiq:W.nsIn K mainGlobals "check_zones" = some (some (.ref Nx)))
  (YM:aJ K "check_zones" "check_zones" IS Nx XC)
  (air:W.nsIn K mainGlobals "check_turning" = some (some (.ref Ny)))
  (YN:aJ K "check_turning" "check_turning" IT Ny XD)
  (ais:W.nsIn K mainGlobals "check_swing" = some (some (.ref Nz)))
  (YO:aJ K "check_swing" "check_swing" IU Nz XE)
  (ait:W.nsIn K mainGlobals "check_no_detour" = some (some (.ref NB)))
  (YQ:aJ K "check_no_detour" "check_no_detour" IV NB XF)
  (aiu:W.nsIn K mainGlobals "cells_by_ring" = some (some (.ref NC)))
  (YR:aJ K "cells_by_ring" "cells_by_ring" IW NC XG)
  (aiv:W.nsIn K mainGlobals "cells_by_number" = some (some (.ref ND)))
  (YS:aJ K "cells_by_number" "cells_by_number" IX ND XH)
  (aiw:W.nsIn K mainGlobals "numbers_by_cell" = some (some (.ref NF)))
  (YT:aJ K "numbers_by_cell" "numbers_by_cell" IY NF XI)
  (aix:W.findIn K (.ref bw) "__init__" = some (some (.ref yM)))
  (aiy:W.isFn K (.ref yM)=true)
  (Oq:aJ K "__init__" "Plate.__init__" IZ yM XJ)
  (aiz:W.findIn K (.ref bw) "rings" = some (some (.ref yN)))
  (YU:W.isFn K (.ref yN)=true)
  (aiA:W.findIn K (.ref a_) "rings" = some (some (.ref yN)))
  (E6:aJ K "rings" "Plate.rings" I0 yN XM)
  (aiB:W.findIn K (.ref bw) "total" = some (some (.ref yO)))
  (YV:W.isFn K (.ref yO)=true)
  (aiC:W.findIn K (.ref a_) "total" = some (some (.ref yO)))
  (E7:aJ K "total" "Plate.total" I_ yO XN)
  (aiD:W.findIn K (.ref bw) "beats_of" = some (some (.ref yP)))
  (YW:W.isFn K (.ref yP)=true)
  (aiE:W.findIn K (.ref a_) "beats_of" = some (some (.ref yP)))
  (E8:aJ K "beats_of" "Plate.beats_of" Ja yP XO)
  (aiF:W.findIn K (.ref bw) "lap_beats" = some (some (.ref yQ)))
  (YX:W.isFn K (.ref yQ)=true)
  (aiG:W.findIn K (.ref a_) "lap_beats" = some (some (.ref yQ)))
  (E9:aJ K "lap_beats" "Plate.lap_beats" Jb yQ XQ)
  (aiH:W.findIn K (.ref bw) "begins" = some (some (.ref yR)))
  (YY:W.isFn K (.ref yR)=true)
  (aiI:W.findIn K (.ref a_) "begins" = some (some (.ref yR)))
  (E_:aJ K "begins" "Plate.begins" Jc yR XR)
  (aiJ:W.findIn K (.ref bw) "swing_of" = some (some (.ref yS)))
  (YZ:W.isFn K (.ref yS)=true)
  (aiK:W.findIn K (.ref a_) "swing_of" = some (some (.ref yS)))
  (Fb:aJ K "swing_of" "Plate.swing_of" Jd yS XS)
  (aiL:W.findIn K (.ref bw) "has_cell" = some (some (.ref yT)))
  (Y0:W.isFn K (.ref yT)=true)
  (aiM:W.findIn K (.ref a_) "has_cell" = some (some (.ref yT)))
  (Fc:aJ K "has_cell" "Plate.has_cell" Je yT XT)
  (aiN:W.findIn K (.ref bw) "cell_at" = some (some (.ref yU)))
  (Y3:W.isFn K (.ref yU)=true)
  (aiO:W.findIn K (.ref a_) "cell_at" = some (some (.ref yU)))
  (Fd:aJ K "cell_at" "Plate.cell_at" Jf yU XU)
  (aiP:W.findIn K (.ref bw) "number_of" = some (some (.ref yV)))
  (Y4:W.isFn K (.ref yV)=true)
  (aiQ:W.findIn K (.ref a_) "number_of" = some (some (.ref yV)))
  (Fe:aJ K "number_of" "Plate.number_of" Jg yV XW)
  (aiR:W.nsIn K mainGlobals "check_spares" = some (some (.ref NG)))
  (Y5:aJ K "check_spares" "check_spares" Jh NG XX)
  (aiS:W.nsIn K mainGlobals "bad_by_cell" = some (some (.ref NH)))
  (Y6:aJ K "bad_by_cell" "bad_by_cell" Ji NH XY)
  (aiT:W.nsIn K mainGlobals "bad_numbers" = some (some (.ref NI)))
  (Y7:aJ K "bad_numbers" "bad_numbers" Jj NI XZ)
  (aiU:W.nsIn K mainGlobals "nearest_rings" = some (some (.ref EU)))
  (aiV:K.lookup EU=some ⟨ahW,ahK,.func (W.fnOf "nearest_rings" "nearest_rings" (fV fZ) (eU fZ) (aR fZ) .none W5 W6 W7 W4 E4 W8),ahQ⟩)
  (aiW:W.codeIn K E4 "nearest_rings" = true)
  (aiX:W.keepIn K (.ref EU)=true)
  (aiY:W.nsIn K mainGlobals "free_kept_cell" = some (some (.ref NJ)))
  (Y8:aJ K "free_kept_cell" "free_kept_cell" Jk NJ X0)
  (aiZ:W.nsIn K mainGlobals "lay_elsewhere" = some (some (.ref NK)))
  (Y9:aJ K "lay_elsewhere" "lay_elsewhere" Jl NK X3)
  (ai0:W.findIn K (.ref a_) "__init__" = some (some (.ref EV)))
  (ai1:W.isFn K (.ref EV)=true)
  (Y_:aJ K "__init__" "Mended.__init__" Jm EV X4)
  (ai2:W.nsIn K mainGlobals "_law_cell_at" = some (some (.ref NL)))
  (Za:aJ K "_law_cell_at" "_law_cell_at" Jo NL X5)
  (ai3:W.nsIn K mainGlobals "_law_stream" = some (some (.ref NN)))
  (Zb:aJ K "_law_stream" "_law_stream" Jp NN X6)
  (ai4:W.nsIn K mainGlobals "_law_swing" = some (some (.ref NO)))
  (Zc:aJ K "_law_swing" "_law_swing" Jq NO X7)
  (ai5:W.nsIn K mainGlobals "_law_spec" = some (some (.ref NP)))
  (Zd:aJ K "_law_spec" "_law_spec" Jr NP X8)
  (ai6:W.nsIn K mainGlobals "_law_plate" = some (some (.ref NQ)))
  (Ze:aJ K "_law_plate" "_law_plate" Js NQ X_)
  (ai7:W.nsIn K mainGlobals "_law_walk" = some (some (.ref NR)))
  (Zf:aJ K "_law_walk" "_law_walk" Jt NR Yb)
  (ai8:W.nsIn K mainGlobals "_law_behind_way" = some (some (.ref NS)))
  (Zg:aJ K "_law_behind_way" "_law_behind_way" Ju NS Yc)
  (ai9:W.nsIn K mainGlobals "_law_beside" = some (some (.ref NT)))
  (Zh:aJ K "_law_beside" "_law_beside" Jv NT Yd)
  (ai_:W.nsIn K mainGlobals "_law_tight" = some (some (.ref NU)))
  (Zi:aJ K "_law_tight" "_law_tight" Jw NU Ye)
  (aja:W.nsIn K mainGlobals "_law_known" = some (some (.ref NV)))
  (Zj:aJ K "_law_known" "_law_known" Jx NV Yg)
  (ajb:W.nsIn K mainGlobals "_law_ask" = some (some (.ref NW)))
  (Zk:aJ K "_law_ask" "_law_ask" Jy NW Yh)
  (ajc:W.nsIn K mainGlobals "_law_keeps" = some (some (.ref NY)))
  (Zl:aJ K "_law_keeps" "_law_keeps" Jz NY Yi)
  (ajd:W.nsIn K mainGlobals "_law_free_ones" = some (some (.ref NZ)))
  (Zm:aJ K "_law_free_ones" "_law_free_ones" JA NZ Yj)
  (aje:W.nsIn K mainGlobals "_law_whole" = some (some (.ref N1)))
  (Zo:aJ K "_law_whole" "_law_whole" JB N1 Yk)
  (ajf:W.nsIn K mainGlobals "_law_without" = some (some (.ref N6)))
  (Zp:aJ K "_law_without" "_law_without" JC N6 Yl)
  (ajg:W.nsIn K mainGlobals "_law_spot" = some (some (.ref N7)))
  (Zq:aJ K "_law_spot" "_law_spot" JD N7 Ym)
  (ajh:W.nsIn K mainGlobals "_law_numbers" = some (some (.ref N8)))
  (Zr:aJ K "_law_numbers" "_law_numbers" JE N8 Yn)
  (aji:W.nsIn K mainGlobals "_law_is_order" = some (some (.ref N9)))
  (Zu:aJ K "_law_is_order" "_law_is_order" JF N9 Yo)
  (ajj:W.nsIn K mainGlobals "_law_start" = some (some (.ref N_)))
  (Zv:aJ K "_law_start" "_law_start" JG N_ Yp)
  (ajk:W.nsIn K mainGlobals "_law_ends" = some (some (.ref Oa)))
  (Zw:aJ K "_law_ends" "_law_ends" JH Oa Yq)
  (Zx:W.nsIn K mainGlobals "law" = some (some (.ref Ob)))
  (ajl:K.lookup Ob=some ⟨ahX,ahL,.func (W.fnOf "law" "law" (fV jY) (eU jY) (aR jY) .none Oi Oj Ol Od E5 Om),ahR⟩)
  (ajm:W.codeIn K E5 "law" = true)
  (ajn:W.keepIn K (.ref Ob)=true)
  (ajo:W.plainGet K bM Str.empty=true)
  (ajp:W.hasDictIn K bM=true)
  (ajq:W.plainOver K bM=true)
  (ajr:W.findIn K (.ref bM) "__setattr__" = some (some (.builtin "object.__setattr__")))
  (ajs:W.makesIn K bM=true)
  (ajt:W.keepIn K (.ref bM)=true)
  (Ls:W.findIn K (.ref bM) "kind" = some none)
  (Lu:W.findIn K (.ref bM) "first" = some none)
  (Lv:W.findIn K (.ref bM) "many" = some none)
  (Lw:W.findIn K (.ref bM) "marks" = some none)
  (Lx:W.findIn K (.ref bM) "at" = some none)
  (Ly:W.findIn K (.ref bM) "asker" = some none)
  (Lz:W.findIn K (.ref bM) "latest" = some none)
  (LA:W.findIn K (.ref bM) "behind" = some none)
  (LB:W.findIn K (.ref bM) "early" = some none)
  (aju:W.plainGet K bX Str.empty=true)
  (ajv:W.hasDictIn K bX=true)
  (ajw:W.plainOver K bX=true)
  (ajx:W.findIn K (.ref bX) "__setattr__" = some (some (.builtin "object.__setattr__")))
  (ajy:W.makesIn K bX=true)
  (ajz:W.keepIn K (.ref bX)=true)
  (yg:W.findIn K (.ref bX) "number" = some none)
  (LF:W.findIn K (.ref bX) "ask" = some none)
  (DZ:W.findIn K (.ref bX) "cells" = some none)
  (ajA:W.plainGet K bw Str.empty=true)
  (ajB:W.hasDictIn K bw=true)
  (ajC:W.plainOver K bw=true)
  (ajD:W.findIn K (.ref bw) "__setattr__" = some (some (.builtin "object.__setattr__")))
  (ajE:W.makesIn K bw=true)
  (ajF:W.keepIn K (.ref bw)=true)
  (D4:W.findIn K (.ref bw) "ring_cells" = some none)
  (D5:W.findIn K (.ref bw) "lap" = some none)
  (D6:W.findIn K (.ref bw) "skew" = some none)
  (D7:W.findIn K (.ref bw) "swing" = some none)
  (D8:W.findIn K (.ref bw) "number_cells" = some none)
  (D9:W.findIn K (.ref bw) "cell_numbers" = some none)
  (ajG:W.plainGet K a_ Str.empty=true)
  (ajH:W.hasDictIn K a_=true)
  (ajI:W.plainOver K a_=true)
  (ajJ:W.findIn K (.ref a_) "__setattr__" = some (some (.builtin "object.__setattr__")))
  (ajK:W.makesIn K a_=true)
  (ajL:W.keepIn K (.ref a_)=true)
  (D_:W.findIn K (.ref a_) "ring_cells" = some none)
  (Ea:W.findIn K (.ref a_) "lap" = some none)
  (Eb:W.findIn K (.ref a_) "skew" = some none)
  (Ec:W.findIn K (.ref a_) "swing" = some none)
  (Ed:W.findIn K (.ref a_) "number_cells" = some none)
  (Ef:W.findIn K (.ref a_) "cell_numbers" = some none)
  (Eg:W.findIn K (.ref a_) "moves" = some none)
  (ajM:W.specialIn K (.ref bw) "__getattribute__" = some (some (.builtin "type.__getattribute__")))
  (ajN:W.readsIn K bw (.type "type")=true)
  (ajO:W.findCls K (.ref bw) (.type "type") "__init__" = some (.val (.ref yM)))
  (Ll:W.findIn K (.ref a_) "__class__" = some (some (.builtin "object.__class__")))
  (Lm:W.specialIn K (.builtin "object.__class__") "__get__" = some (some (.builtin "getset_descriptor.__get__")))
  (Ln:W.takesIn K (.builtin "object.__class__")=some true)
  (Lo:W.mroIn K a_ (.type "object")=some true)
  (Lp:W.kitOne K (.ref a_) (.ref bw)=some true)
  (ajP:W.nsIn K mainGlobals "MOST_CELLS" = some (some (.int 16 xP)))
  (ajQ:W.nsIn K mainGlobals "GREATEST_FIRST" = some (some (.int 1000000 xQ)))
  (ajR:W.nsIn K mainGlobals "GREATEST_MARK" = some (some (.int 1000000000 xR)))
  (ajS:W.nsIn K mainGlobals "GREATEST_AT" = some (some (.int 1000000000000 xS)))
  (ajT:W.nsIn K mainGlobals "GREATEST_ASKER" = some (some (.int 20 xT)))
  (ajU:W.nsIn K mainGlobals "GREATEST_LATEST" = some (some (.int 10000000000000 xU)))
  (ajV:W.nsIn K mainGlobals "GREATEST_BEHIND" = some (some (.int 99 xV)))
  (ajW:W.nsIn K mainGlobals "MOST_DUES" = some (some (.int 7 xW)))
  (ajX:W.nsIn K mainGlobals "MOST_ZONES" = some (some (.int 5 xX)))
  (ajY:W.nsIn K mainGlobals "MOST_RINGS_IN_ZONE" = some (some (.int 40 xY)))
  (ajZ:W.nsIn K mainGlobals "MOST_CELLS_IN_RING" = some (some (.int 60 xZ)))
  (aj0:W.nsIn K mainGlobals "LEAST_RINGS" = some (some (.int 2 x8)))
  (aj1:W.nsIn K mainGlobals "MOST_RINGS" = some (some (.int 120 x9)))
  (aj2:W.nsIn K mainGlobals "MOST_BEATS" = some (some (.int 1000000000 x_)))
  (uh:W.nsIn K mainGlobals "abs" = some none)
  (Eh:W.nsIn K mainGlobals "all" = some none)
  (Ei:W.nsIn K mainGlobals "bool" = some none)
  (Ej:W.nsIn K mainGlobals "dict" = some none)
  (um:W.nsIn K mainGlobals "enumerate" = some none)
  (qX:W.nsIn K mainGlobals "int" = some none)
  (qY:W.nsIn K mainGlobals "isinstance" = some none)
  (dm:W.nsIn K mainGlobals "len" = some none)
  (nR:W.nsIn K mainGlobals "list" = some none)
  (Ek:W.nsIn K mainGlobals "max" = some none)
  (nT:W.nsIn K mainGlobals "min" = some none)
  (eY:W.nsIn K mainGlobals "range" = some none)
  (uo:W.nsIn K mainGlobals "sorted" = some none)
  (uq:W.nsIn K mainGlobals "sum" = some none)
  (pI:W.nsIn K mainGlobals "tuple" = some none)
  (aj3:E4 = .ref bf)
  (alN:K.lookup bf=some ⟨.type "code",ah0,.fields Yr,ah1⟩)
  (alO:Yr[11]? = some (.ref aV))
  (aj4:W.codeHdIn K bf aV=true)
  (aj5:h.get? aV=some (W.tabObj #[]))
  : ∃(fd:FuncData) (tabs:List (Addr×Addr)),(∀(s:Shared) (v:Value),BindsTo s fd ⟨[v],[]⟩ [("_law_script",v)])/\W.TabsAt tabs h/\∀base:Heap,K.In base->base.Ns mainGlobals mg->(∀q∈tabs,bx mg base q.1 q.2)->aX l.prog w K mg base br 13 fa fd ["_law_script"] (AE K tabs):=by
 have e:=hfa.symm.trans (W.mg_of X G Zx);cases e;have F5:=Qy (st:=iJ) lx5 cx5 kx5;have F6:=Qy (st:=jX) lx6 cx6 kx6;have Zy:=fun_mk (st:=fZ) aiV aiW aiX;have Zz:=fun_mk (st:=jY) ajl ajm ajn;have b0:=F0.binds (ps:=["self", "kind", "first", "many", "marks", "at", "asker", "latest", "behind", "early"]) λ_ _ _ _ _ _=>ahF (λ_ _ _ _ _ _ _ _ _ _=>rfl)
 have b1:=F1.binds (ps:=["number", "least", "greatest", "words"]) λ_ _ _ _ _ _=>jA (λ_ _ _ _=>rfl);have b2:=F2.binds (ps:=["behind"]) λ_ _ _ _ _ _=>gO (λ_=>rfl)
 have b3:=F3.binds (ps:=["first", "many", "at", "asker", "latest", "behind"]) λ_ _ _ _ _ _=>W2 (λ_ _ _ _ _ _=>rfl)
 have b4:=F4.binds (ps:=["behind"]) λ_ _ _ _ _ _=>gO (λ_=>rfl)
 have aj6:Binds K (W.fnOf "reading" "reading" (fV iJ) (eU iJ) (aR iJ) (.ref yL) EX EY EZ EW yW E1) ["first", "many", "at", "asker", "latest", "behind"] [.int 0 Oo,.none,.none]:=M0 3 rfl λs X=>ie λ_ _ _=>W.binds_K X rfl Ys rfl rfl rfl
 have aj7:Binds K (W.fnOf "reading" "reading" (fV iJ) (eU iJ) (aR iJ) (.ref yL) EX EY EZ EW yW E1) ["first", "many", "at", "asker", "latest", "behind"] []:=M0 6 rfl λs X=>W2 λ_ _ _ _ _ _=>W.binds_K X rfl Ys rfl rfl rfl
 have aj8:Binds K (W.fnOf "writing" "writing" (fV jX) (eU jX) (aR jX) (.ref ES) Oe Of Og Oc E3 Oh) ["first", "marks", "at", "asker", "latest", "behind", "early"] []:=M0 7 rfl λs X=>W3 λ_ _ _ _ _ _ _=>W.binds_K X rfl dx6 rfl rfl rfl
 have b7:=F7.binds (ps:=["one", "other"]) λ_ _ _ _ _ _=>d_ (λ_ _=>rfl);have b8:=F8.binds (ps:=["heap", "thing"]) λ_ _ _ _ _ _=>d_ (λ_ _=>rfl);have b9:=F9.binds (ps:=["heap"]) λ_ _ _ _ _ _=>gO (λ_=>rfl)
 have b10:=Yt.binds (ps:=["heap", "at"]) λ_ _ _ _ _ _=>d_ (λ_ _=>rfl);have b11:=Yu.binds (ps:=["heap", "thing"]) λ_ _ _ _ _ _=>d_ (λ_ _=>rfl);have b12:=Yv.binds (ps:=["plate", "ask"]) λ_ _ _ _ _ _=>d_ (λ_ _=>rfl);have b13:=Yw.binds (ps:=["plate", "number", "ask"]) λ_ _ _ _ _ _=>ie (λ_ _ _=>rfl);have b14:=Yx.binds (ps:=["self", "plate", "number", "ask"]) λ_ _ _ _ _ _=>jA (λ_ _ _ _=>rfl);have b15:=Yy.binds (ps:=["plate", "ring", "place", "beat"]) λ_ _ _ _ _ _=>jA (λ_ _ _ _=>rfl);have b16:=Yz.binds (ps:=["plate", "ring", "beat", "cells"]) λ_ _ _ _ _ _=>jA (λ_ _ _ _=>rfl);have b17:=YA.binds (ps:=["plate", "ring", "beat", "cells"]) λ_ _ _ _ _ _=>jA (λ_ _ _ _=>rfl);have b18:=YB.binds (ps:=["dues"]) λ_ _ _ _ _ _=>gO (λ_=>rfl)
 have b19:=YC.binds (ps:=["dues"]) λ_ _ _ _ _ _=>gO (λ_=>rfl)
 have b20:=YD.binds (ps:=["due", "other"]) λ_ _ _ _ _ _=>d_ (λ_ _=>rfl);have b21:=YE.binds (ps:=["dues"]) λ_ _ _ _ _ _=>gO (λ_=>rfl)
 have b22:=YF.binds (ps:=["dues", "begun"]) λ_ _ _ _ _ _=>d_ (λ_ _=>rfl);have b23:=YG.binds (ps:=["dues", "kept", "begun"]) λ_ _ _ _ _ _=>ie (λ_ _ _=>rfl);have b24:=YH.binds (ps:=["plate", "due"]) λ_ _ _ _ _ _=>d_ (λ_ _=>rfl);have b25:=YI.binds (ps:=["plate", "ring", "beat", "dues"]) λ_ _ _ _ _ _=>jA (λ_ _ _ _=>rfl);have b26:=YJ.binds (ps:=["plate", "dues", "begun", "stop"]) λ_ _ _ _ _ _=>jA (λ_ _ _ _=>rfl);have b27:=YK.binds (ps:=["heap", "plate", "dues", "kept", "node"]) λ_ _ _ _ _ _=>EM (λ_ _ _ _ _=>rfl);have b28:=YL.binds (ps:=["plate", "ring", "beat", "dues"]) λ_ _ _ _ _ _=>jA (λ_ _ _ _=>rfl);have b29:=YM.binds (ps:=["zones"]) λ_ _ _ _ _ _=>gO (λ_=>rfl)
 have b30:=YN.binds (ps:=["zones", "lap", "skew"]) λ_ _ _ _ _ _=>ie (λ_ _ _=>rfl);have b31:=YO.binds (ps:=["swing", "rings"]) λ_ _ _ _ _ _=>d_ (λ_ _=>rfl);have b32:=YQ.binds (ps:=["swing"]) λ_ _ _ _ _ _=>gO (λ_=>rfl)
 have b33:=YR.binds (ps:=["zones"]) λ_ _ _ _ _ _=>gO (λ_=>rfl)
 have b34:=YS.binds (ps:=["ring_cells", "spares"]) λ_ _ _ _ _ _=>d_ (λ_ _=>rfl);have b35:=YT.binds (ps:=["number_cells"]) λ_ _ _ _ _ _=>gO (λ_=>rfl)
 have b36:=Oq.binds (ps:=["self", "zones", "lap", "skew", "swing"]) λ_ _ _ _ _ _=>EM (λ_ _ _ _ _=>rfl);have b37:=E6.binds (ps:=["self"]) λ_ _ _ _ _ _=>gO (λ_=>rfl)
 have b38:=E7.binds (ps:=["self"]) λ_ _ _ _ _ _=>gO (λ_=>rfl)
 have b39:=E8.binds (ps:=["self", "ring"]) λ_ _ _ _ _ _=>d_ (λ_ _=>rfl);have b40:=E9.binds (ps:=["self"]) λ_ _ _ _ _ _=>gO (λ_=>rfl)
 have b41:=E_.binds (ps:=["self", "ring", "place"]) λ_ _ _ _ _ _=>ie (λ_ _ _=>rfl);have b42:=Fb.binds (ps:=["self", "ring", "other"]) λ_ _ _ _ _ _=>ie (λ_ _ _=>rfl);have b43:=Fc.binds (ps:=["self", "ring", "place"]) λ_ _ _ _ _ _=>ie (λ_ _ _=>rfl);have b44:=Fd.binds (ps:=["self", "number"]) λ_ _ _ _ _ _=>d_ (λ_ _=>rfl);have b45:=Fe.binds (ps:=["self", "ring", "place"]) λ_ _ _ _ _ _=>ie (λ_ _ _=>rfl);have b46:=Y5.binds (ps:=["spares", "ring_cells"]) λ_ _ _ _ _ _=>d_ (λ_ _=>rfl);have b47:=Y6.binds (ps:=["plate", "bad"]) λ_ _ _ _ _ _=>d_ (λ_ _=>rfl);have b48:=Y7.binds (ps:=["number_cells", "bad_cells"]) λ_ _ _ _ _ _=>d_ (λ_ _=>rfl);have b49:=Zy.binds (ps:=["ring", "rings"]) λ_ _ _ _ _ _=>d_ (λ_ _=>rfl);have b50:=Y8.binds (ps:=["ring_cells", "spares", "ring", "used"]) λ_ _ _ _ _ _=>jA (λ_ _ _ _=>rfl);have b51:=Y9.binds (ps:=["ring_cells", "spares", "number_cells", "bad_cells"]) λ_ _ _ _ _ _=>jA (λ_ _ _ _=>rfl);have b52:=Y_.binds (ps:=["self", "zones", "lap", "skew", "swing", "spares", "bad"]) λ_ _ _ _ _ _=>W3 (λ_ _ _ _ _ _ _=>rfl);have b53:=Za.binds (ps:=["_law_script", "_law_k"]) λ_ _ _ _ _ _=>d_ (λ_ _=>rfl);have b54:=Zb.binds (ps:=["_law_cell", "_law_many"]) λ_ _ _ _ _ _=>d_ (λ_ _=>rfl);have b55:=Zc.binds (ps:=["_law_xs", "_law_rings"]) λ_ _ _ _ _ _=>d_ (λ_ _=>rfl);have b56:=Zd.binds (ps:=["_law_cell", "_law_more"]) λ_ _ _ _ _ _=>d_ (λ_ _=>rfl);have b57:=Ze.binds (ps:=["_law_spec_here", "_law_cell"]) λ_ _ _ _ _ _=>d_ (λ_ _=>rfl);have b58:=Zf.binds (ps:=["_law_spec_here", "_law_ring", "_law_beat", "_law_cells"]) λ_ _ _ _ _ _=>jA (λ_ _ _ _=>rfl);have b59:=Zg.binds (ps:=["_law_spec_here", "_law_ring", "_law_beat", "_law_cells"]) λ_ _ _ _ _ _=>jA (λ_ _ _ _=>rfl);have b60:=Zh.binds (ps:=["_law_plate_here", "_law_spec_here", "_law_spot_here", "_law_cell"]) λ_ _ _ _ _ _=>jA (λ_ _ _ _=>rfl);have b61:=Zi.binds (ps:=["_law_spec_here", "_law_spot_here", "_law_known_here"]) λ_ _ _ _ _ _=>ie (λ_ _ _=>rfl);have b62:=Zj.binds (ps:=["_law_script", "_law_plate_here", "_law_spec_here", "_law_spot_here", "_law_most"]) λ_ _ _ _ _ _=>EM (λ_ _ _ _ _=>rfl);have b63:=Zk.binds (ps:=["_law_one", "_law_cell"]) λ_ _ _ _ _ _=>d_ (λ_ _=>rfl);have b64:=Zl.binds (ps:=["_law_one", "_law_other"]) λ_ _ _ _ _ _=>d_ (λ_ _=>rfl);have b65:=Zm.binds (ps:=["_law_known_here"]) λ_ _ _ _ _ _=>gO (λ_=>rfl)
 have b66:=Zo.binds (ps:=["_law_found"]) λ_ _ _ _ _ _=>gO (λ_=>rfl)
 have b67:=Zp.binds (ps:=["_law_known_here", "_law_begun"]) λ_ _ _ _ _ _=>d_ (λ_ _=>rfl);have b68:=Zq.binds (ps:=["_law_spec_here", "_law_ring", "_law_beat", "_law_known_here", "_law_begun"]) λ_ _ _ _ _ _=>EM (λ_ _ _ _ _=>rfl);have b69:=Zr.binds (ps:=["_law_found"]) λ_ _ _ _ _ _=>gO (λ_=>rfl)
 have b70:=Zu.binds (ps:=["_law_found", "_law_known_here"]) λ_ _ _ _ _ _=>d_ (λ_ _=>rfl);have b71:=Zv.binds (ps:=["_law_script", "_law_most"]) λ_ _ _ _ _ _=>d_ (λ_ _=>rfl);have b72:=Zw.binds (ps:=["_law_spec_here", "_law_spot_here", "_law_known_here"]) λ_ _ _ _ _ _=>ie (λ_ _ _=>rfl);have b73:=Zz.binds (ps:=["_law_script"]) λ_ _ _ _ _ _=>gO (λ_=>rfl)
 let A:i_:={ Ba:=EN,Bb:=W_,Bc:=M3,Bd:=Xa,Be:=M4,Bf:=Xb,Bg:=M5,Bh:=Xc,Bj:=M7,Bk:=Xd,Bl:=EO,xJ:=(W.fnOf "reading" "reading" (fV iJ) (eU iJ) (aR iJ) (.ref yL) EX EY EZ EW yW E1),JO:=Oo,Bm:=ER,Bo:=(W.fnOf "writing" "writing" (fV jX) (eU jX) (aR jX) (.ref ES) Oe Of Og Oc E3 Oh),afG:=W9,Bp:=M8,Bq:=Xe,Br:=M9,Bs:=Xf,Bt:=M_,Bu:=Xg,Bv:=Na,Bw:=Xh,Bx:=Nb,By:=Xi,BA:=Nc,BB:=Xj,BC:=Nf,BD:=Xk,BE:=ET,BF:=Xl,BG:=Ng,BH:=Xm,BI:=Nh,BJ:=Xn,BK:=Ni,BL:=Xo,BN:=Nj,BO:=Xp,BP:=Nk,BQ:=Xq,BR:=Nl,BS:=Xr,BU:=Nm,BV:=Xs,BW:=Nn,BX:=Xu,BY:=Np,BZ:=Xv,B0:=Nq,B3:=Xw,B4:=Nr,B5:=Xx,B6:=Nt,B7:=Xy,B8:=Nu,B9:=Xz,B_:=Nv,Ca:=XA,Cb:=Nx,Cc:=XC,Cd:=Ny,Ce:=XD,Cf:=Nz,Cg:=XE,Ci:=NB,Cj:=XF,Ck:=NC,Cm:=XG,Cn:=ND,Co:=XH,Cp:=NF,Cq:=XI,xK:=yM,Cr:=XJ,tV:=yN,Cs:=XM,tW:=yO,Ct:=XN,tX:=yP,Cu:=XO,tY:=yQ,Cv:=XQ,tZ:=yR,Cw:=XR,t_:=yS,Cy:=XS,uc:=yT,Cz:=XT,ue:=yU,CB:=XU,uf:=yV,CC:=XW,CF:=NG,CG:=XX,CH:=NH,CI:=XY,CJ:=NI,CK:=XZ,xM:=EU,ug:=(W.fnOf "nearest_rings" "nearest_rings" (fV fZ) (eU fZ) (aR fZ) .none W5 W6 W7 W4 E4 W8),CL:=NJ,CM:=X0,CN:=NK,CO:=X3,CQ:=EV,CS:=X4,CT:=NL,CU:=X5,CV:=NN,CW:=X6,CY:=NO,CZ:=X7,C0:=NP,C1:=X8,C2:=NQ,C3:=X_,C4:=NR,C5:=Yb,C6:=NS,C7:=Yc,C8:=NT,C9:=Yd,C_:=NU,Dc:=Ye,Dd:=NV,De:=Yg,Df:=NW,Dg:=Yh,Dh:=NY,Di:=Yi,Dj:=NZ,Dk:=Yj,Dm:=N1,Dn:=Yk,Dp:=N6,Dq:=Yl,Ds:=N7,Dt:=Ym,Du:=N8,Dv:=Yn,Dw:=N9,Dy:=Yo,Dz:=N_,DA:=Yp,xN:=Oa,xO:=Yq,DB:=fa,DC:=(W.fnOf "law" "law" (fV jY) (eU jY) (aR jY) .none Oi Oj Ol Od E5 Om),bM:=bM,bX:=bX,bw:=bw,a_:=a_,xP:=xP,xQ:=xQ,xR:=xR,xS:=xS,xT:=xT,xU:=xU,xV:=xV,xW:=xW,xX:=xX,xY:=xY,xZ:=xZ,x8:=x8,x9:=x9,x_:=x_,bf:=bf,aV:=aV }
 have T:Tx K mg A:={ SV:=F0,JP:=b0,nQ:=F1,pG:=b1,pH:=W.mg_of X G ax1,JQ:=F2,SW:=b2,SX:=W.mg_of X G ax2,DE:=F3,JR:=b3,JS:=W.mg_of X G ax3,DF:=F4,JT:=b4,JU:=W.mg_of X G ax4,DG:=F5,SY:=aj6,S0:=aj7,JV:=W.mg_of X G ax5,JW:=F6,S2:=aj8,S3:=W.mg_of X G ax6,JX:=F7,S4:=b7,S5:=W.mg_of X G ax7,JY:=F8,S6:=b8,S7:=W.mg_of X G ax8,JZ:=F9,S8:=b9,S9:=W.mg_of X G ax9,DH:=Yt,J0:=b10,J4:=W.mg_of X G ah6,J5:=Yu,S_:=b11,Tc:=W.mg_of X G ah7,J6:=Yv,Td:=b12,Te:=W.mg_of X G ah8,J7:=Yw,Tf:=b13,Tg:=W.mg_of X G ah9,Ti:=Yx,J8:=b14,J9:=Yy,Tj:=b15,Tn:=W.mg_of X G aib,J_:=Yz,To:=b16,Tp:=W.mg_of X G aic,DI:=YA,Ka:=b17,Kc:=W.mg_of X G aid,Ke:=YB,Tq:=b18,Tr:=W.mg_of X G aie,Kf:=YC,Tt:=b19,Tu:=W.mg_of X G aif,Kg:=YD,Tv:=b20,Tw:=W.mg_of X G aih,Kh:=YE,Tz:=b21,TF:=W.mg_of X G aii,DJ:=YF,Kl:=b22,Km:=W.mg_of X G aij,Ko:=YG,TH:=b23,TJ:=W.mg_of X G aik,Kq:=YH,TL:=b24,TM:=W.mg_of X G ail,Kr:=YI,TN:=b25,TQ:=W.mg_of X G aim,DK:=YJ,Ks:=b26,Ku:=W.mg_of X G ain,Kv:=YK,TR:=b27,TU:=W.mg_of X G aio,Kw:=YL,TV:=b28,TX:=W.mg_of X G aip,Ky:=YM,TY:=b29,TZ:=W.mg_of X G aiq,Kz:=YN,T3:=b30,T4:=W.mg_of X G air,KA:=YO,T5:=b31,T6:=W.mg_of X G ais,KC:=YQ,T7:=b32,T8:=W.mg_of X G ait,KD:=YR,T9:=b33,T_:=W.mg_of X G aiu,DM:=YS,KG:=b34,KH:=W.mg_of X G aiv,DN:=YT,KI:=b35,KJ:=W.mg_of X G aiw,Ua:=Oq,KL:=b36,Ub:=E6,afH:=b37,Uc:=⟨aiz,YU,E6.kp⟩,Ud:=⟨aiA,YU,E6.kp⟩,Ue:=E7,ya:=b38,Ug:=⟨aiB,YV,E7.kp⟩,Uh:=⟨aiC,YV,E7.kp⟩,Ui:=E8,DO:=b39,Uj:=⟨aiD,YW,E8.kp⟩,Uk:=⟨aiE,YW,E8.kp⟩,Ul:=E9,Um:=b40,Uo:=⟨aiF,YX,E9.kp⟩,Uq:=⟨aiG,YX,E9.kp⟩,Ur:=E_,Ut:=b41,Uu:=⟨aiH,YY,E_.kp⟩,Uv:=⟨aiI,YY,E_.kp⟩,Uw:=Fb,Ux:=b42,Uy:=⟨aiJ,YZ,Fb.kp⟩,Uz:=⟨aiK,YZ,Fb.kp⟩,UA:=Fc,KN:=b43,UB:=⟨aiL,Y0,Fc.kp⟩,UC:=⟨aiM,Y0,Fc.kp⟩,UD:=Fd,KO:=b44,UE:=⟨aiN,Y3,Fd.kp⟩,UG:=⟨aiO,Y3,Fd.kp⟩,UH:=Fe,KP:=b45,UI:=⟨aiP,Y4,Fe.kp⟩,UJ:=⟨aiQ,Y4,Fe.kp⟩,KQ:=Y5,UK:=b46,UL:=W.mg_of X G aiR,KR:=Y6,UM:=b47,UN:=W.mg_of X G aiS,KS:=Y7,UO:=b48,UP:=W.mg_of X G aiT,KU:=Zy,UQ:=b49,UR:=W.mg_of X G aiU,KW:=Y8,US:=b50,UT:=W.mg_of X G aiY,KY:=Y9,UU:=b51,UW:=W.mg_of X G aiZ,UX:=Y_,UY:=b52,j8:=Za,lg:=b53,lq:=W.mg_of X G ai2,yc:=Zb,DP:=b54,DQ:=W.mg_of X G ai3,KZ:=Zc,UZ:=b55,U0:=W.mg_of X G ai4,K3:=Zd,U1:=b56,U3:=W.mg_of X G ai5,K4:=Ze,U4:=b57,U5:=W.mg_of X G ai6,K5:=Zf,U6:=b58,U7:=W.mg_of X G ai7,yd:=Zg,DR:=b59,DS:=W.mg_of X G ai8,K6:=Zh,U8:=b60,U9:=W.mg_of X G ai9,K7:=Zi,U_:=b61,Va:=W.mg_of X G ai_,K8:=Zj,Vb:=b62,Vc:=W.mg_of X G aja,K9:=Zk,Vd:=b63,Ve:=W.mg_of X G ajb,K_:=Zl,Vf:=b64,Vg:=W.mg_of X G ajc,yf:=Zm,DT:=b65,DU:=W.mg_of X G ajd,DV:=Zo,La:=b66,Lb:=W.mg_of X G aje,DW:=Zp,Lc:=b67,Ld:=W.mg_of X G ajf,Le:=Zq,Vh:=b68,Vi:=W.mg_of X G ajg,Lf:=Zr,Vj:=b69,Vk:=W.mg_of X G ajh,Lh:=Zu,Vl:=b70,Vm:=W.mg_of X G aji,Li:=Zv,Vn:=b71,Vo:=W.mg_of X G ajj,DX:=Zw,Lj:=b72,Lk:=W.mg_of X G ajk,Vp:=Zz,afI:=b73,afJ:=W.mg_of X G Zx,afK:=⟨ajo,ajp,ajq,ajr⟩,Lq:=⟨ajs,ax0,ix0,ajt⟩,Lr:=W.mg_of X G ah2,Ls:=Ls,Lu:=Lu,Lv:=Lv,Lw:=Lw,Lx:=Lx,Ly:=Ly,Lz:=Lz,LA:=LA,LB:=LB,DY:=⟨aju,ajv,ajw,ajx⟩,LC:=⟨ajy,ah_,aia,ajz⟩,LD:=W.mg_of X G ah3,yg:=yg,LF:=LF,DZ:=DZ,lz:=⟨ajA,ajB,ajC,ajD⟩,Vr:=⟨ajE,aix,aiy,ajF⟩,LG:=W.mg_of X G ah4,D4:=D4,D5:=D5,D6:=D6,D7:=D7,D8:=D8,D9:=D9,lA:=⟨ajG,ajH,ajI,ajJ⟩,Vs:=⟨ajK,ai0,ai1,ajL⟩,Vt:=W.mg_of X G ah5,D_:=D_,Ea:=Ea,Eb:=Eb,Ec:=Ec,Ed:=Ed,Ef:=Ef,Eg:=Eg,Vq:=⟨ajM,ajN,ajO,Oq.kp⟩,Ll:=Ll,Lm:=Lm,Ln:=Ln,Lo:=Lo,Lp:=Lp,Vu:=W.mg_of X G ajP,Vv:=W.mg_of X G ajQ,Vw:=W.mg_of X G ajR,Vx:=W.mg_of X G ajS,Vy:=W.mg_of X G ajT,Vz:=W.mg_of X G ajU,VA:=W.mg_of X G ajV,VB:=W.mg_of X G ajW,VC:=W.mg_of X G ajX,VD:=W.mg_of X G ajY,VE:=W.mg_of X G ajZ,VF:=W.mg_of X G aj0,VG:=W.mg_of X G aj1,LH:=W.mg_of X G aj2,uh:=W.mg_none_of X G uh,Eh:=W.mg_none_of X G Eh,Ei:=W.mg_none_of X G Ei,Ej:=W.mg_none_of X G Ej,um:=W.mg_none_of X G um,qX:=W.mg_none_of X G qX,qY:=W.mg_none_of X G qY,dm:=W.mg_none_of X G dm,nR:=W.mg_none_of X G nR,Ek:=W.mg_none_of X G Ek,nT:=W.mg_none_of X G nT,eY:=W.mg_none_of X G eY,uo:=W.mg_none_of X G uo,uq:=W.mg_none_of X G uq,pI:=W.mg_none_of X G pI,VH:=aj3 };have hT:W.TabsAt [(bf,aV)] h:=by
  intro q hq;simp only[List.mem_cons,List.not_mem_nil,or_false] at hq;rcases hq with rfl
  ·exact⟨W.codeHd_of_K X aj4,aj5⟩
 exact⟨(W.fnOf "law" "law" (fV jY) (eU jY) (aR jY) .none Oi Oj Ol Od E5 Om),[(bf,aV)],λs v=>.of_eq rfl,hT,λbase _ _ hL=>ahA T (hL (bf,aV) (by simp))⟩
end _W
/-! alP names are taken,so alQ no fast copy is laid of the largest tables: the compiled file stays small -/
structure PySem.W.Fast:Prop where(tw1005430882024905353 tw10067122254299703418 tw10167494510264156385 tw10262249856168115987 tw10284617656719232660 tw10340297073486629170 tw10347882591335242533 tw1035788672703114660 tw10382002375837682192 tw10481376234233848978 tw1049031807290306589 tw10539240202579405243 tw10548077834625838699 tw10554025484139269513 tw10573871220752901902 tw10592396051864981451 tw10619604723277453165 tw1062425096882800831 tw10724443935792477933 tw10743089482407359585 tw10787863826179327078 tw10884346387881082387 tw10930305567894161269 tw10932743326605833902 tw10932953543590518632 tw10949083330110120832 tw10966362174589069558 tw11001885104705038762 tw11016302337392689945 tw11026012980588166798 tw11038742314379861951 tw11062370377881783339 tw11081394511165476992 tw11161307012869451115 tw11167837036064883176 tw11227118628236637721 tw11247539386756246393 tw11261165633118631932 tw11312313016314957247 tw11362880099471799679 tw11363636441433583419 tw11397402329557826181 tw11402736231828323418 tw11433984809676310227 tw1145901417886362245 tw11463082600841471304 tw11553149537185699960 tw11605008507683497414 tw11645100845136548449 tw11675443032142468984 tw11731297404424747681 tw1182120090809159929 tw11883713313393035447 tw11896115430280227366 tw11904882279670925400 tw1196532184836455300 tw11977401169541171408 tw12005968330083395314 tw12073655922508205527 tw12087443775223820958 tw12119282889259748156 tw12188936446820925767 tw1219291048103651568 tw1222230575528001716 tw12264542346947996150 tw12268542643035872229 tw12281813611022226896 tw12397486891338989423 tw12418087539923808951 tw12421521739987944590 tw12434540933113919475 tw12481109450005745151 tw12505557279377679862 tw12549018418657438844 tw12565756860852250728 tw12574641540503694707 tw12649685178842193552 tw12651980394522829680 tw12689767224170096994 tw12691188572084039490 tw12797162944030389698 tw1282143614568616739 tw12897878022603819110 tw12930319397668334757 tw12942630355768537796 tw13030808566532706751 tw13040127184711577738 tw13064725351579696505 tw13165903779893507329 tw13202637641920863678 tw13215089424881379240 tw13216117107246028610 tw13260085720088276055 tw13345207431671701379 tw13448767769231540548 tw13464160970179740945 tw13496341074521913065 tw13537369019874563156 tw13555056088933509169 tw13679386229622667330 tw13683904434217878285 tw13723726022483988422 tw13740526505194940592 tw13798125114530795324 tw13802359139778356385 tw13813549759927030330 tw13815679362753068437 tw13825377424983539890 tw13837938203312445950 tw13891755133109428985 tw13893040562967785825 tw13899093629539032843 tw13920856257523690907 tw13958338626878395221 tw14036109759314415910 tw14046012570340281162 tw14185827801309436158 tw14313310693837035529 tw14313963905633096101 tw14330360865602112527 tw14342031651844396620 tw14372497919648836819 tw14396049747446228358 tw14412477945250015411 tw14428308135245736090 tw14496464943626619645 tw14659423280764881983 tw14718746648805631074 tw14719076323951663600 tw14731121566161897675 tw14766552512245178024 tw14810575559592104425 tw14848470188462169728 tw14857638056695840561 tw14859268426091889592 tw14924787647129790620 tw14936312920589149845 tw14997366871312541105 tw14998957482951958672 tw15025831223889611673 tw15050971551928246718 tw15088377370781191786 tw15109975107922654297 tw15122468566270345155 tw151384357702212794 tw15151624744890870360 tw15237637591094789209 tw15266951889070750084 tw15279428612852679233 tw15288219446247530627 tw15321529267921724467 tw15370474384574440016 tw15372781829822661199 tw15402848542400234101 tw15419867226633197537 tw15429090403160334872 tw15432441063390895957 tw15487673218215519213 tw15503429671119323979 tw15509980126365324093 tw15564542255360075045 tw15578134735621477713 tw15604142022304742773 tw15664128240223803425 tw15734316240395912438 tw15751340921998224430 tw15771310719331186943 tw15808313941203356948 tw15823680016565867851 tw15874946898281943166 tw15907892960480750327 tw15971320066857724565 tw1597328251062873887 tw16044284112471001921 tw16145001744480218071 tw1619487441153969939 tw16200634462425806915 tw16262911908299039002 tw16357681605284828018 tw16463536874709728879 tw16529007080652518849 tw16538069388783566330 tw16554241495839279592 tw16586372621778760592 tw1662435707056404461 tw16751295000960122747 tw16755302953511446112 tw16786134270400465682 tw16796200724652994906 tw16834361651026844073 tw16838667590113508575 tw16890612353121670896 tw16957313353973287078 tw16957794695062811514 tw16964801942900127506 tw16968566260809477565 tw17023132562611186659 tw17048241932962028361 tw17051696527059925489 tw17064583756552259069 tw17088068729708641248 tw17139323270485948122 tw17161764468867229257 tw17173484380923186103 tw17228107728618378264 tw17267325612314584197 tw17286603228689476305 tw1734392169323554230 tw17356606269140165926 tw17358164935885913456 tw17395239150984719773 tw17428222607100143667 tw17522028093702427252 tw17545265965556488530 tw17578576857143888125 tw17658452364016830582 tw17794468066612837828 tw17814584607317332600 tw17827023433007609229 tw17856900791463879511 tw17949065565890346839 tw18025149488300664675 tw18078341139045385146 tw18266422984268575395 tw18299098186595096249 tw18301767752509517161 tw18310767693132772658 tw18351516180168494320 tw18439328918833684068 tw1857727636021502999 tw1873448860747741744 tw1882249589603204895 tw1918532056571995782 tw1928379187268780101 tw195839712541056680 tw1962291118367506077 tw1989241461149112382 tw1992925611694075794 tw2013563378093138326 tw2017086880707048445 tw2022835035434111164 tw2025687205346665287 tw2094214981148137952 tw2229516755940414366 tw2272245680183059989 tw232890615957768897 tw2335034798478560283 tw2346892527437612903 tw2375928650487200550 tw2379481890745498539 tw2379538554419305927 tw2491475357339981540 tw2517906495503642457 tw253233267692765436 tw2561350188164968638 tw2577101049670095124 tw2601477721898231509 tw2611790634652458994 tw2658484914908900138 tw2698998655550148473 tw2742685793289834357 tw2756295307158776776 tw2776630790286191230 tw2780017748511291037 tw2833512967905482631 tw2870508319474864261 tw2894895763599054025 tw2901732853730859451 tw2968985116250523666 tw3053546920398119506 tw3060235612752273955 tw3122535666598105002 tw3124364018238845705 tw3222754059782536613 tw3316537045067847849 tw332813175707120875 tw3343519489629374551 tw334916773808856400 tw336376146037039588 tw3392592148441487705 tw3393710073019626332 tw3427649129510094992 tw3460346764128654056 tw348236054485558925 tw3524982011668154296 tw3545967578169342555 tw355515634610643724 tw3558224558870734674 tw3566897460921053515 tw3595018670216918134 tw3604264884289280085 tw3613815132416391744 tw3623165026869184695 tw3657537492014164908 tw3659170603759316392 tw3670701614294148170 tw3834589793086800638 tw3875785816126330821 tw3978959507238017651 tw4011744621844692489 tw4012951052217320722 tw4027834705613528430 tw4106208069946803431 tw4129675180033059282 tw4216401166326094574 tw4238826524845498206 tw4285899032156796874 tw4305130944046417483 tw4326038882228762012 tw4353965933165730352 tw4371053402628761314 tw4375559573591187594 tw4391872014468739517 tw4452339079406387275 tw4454719785436858360 tw452508335709108572 tw4557934180302622317 tw4567182566244763477 tw4619753041143139655 tw4735631800645595895 tw4781632329352429427 tw4836900117448325712 tw4842462416725706878 tw492080341928362536 tw4934319335027454162 tw4997185375509307240 tw5031740597197998702 tw5107371881924251833 tw5138211519706032121 tw5152713772495668168 tw5220531870404427517 tw5255056812907529633 tw5293734551414878767 tw5325275248574264014 tw5335515051688387948 tw5338356447762451775 tw5343795257812474613 tw5345561505466863685 tw5348722838014096266 tw5383138084203927782 tw5399979972730274786 tw5456745755058183303 tw5479105555918310425 tw5539607311939734948 tw5564935831485837552 tw5612958823661560591 tw5617213855637095383 tw5631831011388279981 tw5648159483381382339 tw5650399157583265013 tw5705171679663544993 tw5899173378407660340 tw5991473948316442021 tw6000026188082408819 tw603690407893815783 tw6040509803456501528 tw6052308286946863309 tw6095631335743785506 tw6197070723143149632 tw6327159985757411677 tw6328650832153731049 tw6337985455020909590 tw6367095332125400870 tw6381350607898070764 tw6429825917655642595 tw6494664845595608806 tw650203219363400243 tw656236483908753334 tw6572735989131513385 tw6592893004687307610 tw6637629662619887510 tw6682808730803759379 tw6846858126724585938 tw6945681228001027132 tw697491229430506866 tw699174058862471560 tw7034135431766801321 tw7053241594532344309 tw712864257703187569 tw7171840264954200431 tw7224749441827566372 tw7224837779322614663 tw7410432813259949527 tw7437490963589125710 tw7446716269860091842 tw7448424292927493068 tw7451015751801780684 tw7509383864481956158 tw750986869786951959 tw7529961763422185620 tw7542561682667600085 tw7549131551551025382 tw7612984906269936280 tw7636371752042487878 tw7657643095121566612 tw768072717754089485 tw7753010083758535571 tw7761797219194187300 tw7771795146544953262 tw7783098580983560997 tw7799854089876699371 tw7829254259634948820 tw7996921397315624958 tw8013656892473009328 tw8033740799239139392 tw803533417472054601 tw8132486178489505777 tw8140006478305705575 tw8153199674459109975 tw8157716607285060831 tw8163127746189879740 tw8180884591229274845 tw8257236407599788272 tw8329578939675003402 tw8351578979668283958 tw8426122784785750509 tw8427510782532466610 tw8475266489744982995 tw8503993540786586015 tw8521826891845749189 tw8532396399312373396 tw8551849363845141808 tw8553036945192801037 tw8639337905706709901 tw8646979513614748527 tw8662088780136915467 tw8694951586703233918 tw8738642983702676766 tw8777521395369587707 tw884849538662000435 tw8858590067696370517 tw8904834049742529071 tw8909286778239573780 tw8919627813599134261 tw8964589971458439320 tw9049430427673883088 tw9070332651369289636 tw9083443563941255136 tw9085798234609759048 tw9143569492637059665 tw9179109022483145156 tw9260176378854968624 tw9270459260387264396 tw9273669923753836540 tw9274826061424541915 tw9290259723652899003 tw9330443375337902699 tw9336747316288245779 tw9388901641471492277 tw9403260219903672959 tw9559052041516786260 tw9646630918921232881 tw9685246283601731355 tw9685621882985080032 tw9686939420734982147 tw9744440361320806384 tw9754503480002887843 tw9780590112092716952 tw9850507495201393038 tw9861756295326824741 tw989296405513002639 tw9926864108236977777 tw9934338502190121704 tw9956532044819887459 tw9963867732619914941:True)
open PySem PySem.W PyProof.Rows
set_option maxHeartbeats 0 in
theorem PySem.Challenge.cw_armswing_k66_least_by_all_holds : PySem.Challenge.rw_armswing_k66_least_by_all.Holds := by
 w_on; o_law; k_head; (case hw => w_witness2)
 k_fill
 refine _L.walk_lawT (l := PySem.Challenge.rw_armswing_k66_least_by_all) (k := 13) (x := "_law_script") rfl rfl ⟨rfl, by decide, by decide⟩ (λw h Y => PySem.W.km_in_of Y) ?nt ?F
 case nt => intro w; first | k_is | rfl
 case F =>
  intro w mg fa h Y KX G hmg
  refine' _W.all_mk KX G hmg ?_ ?_ ?_ ?_ ?_ ?_ ?_ ?_ ?_ ?_ ?_ ?_ ?_ ?_ ?_ ?_ ?_ ?_ ?_ ?_ ?_ ?_ ?_ ?_ ?_ ?_ ?_ ?_ ?_ ?_ ?_ ?_ ?_ ?_ ?_ ?_ ?_ ?_ ?_ ?_ ?_ ?_ ?_ ?_ ?_ ?_ ?_ ?_ ?_ ?_ ?_ ?_ ?_ ?_ ?_ ?_ ?_ ?_ ?_ ?_ ?_ ?_ ?_ ?_ ?_ ?_ ?_ ?_ ?_ ?_ ?_ ?_ ?_ ?_ ?_ ?_ ?_ ?_ ?_ ?_ ?_ ?_ ?_ ?_ ?_ ?_ ?_ ?_ ?_ ?_ ?_ ?_ ?_ ?_ ?_ ?_ ?_ ?_ ?_ ?_ ?_ ?_ ?_ ?_ ?_ ?_ ?_ ?_ ?_ ?_ ?_ ?_ ?_ ?_ ?_ ?_ ?_ ?_ ?_ ?_ ?_ ?_ ?_ ?_ ?_ ?_ ?_ ?_ ?_ ?_ ?_ ?_ ?_ ?_ ?_ ?_ ?_ ?_ ?_ ?_ ?_ ?_ ?_ ?_ ?_ ?_ ?_ ?_ ?_ ?_ ?_ ?_ ?_ ?_ ?_ ?_ ?_ ?_ ?_ ?_ ?_ ?_ ?_ ?_ ?_ ?_ ?_ ?_ ?_ ?_ ?_ ?_ ?_ ?_ ?_ ?_ ?_ ?_ ?_ ?_ ?_ ?_ ?_ ?_ ?_ ?_ ?_ ?_ ?_ ?_ ?_ ?_ ?_ ?_ ?_ ?_ ?_ ?_ ?_ ?_ ?_ ?_ ?_ ?_ ?_ ?_ ?_ ?_ ?_ ?_ ?_ ?_ ?_ ?_ ?_ ?_ ?_ ?_ ?_ ?_ ?_ ?_ ?_ ?_ ?_ ?_ ?_ ?_ ?_ ?_ ?_ ?_ ?_ ?_ ?_ ?_ ?_ ?_ ?_ ?_ ?_ ?_ ?_ ?_ ?_ ?_ ?_ ?_ ?_ ?_ ?_ ?_ ?_ ?_ ?_ ?_ ?_ ?_ ?_ ?_ ?_ ?_ ?_ ?_ ?_ ?_ ?_ ?_ ?_ ?_ ?_ ?_ ?_ ?_ ?_
  all_goals (first | k_is | kit_is | k_exc | exact _L.fun_mk (by k_is) (by k_is) (by k_is) | rfl | exact PySem.W.km_tabs_of Y _ (by decide) | decide +kernel | kernel_rfl | skip)

import PyProof.Rows.All
import Wide.All
import OpenK.AllK
import Wide.FinOn
import Lean
import PyProof.EqAt
import PyProof.EqKinds
import PyProof.TupleCall
import PySem.Challenge.RW_armswing_k04_plates_refused
set_option compiler.extract_closed false
set_option Elab.async false
set_option linter.all false
set_option maxRecDepth 100000
namespace _L
open PySem PySem.Spec PyProof.Rows
noncomputable abbrev Key:=Sum Int Str
noncomputable def jJ:Key->Value->Bool
 | .inl k,v=>Value.isInt k v
 | .inr x,v=>Value.isStrOf x v
noncomputable def BB(w:World):Key->Int
 | .inl k=>hashInt k
 | .inr x=>hashStr w x
theorem gQ:∀ {k:Key} {v:Value},jJ k v=true->(∃i t,k=Sum.inl i/\v=Value.int i t)\/(∃x t,k=Sum.inr x/\v=Value.str x t)
 | .inl i,v,h=>by
  obtain⟨t,e⟩:=Value.isInt_shape (k:=i) (v:=v) h;exact .inl ⟨i,t,rfl,e⟩
 | .inr x,v,h=>by
  obtain⟨t,e⟩:=Value.isStrOf_shape (x:=x) (v:=v) h;exact .inr ⟨x,t,rfl,e⟩
theorem BC(i:Int)(t:Tok):jJ (.inl i) (.int i t)=true:=by simp[jJ,Value.isInt]
theorem BD(x:Str)(t:Tok):jJ (.inr x) (.str x t)=true:=by simp[jJ,Value.isStrOf]
theorem BE(a b:Int):decide ((Sum.inl a:Key)=Sum.inl b)=(a == b):=by
 by_cases e:a=b
 ·subst e;simp
 ·have h:¬ (Sum.inl a:Key)=Sum.inl b:=λq=>e (Sum.inl.inj q);rw[decide_eq_false h];exact(beq_eq_false_iff_ne.mpr e).symm
theorem BF(a b:Str):decide ((Sum.inr a:Key)=Sum.inr b)=decide (a=b):=by
 by_cases e:a=b
 ·subst e;simp
 ·have h:¬ (Sum.inr a:Key)=Sum.inr b:=λq=>e (Sum.inr.inj q);rw[decide_eq_false h,decide_eq_false e]
theorem BG(a:Int)(b:Str):decide ((Sum.inl a:Key)=Sum.inr b)=false:=decide_eq_false (λq=>nomatch q)
theorem BH(a:Str)(b:Int):decide ((Sum.inr a:Key)=Sum.inl b)=false:=decide_eq_false (λq=>nomatch q)
noncomputable def eN(prog:Program)(w:World):PySem.KeyKind prog w Key where
 is:=jJ
 hash:=BB w
 inj:=λv a b ha hb=>by
  rcases gQ ha with⟨i,t,rfl,rfl⟩ | ⟨x,t,rfl,rfl⟩
  ·rcases gQ hb with⟨j,u,rfl,e⟩ | ⟨y,u,rfl,e⟩
   ·injection e with e1 _;rw[e1]
   ·exact nomatch e
  ·rcases gQ hb with⟨j,u,rfl,e⟩ | ⟨y,u,rfl,e⟩
   ·exact nomatch e
   ·injection e with e1 _;rw[e1]
 byValue:=λk v h=>by
  rcases gQ h with⟨i,t,rfl,rfl⟩ | ⟨x,t,rfl,rfl⟩ <;> rfl
 pyHash:=λhv h=>by
  rcases gQ hv with⟨i,t,rfl,rfl⟩ | ⟨x,t,rfl,rfl⟩
  ·exact wpAny_pyHash_int h
  ·exact wpAny_pyHash_str h
 eqBool:=λhu hv h=>by
  rcases gQ hu with⟨i,t,rfl,rfl⟩ | ⟨x,t,rfl,rfl⟩
  ·rcases gQ hv with⟨j,u,rfl,rfl⟩ | ⟨y,u,rfl,rfl⟩
   ·rw[BE] at h;exact wpAny_eqBool_int h
   ·rw[BG] at h;exact SeqAt.EqAt.int_str i t y u _ _ _ _ h
  ·rcases gQ hv with⟨j,u,rfl,rfl⟩ | ⟨y,u,rfl,rfl⟩
   ·rw[BH] at h;exact SeqAt.EqAt.str_int x t j u _ _ _ _ h
   ·rw[BF] at h;exact wpAny_eqBool_str h
 «strs» := λk x t v h=>by
  rcases gQ h with⟨i,u,rfl,e⟩ | ⟨y,u,rfl,e⟩
  ·exact nomatch e
  ·injection e with e1 _;subst e1;cases v <;> rfl
theorem BI(prog:Program)(w:World)(i:Int)(t:Tok):(eN prog w).is (.inl i) (.int i t)=true:=BC i t
theorem BJ(prog:Program)(w:World)(x:Str)(t:Tok):(eN prog w).is (.inr x) (.str x t)=true:=BD x t
inductive V where
 | aG | bl (b:Bool) | int (i:Int) | str (x:Str) | dM (b:Array UInt8) | fS (b:UInt64) | ref (a:Addr) | ty (n:String)
 deriving DecidableEq
noncomputable def RelV:V->Value->Prop
 | .aG,u=>u=Value.none
 | .bl b,u=>u=Value.bool b
 | .int i,u=>∃t,u=Value.int i t
 | .str x,u=>∃t,u=Value.str x t
 | .dM b,u=>∃t,u=Value.bytes b t
 | .fS b,u=>∃t,u=Value.float b t
 | .ref a,u=>u=Value.ref a
 | .ty n,u=>u=Value.type n
noncomputable abbrev Vals:List V->List Value->Prop:=Paired RelV
theorem Vals.length{xs:List V}{us:List Value}(r:Vals xs us):xs.length=us.length:=Paired.length r
theorem Vals.get:∀ {xs:List V} {us:List Value} {i:Nat} {x:V},Vals xs us->xs[i]? = some x->∃u,us[i]? = some u/\RelV x u
 | _,_,_,_,.nil,e=>by simp at e
 | _,_,0,_,.cons r _,e=>by simp at e;subst e;exact⟨_,rfl,r⟩
 | _,_,i+1,x,.cons _ t,e=>by
  obtain⟨u,h1,h2⟩:=Vals.get (i:=i) (x:=x) t (by simpa using e)
  exact⟨u,by simpa using h1,h2⟩
theorem Vals.set{x:V}{u:Value}(r:RelV x u):∀ {xs:List V} {us:List Value} (i:Nat),Vals xs us->Vals (xs.set i x) (us.set i u)
 | _,_,_,.nil=>.nil
 | _,_,0,.cons _ t=>.cons r t
 | _,_,i+1,.cons q t=>.cons q (Vals.set r i t)
theorem Vals.append:∀ {xs ys:List V} {us ws:List Value},Vals xs us->Vals ys ws->Vals (xs++ys) (us++ws)
 | _,_,_,_,.nil,s=>s
 | _,_,_,_,.cons r t,s=>.cons r (Vals.append t s)
theorem Vals.take:∀ {xs:List V} {us:List Value} (n:Nat),Vals xs us->Vals (xs.take n) (us.take n)
 | _,_,0,_=>.nil
 | _,_,_+1,.nil=>.nil
 | _,_,n+1,.cons r t=>.cons r (Vals.take n t)
theorem Vals.drop:∀ {xs:List V} {us:List Value} (n:Nat),Vals xs us->Vals (xs.drop n) (us.drop n)
 | _,_,0,r=>r
 | _,_,_+1,.nil=>.nil
 | _,_,n+1,.cons _ t=>Vals.drop n t
noncomputable def eO:Option V->Option Value->Prop
 | some v,some u=>RelV v u
 | none,none=>True
 | _,_=>False
noncomputable def KV{κ:Type}:List (κ×V)->List (κ×Value)->Prop:=Paired λ(p:κ×V) (q:κ×Value)=>p.1=q.1/\RelV p.2 q.2
noncomputable def kV:Key->V
 | .inl i=>.int i
 | .inr x=>.str x
inductive HO where
 /-- a list -/
 | lst (xs:List V)
 /-- a tuple (never changes) -/
 | tup (xs:List V)
 /-- a dict whose keys are ints and texts;one whose keys are tuples of ints and texts (the empty one is both) -/
 | dK (az:List (Key×V)) | dT (az:List (List Key×V))
 /-- a set of ints: its members,its size -/
 | set (S:Int->Bool) (n:Nat)
 /-- an instance of the class at C,its dict at dx,its attributes -/
 | ins (C dx:Addr) (fs:List (Str×V))
 /-- the dict of the instance at x -/
 | own (x:Addr)
 /-- the dict of an exception -/
 | xd (fs:List (Str×V))
 /-- a bound method,f of x -/
 | met (f x:Addr)
 /-- a range object lo,lo+1,.. below hi -/
 | mJ (lo hi:Int)
 /-- a thing that is known to the object (the script;a dict while a loop walks it): read,never written while it is so -/
 | dg (o:Obj) (u:HO)
 /-- a code object's table -/
 | iC (ps:Array Value)
 /-- any other thing,by what is true of its one object (a def of one's own: SetO a S n:=HO.ext λh=>..) -/
 | ext (φ:Heap->Prop)
noncomputable abbrev Hp:=Addr->Option HO
noncomputable def upd(H:Hp)(a:Addr)(o:HO):Hp:=λb=>if b=a then some o else H b
theorem aE{H:Hp}{a:Addr}{o:HO}:upd H a o a=some o:=by unfold upd;rw[if_pos rfl]
theorem aL{H:Hp}{a b:Addr}{o:HO}(h:b≠a):upd H a o b=H b:=by unfold upd;rw[if_neg h]
theorem Le{H:Hp}{a:Addr}{o u:HO}:upd (upd H a o) a u=upd H a u:=by
 funext b;unfold upd;split <;> rfl
theorem mK{H:Hp}{a b:Addr}{o u:HO}(h:H a=some o)(h':H b=some u)(d:o≠u):a≠b:=by
 intro e;subst e;rw[h] at h';exact d (Option.some.inj h')
theorem cI{H:Hp}{a b:Addr}{o:HO}(h:H a=some o)(h':H b=none):a≠b:=by
 intro e;subst e;rw[h] at h';cases h'
section
variable(P:Program)(w:World)
noncomputable def bK(H:Hp)(h:Heap)(a:Addr):HO->Prop
 | .lst xs=>xs.length<=sizeLine/\∃(aq:List Value) (n:Nat),Vals xs aq/\h.get? a=some { cls:=.type "list",data:=.seq aq.toArray n }
 | .tup xs=>xs.length<=sizeLine/\∃aq:List Value,Vals xs aq/\IsTup h a aq.toArray
 | .dK az=>az.length<=sizeLine/\(a == sysModules)=false/\∃vs,KV az vs/\h.DictOf (eN P w) a vs
 | .dT az=>az.length<=sizeLine/\(a == sysModules)=false/\∃xs:List (List Key×Addr×Value),
   Paired (λ(p:List Key×V) (q:List Key×Addr×Value)=>p.1=q.1/\H q.2.1=some (.tup (p.1.map kV))/\RelV p.2 q.2.2) az xs/\
   ∃o es ep,h.get? a=some o/\o.ExactDict/\o.data = .dict es ep/\es.toList=xs.map (entryOfKey (tupleKind (eN P w)))/\(xs.map (·.1)).Nodup
 | .set S n=>h.SetOf (intKind P w) a S n
 | .ins C dx fs=>H dx=some (.own a)/\fs.length<=1000/\dx≠a/\h.get? a=some (PySem.W.instObj C dx)/\
   ∃mA,h.Ns1 dx mA/\(∀f,eO (fs.lookup f) (mA f))/\PySem.Within mA (fs.map (·.1))
 | .own _=>∃o,h.get? a=some o
 | .xd fs=>∃mA,h.Ns1 a mA/\∀f,eO (fs.lookup f) (mA f)
 | .mJ lo hi=>∃t u v,h.get? a=some { cls:=.type "range",data:=.fields #[.int lo t,.int hi u,.int 1 v] }
 | .dg o u=>h.get? a=some o/\bK H h a u
 | .iC ps=>h.get? a=some { cls:=.none,data:=.fields ps }
 | .met f x=>h.get? a=some (PySem.W.methodObj (.ref f) (.ref x))
 | .ext φ=>φ h/\(∃o,h.get? a=some o)/\∀h1 h2:Heap,φ h1->(∀o,h1.get? a=some o->h2.get? a=some o)->φ h2
noncomputable def bD(H:Hp)(h:Heap):Prop:=∀a o,H a=some o->bK P w H h a o
end
section
variable{P:Program}{w:World}{H H':Hp}{h h':Heap}{a:Addr}{o:HO}
theorem bK.lt(x:bK P w H h a o):a<h.objs.size:=by
 cases o with
 | lst xs=>obtain⟨_,_,_,_,e⟩:=x;exact Heap.lt_size e
 | tup xs=>obtain⟨_,_,_,p⟩:=x;exact p.lt
 | dK az=>obtain⟨_,_,_,_,o,_,_,e,_⟩:=x;exact Heap.lt_size e
 | dT az=>obtain⟨_,_,_,_,o,_,_,e,_⟩:=x;exact Heap.lt_size e
 | set S n=>obtain⟨o,_,_,_,e,_⟩:=x;exact Heap.lt_size e
 | ins C dx fs=>obtain⟨_,_,_,e,_⟩:=x;exact Heap.lt_size e
 | own y=>obtain⟨_,e⟩:=x;exact Heap.lt_size e
 | xd fs=>obtain⟨_,⟨_,_,_,e,_⟩,_⟩:=x;exact Heap.lt_size e
 | mJ lo hi=>obtain⟨_,_,_,e⟩:=x;exact Heap.lt_size e
 | dg ob u=>obtain⟨e,_⟩:=x;exact Heap.lt_size e
 | iC ps=>exact Heap.lt_size (show h.get? a=some _ from x)
 | met f y=>exact Heap.lt_size (show h.get? a=some _ from x)
 | ext φ=>obtain⟨_,⟨_,e⟩,_⟩:=x;exact Heap.lt_size e
theorem Paired.qU{α β:Type}{F G:α->β->Prop}:∀ {wk:List α} {wm:List β},Paired F wk wm->(∀a b,F a b->G a b)->Paired G wk wm
 | _,_,.nil,_=>.nil
 | _,_,.cons r t,f=>.cons (f _ _ r) (Paired.qU t f)
theorem bK.fT(x:bK P w H h a o)(k:∀b u,(b=a\/H b=some (.own a))->h.get? b=some u->h'.get? b=some u)
  (ho:∀b,H b=some (.own a)->H' b=some (.own a)) (ht:∀b xs,H b=some (.tup xs)->H' b=some (.tup xs)):bK P w H' h' a o:=by
 induction o with
 | lst xs=>obtain⟨z,aq,n,r,e⟩:=x;exact⟨z,aq,n,r,k _ _ (.inl rfl) e⟩
 | tup xs=>obtain⟨z,aq,r,ob,e,c⟩:=x;exact⟨z,aq,r,ob,k _ _ (.inl rfl) e,c⟩
 | dK az=>obtain⟨z,y,vs,r,ob,es,ep,e,c⟩:=x;exact⟨z,y,vs,r,ob,es,ep,k _ _ (.inl rfl) e,c⟩
 | dT az =>
  obtain⟨z,y,xs,r,ob,es,ep,e,c⟩:=x;exact⟨z,y,xs,Paired.qU r λp q z=>⟨z.1,ht _ _ z.2.1,z.2.2⟩,ob,es,ep,k _ _ (.inl rfl) e,c⟩
 | set S n=>obtain⟨ob,es,ep,t,e,c⟩:=x;exact⟨ob,es,ep,t,k _ _ (.inl rfl) e,c⟩
 | ins C dx fs =>
  obtain⟨d,z,ne,e,mA,⟨od,es,ep,e2,c⟩,r⟩:=x;exact⟨ho _ d,z,ne,k _ _ (.inl rfl) e,mA,⟨od,es,ep,k _ _ (.inr d) e2,c⟩,r⟩
 | own y=>obtain⟨ob,e⟩:=x;exact⟨ob,k _ _ (.inl rfl) e⟩
 | xd fs=>obtain⟨mA,⟨od,es,ep,e,c⟩,r⟩:=x;exact⟨mA,⟨od,es,ep,k _ _ (.inl rfl) e,c⟩,r⟩
 | mJ lo hi=>obtain⟨t,u,v,e⟩:=x;exact⟨t,u,v,k _ _ (.inl rfl) e⟩
 | dg ob u ih=>obtain⟨e,q⟩:=x;exact⟨k _ _ (.inl rfl) e,ih q⟩
 | iC ps =>
  have e:h.get? a=some { cls:=.none,data:=.fields ps }:=x
  show h'.get? a=some { cls:=.none,data:=.fields ps };exact k a _ (.inl rfl) e
 | met f y =>
  have e:h.get? a=some (PySem.W.methodObj (.ref f) (.ref y)):=x
  show h'.get? a=some (PySem.W.methodObj (.ref f) (.ref y));exact k a _ (.inl rfl) e
 | ext φ=>obtain⟨p,⟨o,e⟩,st⟩:=x;exact⟨st _ _ p λo q=>k _ _ (.inl rfl) q,⟨o,k _ _ (.inl rfl) e⟩,st⟩
theorem bD.lt(x:bD P w H h)(e:H a=some o):a<h.objs.size:=(x a o e).lt
theorem bD.fresh(x:bD P w H h)(e:h.objs.size<=a):H a=none:=by
 cases q:H a with
 | none=>rfl
 | some u=>exact absurd (Nat.lt_of_lt_of_le (x.lt q) e) (Nat.lt_irrefl _)
theorem bD.kept(x:bD P w H h)(k:∀b u,h.get? b=some u->h'.get? b=some u):bD P w H h':=λa o e =>
 (x a o e).fT (λb u _ q=>k b u q) (λ_ q=>q) λ_ _ q=>q
theorem bD.laid(x:bD P w H h)(k:∀b u,h.get? b=some u->h'.get? b=some u)(hp:h.objs.size<=a)(new:bK P w (upd H a o) h' a o):bD P w (upd H a o) h':=λb u e=>by
 have hn:=x.fresh hp;by_cases hb:b=a
 ·subst hb;rw[aE] at e;cases e;exact new
 ·rw[aL hb] at e;exact(x b u e).fT (λc v _ q=>k c v q) (λc q=>by rw[aL (cI q hn)];exact q) λc xs q=>by rw[aL (cI q hn)];exact q
end
noncomputable def Rd(H:Hp)(a:Addr)(u:HO):Prop:=H a=some u\/∃o,H a=some (.dg o u)
theorem Rd.ok{P:Program}{w:World}{H:Hp}{h:Heap}{a:Addr}{u:HO}(r:Rd H a u)(x:bD P w H h):bK P w H h a u:=by
 rcases r with r | ⟨o,r⟩
 ·exact x a u r
 ·obtain⟨_,q⟩:=x a _ r;exact q
noncomputable def kh:Option HO->Prop
 | some (.lst _)=>True
 | some (.dK _)=>True
 | some (.dT _)=>True
 | some (.set _ _)=>True
 | some (.ins _ _ _)=>True
 | some (.ext _)=>True
 | _=>False
section
variable{P:Program}{w:World}{H:Hp}{h h':Heap}{x e:Addr}{o':HO}
theorem bD.write(ok:bD P w H h)(mu:kh (H x))(he:e=x\/H e=some (.own x))(k:∀b u,b≠e->h.get? b=some u->h'.get? b=some u)(jK:∃u,h'.get? e=some u)
  (new:bK P w (upd H x o') h' x o'):bD P w (upd H x o') h':=λb u q=>by
 have wu:∀c y,H c=some (.own y)->c≠x:=λc y r z=>by subst z;rw[r] at mu;exact mu
 have BK:∀c xs,H c=some (.tup xs)->c≠x:=λc xs r z=>by subst z;rw[r] at mu;exact mu
 by_cases hb:b=x
 ·subst hb;rw[aE] at q;cases q;exact new
 ·rw[aL hb] at q;by_cases iW:b=e
  ·have q':H b=some (.own x):=by
    rcases he with z | z
    ·exact absurd (iW.trans z) hb
    ·rw[iW];exact z
   rw[q] at q';cases q';obtain⟨v,hv⟩:=jK;exact⟨v,by rw[iW];exact hv⟩
  ·refine(ok b u q).fT (λc v hc r=>k c v ?_ r) (λc r=>by rw[aL (wu c b r)];exact r) λc xs r=>by rw[aL (BK c xs r)];exact r
   rcases hc with rfl | hc
   ·exact iW
   ·rintro rfl;rcases he with z | z
    ·exact wu c b hc z
    ·rw[hc] at z;cases z;exact hb rfl
end
structure Un(fs ex:List Addr)(H H':Hp)(h h':Heap):Prop where
 keep:∀b o,h.get? b=some o->H b=none->b∉fs->b∉ex->h'.get? b=some o
 slot:∀b o,h.get? b=some o->H b=none->b∈fs->b∉ex->∃sl,h'.get? b=some { o with slots:=sl }
 free:∀b o,h.get? b=some o->H b=none->b∉ex->H' b=none
 there:∀b o,h.get? b=some o->b∉ex->∃o',h'.get? b=some o'
 fB:∀b xs,H b=some (.tup xs)->H' b=some (.tup xs)
 eT:∀b o u,H b=some (.dg o u)->H' b=some (.dg o u)
 fD:∀b ps,H b=some (.iC ps)->∃more,H' b=some (.iC (ps++more))
section
variable{fs BL ex Lf:List Addr}{H H1 H2:Hp}{h h1 h2 h':Heap}{a x e:Addr}{o:HO}
theorem Un.any(u:Un fs ex H H1 h h1){b:Addr}{ob:Obj}(q:h.get? b=some ob)(n:H b=none)(hx:b∉ex):∃sl,h1.get? b=some { ob with slots:=sl }:=by
 by_cases hb:b∈fs
 ·exact u.slot b ob q n hb hx
 ·exact⟨ob.slots,u.keep b ob q n hb hx⟩
theorem Un.kept(k:∀b u,h.get? b=some u->h'.get? b=some u):Un fs ex H H h h' :=
 ⟨λb ob q _ _ _=>k b ob q,λb ob q _ _ _=>⟨ob.slots,k b ob q⟩,λ_ _ _ n _=>n,λb ob q _=>⟨ob,k b ob q⟩,λ_ _ q=>q,λ_ _ _ q=>q,λ_ ps q=>⟨#[],by rw[q];simp⟩⟩
theorem Un.refl:Un fs ex H H h h:=Un.kept λ_ _ q=>q
theorem Un.laid(k:∀b u,h.get? b=some u->h'.get? b=some u)(hp:h.objs.size<=a)(hn:H a=none):Un fs ex H (upd H a o) h h' where
 keep:=λb u q _ _ _=>k b u q
 slot:=λb u q _ _ _=>⟨u.slots,k b u q⟩
 free:=λb u q n _=>by rw[aL (Nat.ne_of_lt (Nat.lt_of_lt_of_le (Heap.lt_size q) hp))];exact n
 there:=λb u q _=>⟨u,k b u q⟩
 fB:=λb xs q=>by rw[aL (cI q hn)];exact q
 eT:=λb u xs q=>by rw[aL (cI q hn)];exact q
 fD:=λb ps q=>⟨#[],by rw[aL (cI q hn),q];simp⟩
theorem Un.write(mu:kh (H x))(he:e=x\/H e=some (.own x))(k:∀b u,b≠e->h.get? b=some u->h'.get? b=some u)(jK:∃u,h'.get? e=some u):Un fs ex H (upd H x o) h h':=by
 have hx:∀b,H b=none->b≠x:=λb n z=>by subst z;rw[n] at mu;exact mu
 have hb:∀b,H b=none->b≠e:=λb n z=>by
  subst z;rcases he with r | r
  ·exact hx b n r
  ·rw[n] at r;cases r
 have hm:∀b u,H b=some u->¬ kh (some u)->b≠x:=λb u q nm z=>by subst z;rw[q] at mu;exact nm mu
 refine⟨λb u q n _ _=>k b u (hb b n) q,λb u q n _ _=>⟨u.slots,k b u (hb b n) q⟩,λb u q n _=>by rw[aL (hx b n)];exact n,λb u q _=>?_,
  λb xs q=>by rw[aL (hm b _ q λz=>z)];exact q,λb u xs q=>by rw[aL (hm b _ q λz=>z)];exact q,λb ps q=>⟨#[],by rw[aL (hm b _ q λz=>z),q];simp⟩⟩
 by_cases iW:b=e
 ·subst iW;exact jK
 ·exact⟨u,k b u iW q⟩
end
noncomputable def mL(h:Heap)(H:Hp):List Addr:=(List.range h.objs.size).filter λa=>(H a).isSome
noncomputable def gR(h:Heap)(H:Hp):Heap:=PySem.W.hideAll h (mL h H)
theorem BN(h:Heap)(H:Hp):(gR h H).objs.size=h.objs.size:=PySem.W.hideAll_size _ _
theorem BO{h:Heap}{H:Hp}{b:Addr}{o:Obj}(e:h.get? b=some o)(n:H b=none):(gR h H).get? b=some o :=
 PySem.W.hideAll_get _ e λhm=>by
  have q:(H b).isSome=true:=(List.mem_filter.mp hm).2;rw[n] at q;simp at q
theorem BP{h:Heap}{H:Hp}{b:Addr}{o:Obj}(e:(gR h H).get? b=some o):h.get? b=some o/\H b=none:=by
 have e':h.get? b=some o:=PySem.W.of_hideAll (mL h H) e;refine⟨e',?_⟩;cases q:H b with
 | none=>rfl
 | some x =>
  have hm:b∈mL h H:=List.mem_filter.mpr ⟨List.mem_range.mpr (Heap.lt_size e'),by simp[q]⟩
  have z:(gR h H).get? b=none:=PySem.W.hideAll_none (mL h H) hm;rw[z] at e;cases e
noncomputable def ki(g h:Heap)(L:Addr):List (Addr×Obj):=(List.range h.objs.size).filterMap λa=>if a=L\/(g.get? a).isSome=true then none else(h.get? a).map λo=>(a,o)
theorem BQ{g h:Heap}{L a:Addr}{o:Obj}(h1:a≠L)(h2:g.get? a=none)(h3:h.get? a=some o):(a,o)∈ki g h L :=
 List.mem_filterMap.mpr ⟨a,List.mem_range.mpr (Heap.lt_size h3),by simp[h1,h2,h3]⟩
theorem BR{g h:Heap}{L:Addr}{p:Addr×Obj}(hp:p∈ki g h L):p.1≠L/\g.get? p.1=none/\h.get? p.1=some p.2:=by
 obtain⟨b,_,e⟩:=List.mem_filterMap.mp hp;split at e
 ·cases e
 ·rename_i hn;cases q:h.get? b with
  | none=>rw[q] at e;simp at e
  | some u =>
   rw[q] at e;simp only[Option.map_some,Option.some.injEq] at e;subst e;refine⟨λz=>hn (.inl z),?_,q⟩
   show g.get? b=none;cases r:g.get? b with
   | none=>rfl
   | some v=>exact(hn (.inr (by simp[r]))).elim
noncomputable def rest(g h:Heap)(L d:Addr):List (Addr×Obj):=(ki g h L).filter λp=>decide (p.1≠d)
theorem BS{g h:Heap}{L:Addr}:News g L h (ki g h L):=λp hp=>let ⟨a,b,c⟩:=BR hp;⟨c,a,b⟩
structure Mod(K:PySem.W.Frag)(mg:Str->Option Value)(base:Heap):Prop where
 jL:K.In base
 glob:base.Ns mainGlobals mg
 blt:∃mb,base.Ns builtinsNs mb/\∀x:Str,x≠"__name__"->mb x=bootBuiltins x
 nolimit:base.NoLimit
structure Cx where
 prog:Program
 w:World
 K:PySem.W.Frag
 mg:Str->Option Value
 base:Heap
 A:Around
 N:List Str
 aR:Shared
 cZ:Hp
 env:Env
 outer:List Env
 stack:List Env
 ex:List Addr
 fn:Str->Bool
 calm:Bool
 pn:List (Addr×Obj)
 xe:Value->Shared->Prop
noncomputable def bE(l:List Env):List Addr:=l.filterMap (·.frame)
noncomputable abbrev Cx.fs(X:Cx):List Addr:=bE X.outer
noncomputable def qV(sc:Scope)(x:Str):Prop:=sc.names.lookup x=some .local\/sc.names.lookup x=some .cell\/sc.names.lookup x=some .free
noncomputable def Loc(sc:Scope)(x:Str):Prop:=sc.names.lookup x=some .local\/sc.names.lookup x=some .cell
noncomputable def Look(env:Env)(h:Heap)(m:Str->Option Value)(x:Str)(u:Value):Prop :=
 (env.kindOf x=some .local/\m x=some u)\/((env.kindOf x=some .cell\/env.kindOf x=some .free)/\∃c,env.cells.lookup x=some c/\h.IsCell c (some u))
structure Cx.Ok(X:Cx):Prop where
 mod:Mod X.K X.mg X.base
 kind:X.env.scope.kind = .function
 glob:X.env.globals=mainGlobals
 blt:X.env.builtins=builtinsNs
 above:X.aR.heap.objs.size<=X.env.locals
 inj:∀x y c,X.env.cells.lookup x=some c->X.env.cells.lookup y=some c->x=y
 has:∀x,(X.env.kindOf x=some .cell\/X.env.kindOf x=some .free)->∃c,X.env.cells.lookup x=some c
 iX:∀x c,X.fn x=true->X.env.cells.lookup x=some c->X.aR.heap.objs.size<=c
 hd:X.calm=true->X.A.handled=none
 frames:X.A.frames=some X.stack
 jM:X.stack=X.outer\/(X.stack=X.env::X.outer/\X.env.frame=some X.env.locals)
 jN:∀b∈X.ex,b≠X.env.locals/\∀x c,X.env.cells.lookup x=some c->c≠b
 bs:∀b o,X.base.get? b=some o->X.aR.heap.get? b=some o/\X.cZ b=none
 fE:X.base.objs.size<=X.aR.heap.objs.size
 iY:∀b o,X.base.get? b=some o->b∉X.ex
 iZ:∀b∈X.ex,b∉X.fs
 dz:X.aR.heap.FunFrames X.base X.outer
 fU:∀b∈X.fs,X.cZ b=none
structure Inv(X:Cx)(pins:List (Addr×Obj))(σ:List (Option V))(H:Hp)(s:Shared):Prop where
 ok:X.Ok
 os:s.os=X.aR.os
 bare:AllBare s.gens
 base:Un X.fs X.ex X.cZ H X.aR.heap s.heap
 loc:∃m,s.heap.Ns X.env.locals m/\∀(i:Nat) (x:Str) (v:V),X.N[i]? = some x->σ[i]? = some (some v)->qV X.env.scope x->∃u,RelV v u/\Look X.env s.heap m x u
 cell:∀x c,X.env.cells.lookup x=some c->∃v,s.heap.IsCell c v
 free:H X.env.locals=none
 d8:∀x c,X.env.cells.lookup x=some c->H c=none
 pin:∀p∈X.pn++pins,s.heap.get? p.1=some p.2/\H p.1=none/\p.1≠X.env.locals/\p.1∉X.fs/\∀v,p.2.data≠.cell v
 aD:bD X.prog X.w H s.heap
 len:σ.length=X.N.length
section
variable{X:Cx}{pins:List (Addr×Obj)}{σ:List (Option V)}{H H':Hp}{s:Shared}{h':Heap}
theorem Cx.Ok.BU(ok:X.Ok){b:Addr}{o:Obj}(e:X.base.get? b=some o):b∉X.fs:=λhb=>by
 have:=(ok.dz.mem hb).1;rw[e] at this;cases this
theorem Inv.bs(I:Inv X pins σ H s):∀b o,X.base.get? b=some o->s.heap.get? b=some o/\H b=none:=λb o e =>
 ⟨I.base.keep b o (I.ok.bs b o e).1 (I.ok.bs b o e).2 (I.ok.BU e) (I.ok.iY b o e),I.base.free b o (I.ok.bs b o e).1 (I.ok.bs b o e).2 (I.ok.iY b o e)⟩
theorem Inv.bk(I:Inv X pins σ H s):∀b o,X.base.get? b=some o->s.heap.get? b=some o:=λb o e=>(I.bs b o e).1
theorem Inv.mod(I:Inv X pins σ H s):Mod X.K X.mg X.base:=I.ok.mod
theorem Inv.bR(I:Inv X pins σ H s):X.K.In s.heap:=I.ok.mod.jL.keeps I.bk
theorem Inv.fr(I:Inv X pins σ H s):∃m,Fr X.base X.env.locals s.heap m :=
 let ⟨m,hn,_⟩:=I.loc
 ⟨m,hn,I.bk,Nat.le_trans I.ok.fE I.ok.above⟩
theorem Inv.lt(I:Inv X pins σ H s):X.env.locals<s.heap.objs.size:=let ⟨_,hn,_⟩:=I.loc;hn.lt
theorem Inv.sz(I:Inv X pins σ H s):X.aR.heap.objs.size<=s.heap.objs.size:=Nat.le_trans I.ok.above (Nat.le_of_lt I.lt)
theorem Inv.BV(I:Inv X pins σ H s){a:Addr}(h:s.heap.objs.size<=a):a∉X.fs:=λhb=>by
 obtain⟨_,o,ho,_⟩:=I.ok.dz.mem hb;exact absurd (Nat.lt_of_lt_of_le (Heap.lt_size ho) (Nat.le_trans I.sz h)) (Nat.lt_irrefl _)
theorem Inv.fV(I:Inv X pins σ H s):∀x c,X.env.cells.lookup x=some c->c≠X.env.locals:=λx c e z=>by
 obtain⟨v,o,ho,hd⟩:=I.cell x c e;obtain⟨m,⟨o',es,ep,i6,qW,_⟩,_⟩:=I.loc;rw[z,i6] at ho;cases ho;rw[qW] at hd;cases hd
theorem Inv.dz(I:Inv X pins σ H s):s.heap.FunFrames X.base X.outer:=by
 have all:∀(l:List Env),(∀b∈bE l,b∈X.fs)->X.aR.heap.FunFrames X.base l->s.heap.FunFrames X.base l:=by
  intro l
  induction l with
  | nil=>intro _ _;trivial
  | cons env r ih =>
   intro hs hl;obtain⟨hk,⟨L,o,hf,hn,ho,hd⟩,hr⟩:=hl;have hL:L∈X.fs:=hs L (by unfold bE;rw[List.filterMap_cons,hf];exact List.mem_cons_self)
   obtain⟨sl,e⟩:=I.base.slot L o ho (I.ok.fU L hL) hL λz=>I.ok.iZ L z hL;exact⟨hk,⟨L,_,hf,hn,e,hd⟩,ih (λb hb=>hs b (by unfold bE;rw[List.filterMap_cons,hf];exact List.mem_cons_of_mem _ hb)) hr⟩
 exact all X.outer (λ_ hb=>hb) I.ok.dz
theorem Inv.stack(I:Inv X pins σ H s):s.heap.FunFrames X.base X.stack:=by
 rcases I.ok.jM with e | ⟨e,hf⟩
 ·rw[e];exact I.dz
 ·rw[e];obtain⟨m,hn,_⟩:=I.loc;refine .cons (by rw[I.ok.kind];decide) hf hn ?_ I.dz
  exact Heap.get?_none_of_le (Nat.le_trans I.ok.fE I.ok.above)
theorem Inv.qX(I:Inv X pins σ H s):∀b∈bE X.stack,b∈X.env.locals::X.fs:=λb hb=>by
 rcases I.ok.jM with e | ⟨e,hf⟩
 ·rw[e] at hb;exact List.mem_cons_of_mem _ hb
 ·rw[e] at hb;unfold bE at hb;rw[List.filterMap_cons,hf] at hb;exact hb
theorem Inv.qY(I:Inv X pins σ H s):∀b∈bE X.stack,H b=none:=λb hb=>by
 rcases List.mem_cons.mp (I.qX b hb) with e | hb
 ·rw[e];exact I.free
 ·obtain⟨_,o,ho,_⟩:=I.ok.dz.mem hb;exact I.base.free b o ho (I.ok.fU b hb) λz=>I.ok.iZ b z hb
theorem Inv.step{g':Array GenState}{t':Nat}{d':Drawn}{ch:List Addr}(I:Inv X pins σ H s)
  (gm:∀b∈ch,(b∈X.ex\/X.aR.heap.objs.size<=b)/\b≠X.env.locals/\(∀x c,X.env.cells.lookup x=some c->c≠b)/\∀p∈X.pn++pins,p.1≠b)
  (keep:∀b o,b≠X.env.locals->b∉X.fs->b∉ch->s.heap.get? b=some o->H b=none->h'.get? b=some o)
  (slot:∀b o,b≠X.env.locals->b∈X.fs->b∉ch->s.heap.get? b=some o->H b=none->∃sl,h'.get? b=some { o with slots:=sl }) (free:∀b o,b∉ch->s.heap.get? b=some o->H b=none->H' b=none)
  (there:∀b o,b∉ch->s.heap.get? b=some o->∃o',h'.get? b=some o')
  (fB:∀b xs,H b=some (.tup xs)->H' b=some (.tup xs)) (eT:∀b o u,H b=some (.dg o u)->H' b=some (.dg o u)) (fD:∀b ps,H b=some (.iC ps)->∃more,H' b=some (.iC (ps++more)))
  (ns:∀m,s.heap.Ns X.env.locals m->h'.Ns X.env.locals m) (aD:bD X.prog X.w H' h') (hg:AllBare g') :
  Inv X pins σ H' { s with heap:=h',gens:=g',drawn:=d',toks:=t' }:=by
 have wz:∀b o,X.aR.heap.get? b=some o->b≠X.env.locals:=λb o e=>Nat.ne_of_lt (Nat.lt_of_lt_of_le (Heap.lt_size e) I.ok.above);have mO:∀b o,X.aR.heap.get? b=some o->b∉X.ex->b∉ch:=λb o e hx hb=>by
  rcases(gm b hb).1 with z | z
  ·exact hx z
  ·exact absurd (Nat.lt_of_lt_of_le (Heap.lt_size e) z) (Nat.lt_irrefl _)
 have cellK:∀x c,X.env.cells.lookup x=some c->∀v,s.heap.IsCell c v->h'.IsCell c v:=λx c e v ⟨o,ho,hd⟩=>by
  have kj:c∉ch:=λz=>(gm c z).2.2.1 x c e rfl;by_cases hc:c∈X.fs
  ·obtain⟨sl,q⟩:=slot c o (I.fV x c e) hc kj ho (I.d8 x c e);exact⟨_,q,hd⟩
  ·exact⟨o,keep c o (I.fV x c e) hc kj ho (I.d8 x c e),hd⟩
 refine⟨I.ok,I.os,hg,⟨λb o e n hb hx=>?_,λb o e n hb hx=>?_,λb o e n hx=>?_,λb o e hx=>?_,λb xs e=>fB b xs (I.base.fB b xs e),λb o xs e=>eT b o xs (I.base.eT b o xs e),λb ps e=>?_⟩,?_,λx c e=>?_,?_,λx c e=>?_,λp hp=>?_,aD,I.len⟩
 ·exact keep b o (wz b o e) hb (mO b o e hx) (I.base.keep b o e n hb hx) (I.base.free b o e n hx)
 ·obtain⟨sl,e1⟩:=I.base.slot b o e n hb hx;obtain⟨BW,e2⟩:=slot b _ (wz b o e) hb (mO b o e hx) e1 (I.base.free b o e n hx);exact⟨BW,e2⟩
 ·obtain⟨o',e1⟩:=I.base.there b o e hx;exact free b o' (mO b o e hx) e1 (I.base.free b o e n hx)
 ·obtain⟨o',e1⟩:=I.base.there b o e hx;exact there b o' (mO b o e hx) e1
 ·obtain⟨m1,e1⟩:=I.base.fD b ps e;obtain⟨m2,e2⟩:=fD b _ e1;exact⟨m1++m2,by rw[e2,Array.append_assoc]⟩
 ·obtain⟨m,hn,hl⟩:=I.loc;refine⟨m,ns m hn,λi x v e1 e2 e3=>?_⟩;obtain⟨u,r,l⟩:=hl i x v e1 e2 e3;refine⟨u,r,?_⟩;rcases l with l | ⟨k,c,e,z⟩
  ·exact .inl l
  ·exact .inr ⟨k,c,e,cellK x c e _ z⟩
 ·obtain⟨v,z⟩:=I.cell x c e;exact⟨v,cellK x c e v z⟩
 ·obtain⟨m,⟨o,_,_,ho,_⟩,_⟩:=I.loc;exact free _ o (λz=>(gm _ z).2.1 rfl) ho I.free
 ·obtain⟨v,o,ho,hd⟩:=I.cell x c e;exact free c o (λz=>(gm c z).2.2.1 x c e rfl) ho (I.d8 x c e)
 ·obtain⟨e,n,ne,nf,d⟩:=I.pin p hp;have kj:p.1∉ch:=λz=>(gm p.1 z).2.2.2 p hp rfl;exact⟨keep p.1 p.2 ne nf kj e n,free p.1 p.2 kj e n,ne,nf,d⟩
theorem Inv.un{t':Nat}(I:Inv X pins σ H s)(u:Un X.fs [] H H' s.heap h')(aD:bD X.prog X.w H' h'):Inv X pins σ H' { s with heap:=h',toks:=t' }:=by
 obtain⟨m,⟨o,es,ep,ho,r⟩,_⟩:=id I.loc;obtain⟨sl,hL⟩:=u.any ho I.free (by simp)
 exact I.step (g':=s.gens) (d':=s.drawn) (ch:=[]) (λ_ z=>nomatch z) (λb o _ hb _ e n=>u.keep b o e n hb (by simp)) (λb o _ hb _ e n=>u.slot b o e n hb (by simp)) (λb o _ e n=>u.free b o e n (by simp)) (λb o _ e=>u.there b o e (by simp)) u.fB u.eT u.fD (λm' hm=>by
  obtain⟨o',qZ,q8,i6,r'⟩:=hm;rw[ho] at i6;cases i6;exact⟨_,qZ,q8,hL,r'⟩) aD I.bare
theorem Inv.call{g':Array GenState}{t':Nat}{d':Drawn}{ch:List Addr}(I:Inv X pins σ H s)(u:Un (bE X.stack) ch H H' s.heap h')(aD:bD X.prog X.w H' h')(hg:AllBare g')
  (gm:∀b∈ch,(b∈X.ex\/X.aR.heap.objs.size<=b)/\b≠X.env.locals/\(∀x c,X.env.cells.lookup x=some c->c≠b)/\∀p∈X.pn++pins,p.1≠b) :
  Inv X pins σ H' { s with heap:=h',gens:=g',drawn:=d',toks:=t' }:=by
 obtain⟨m,⟨o,es,ep,ho,r⟩,_⟩:=id I.loc;obtain⟨sl,hL⟩:=u.any ho I.free λz=>(gm _ z).2.1 rfl;exact I.step (ch:=ch) gm (λb o hL hb hc e n=>u.keep b o e n (λz=>(List.mem_cons.mp (I.qX b z)).elim hL hb) hc) (λb o _ _ hc e n=>u.any e n hc) (λb o hc e n=>u.free b o e n hc) (λb o hc e=>u.there b o e hc) u.fB u.eT u.fD (λm' hm=>by
  obtain⟨o',qZ,q8,i6,r'⟩:=hm;rw[ho] at i6;cases i6;exact⟨_,qZ,q8,hL,r'⟩) aD hg
theorem Inv.turned{t':Nat}{it:Addr}(I:Inv X pins σ H s)(k:∀b o,b≠it->s.heap.get? b=some o->h'.get? b=some o)(hn:H it=none)(hL:it≠X.env.locals)
  (h1:it∈X.ex\/X.aR.heap.objs.size<=it) (h2:∀x c,X.env.cells.lookup x=some c->c≠it) (h3:∀p∈X.pn++pins,p.1≠it):Inv X pins σ H { s with heap:=h',toks:=t' }:=by
 have kr:∀b u,H b=some u->b≠it:=λb u e z=>by rw[z,hn] at e;cases e
 refine I.step (g':=s.gens) (d':=s.drawn) (ch:=[it]) (λb hb=>?_) (λb o _ _ hc e _=>k b o (λz=>hc (by simp[z])) e) (λb o _ _ hc e _=>⟨o.slots,k b o (λz=>hc (by simp[z])) e⟩) (λ_ _ _ _ n=>n)
  (λb o hc e=>⟨o,k b o (λz=>hc (by simp[z])) e⟩) (λ_ _ e=>e) (λ_ _ _ e=>e) (λb ps e=>⟨#[],by rw[e];simp⟩) (λm hm=>?_) (λb u e=>?_) I.bare
 ·have e:b=it:=by simpa using hb
  subst e;exact⟨h1,hL,h2,h3⟩
 ·obtain⟨o,es,ep,ho,r⟩:=hm;exact⟨o,es,ep,k _ o (Ne.symm hL) ho,r⟩
 ·refine(I.aD b u e).fT (λc v hc q=>k c v ?_ q) (λ_ q=>q) λ_ _ q=>q;rcases hc with z | z
  ·rw[z];exact kr b u e
  ·exact kr c _ z
theorem Inv.tok(I:Inv X pins σ H s)(t:Nat):Inv X pins σ H { s with toks:=t }:=I.un (h':=s.heap) (t':=t) Un.refl I.aD
theorem Inv.kept{t':Nat}(I:Inv X pins σ H s)(k:∀b u,s.heap.get? b=some u->h'.get? b=some u):Inv X pins σ H { s with heap:=h',toks:=t' }:=I.un (Un.kept k) (I.aD.kept k)
theorem Inv.laid{a:Addr}{o:HO}{t':Nat}(I:Inv X pins σ H s)(k:∀b u,s.heap.get? b=some u->h'.get? b=some u)(hp:s.heap.objs.size<=a)(new:bK X.prog X.w (upd H a o) h' a o) :
  Inv X pins σ (upd H a o) { s with heap:=h',toks:=t' }:=I.un (Un.laid k hp (I.aD.fresh hp)) (I.aD.laid k hp new)
theorem Inv.write{x e:Addr}{o:HO}{t':Nat}(I:Inv X pins σ H s)(mu:kh (H x))(he:e=x\/H e=some (.own x))(k:∀b u,b≠e->s.heap.get? b=some u->h'.get? b=some u)(jK:∃u,h'.get? e=some u)
  (new:bK X.prog X.w (upd H x o) h' x o):Inv X pins σ (upd H x o) { s with heap:=h',toks:=t' }:=I.un (Un.write mu he k jK) (I.aD.write mu he k jK new)
theorem Inv.wA{wB:List (Addr×Obj)}(I:Inv X pins σ H s)(h:∀p∈wB,s.heap.get? p.1=some p.2/\H p.1=none/\p.1≠X.env.locals/\p.1∉X.fs/\∀v,p.2.data≠.cell v):Inv X wB σ H s :=
 ⟨I.ok,I.os,I.bare,I.base,I.loc,I.cell,I.free,I.d8,λp hp=>(List.mem_append.mp hp).elim (λz=>I.pin p (List.mem_append_left _ z)) (h p),I.aD,I.len⟩
theorem q9{N:List Str}(hN:N.Nodup){i j:Nat}{x:Str}(a:N[i]? = some x)(b:N[j]? = some x):i=j:=by
 obtain⟨h1,e1⟩:=List.getElem?_eq_some_iff.mp a;obtain⟨h2,e2⟩:=List.getElem?_eq_some_iff.mp b;exact(List.getElem_inj hN).mp (e1.trans e2.symm)
theorem BX{M:Model}{A:Around}{E:Value->Shared->Prop}{i:Nat}{x:Str}{v:V}{u:Value}{Q:Unit->Shared->Prop}(I:Inv X pins σ H s)(hN:X.N.Nodup)(hi:X.N[i]? = some x)(hx:Loc X.env.scope x)(r:RelV v u)
  (h:∀s',Inv X pins (σ.set i (some v)) H s'->(∃a,Heap.SameBut a s.heap s'.heap/\(a=X.env.locals\/X.env.cells.lookup x=some a))->Q () s') (hf:X.fn x=true\/X.env.scope.names.lookup x=some .local:=by first | exact .inl rfl | exact .inr rfl | assumption):wpAny M A (storeName X.env x u) Q E s:=by
 obtain⟨m,hn,hl⟩:=id I.loc;have ku:(X.env.scope.kind == .class || (X.env.scope.kind == .module && X.env.locals != X.env.globals))=false:=by rw[I.ok.kind];rfl
 have wC:i<σ.length:=by rw[I.len];exact(List.getElem?_eq_some_iff.mp hi).1
 have fV:=I.fV;have tracked:∀ {a:Addr} {h':Heap},(∃o,s.heap.get? a=some o/\H a=none)->Heap.SameBut a s.heap h'->bD X.prog X.w H h':=λ{a h'} ha hs b ob e=>by
  obtain⟨_,_,wD⟩:=ha;refine(I.aD b ob e).fT (λc w' hc q=>(hs.2 c ?_).trans q) (λ_ q=>q) λ_ _ q=>q;rintro rfl;rcases hc with rfl | hc
  ·rw[wD] at e;cases e
  ·rw[wD] at hc;cases hc
 rcases hx with hk | hk
 ·refine wpAny_storeName_local hk hn (λh' jO hs=>?_) ku;obtain⟨oL,_,_,q_,_⟩:=id hn;refine h _ ⟨I.ok,I.os,I.bare,⟨λb o e n hb hx=>?_,λb o e n hb hx=>?_,I.base.free,λb o e hx=>?_,I.base.fB,I.base.eT,I.base.fD⟩,⟨_,jO,λj y v' e1 e2 e3=>?_⟩,λy c e=>?_,I.free,I.d8,λp hp=>?_,tracked ⟨oL,q_,I.free⟩ hs,by simpa using I.len⟩ ⟨_,hs,.inl rfl⟩
  ·exact(hs.2 b (Nat.ne_of_lt (Nat.lt_of_lt_of_le (Heap.lt_size e) I.ok.above))).trans (I.base.keep b o e n hb hx)
  ·obtain⟨sl,e1⟩:=I.base.slot b o e n hb hx;exact⟨sl,(hs.2 b (Nat.ne_of_lt (Nat.lt_of_lt_of_le (Heap.lt_size e) I.ok.above))).trans e1⟩
  ·obtain⟨o',e1⟩:=I.base.there b o e hx;exact⟨o',(hs.2 b (Nat.ne_of_lt (Nat.lt_of_lt_of_le (Heap.lt_size e) I.ok.above))).trans e1⟩
  ·by_cases hj:j=i
   ·subst hj;rw[hi] at e1;cases e1;rw[List.getElem?_set_self wC] at e2;cases e2;exact⟨u,r,.inl ⟨hk,by simp⟩⟩
   ·rw[List.getElem?_set_ne (Ne.symm hj)] at e2;obtain⟨u',r',q⟩:=hl j y v' e1 e2 e3;refine⟨u',r',?_⟩;rcases q with⟨k,e⟩ | ⟨k,c,e,z⟩
    ·refine .inl ⟨k,?_⟩;have:y≠x:=λe=>hj (q9 hN e1 (e▸hi));simp[this,e]
    ·exact .inr ⟨k,c,e,z.sameBut hs (fV y c e)⟩
  ·obtain⟨w',z⟩:=I.cell y c e;exact⟨w',z.sameBut hs (fV y c e)⟩
  ·obtain⟨e,n,ne,nf,d⟩:=I.pin p hp;exact⟨(hs.2 p.1 ne).trans e,n,ne,nf,d⟩
 ·have rm:X.fn x=true:=by
   rcases hf with z | z
   ·exact z
   ·rw[z] at hk;cases hk
  obtain⟨c,hc⟩:=I.ok.has x (.inl hk);obtain⟨w',z⟩:=I.cell x c hc;refine wpAny_storeName_cell I.ok.kind hk hc z (λh' wF hs=>?_);obtain⟨oc,wG,BY⟩:=id z;refine h { s with heap:=h' } ⟨I.ok,I.os,I.bare,⟨λb o e n hb hx=>?_,λb o e n hb hx=>?_,I.base.free,λb o e hx=>?_,I.base.fB,I.base.eT,I.base.fD⟩,⟨m,hn.sameBut hs (Ne.symm (fV x c hc)),λj y v' e1 e2 e3=>?_⟩,λy c' e=>?_,I.free,I.d8,λp hp=>?_,tracked ⟨oc,wG,I.d8 x c hc⟩ hs,by simpa using I.len⟩ ⟨c,hs,.inr hc⟩
  ·exact(hs.2 b (Nat.ne_of_lt (Nat.lt_of_lt_of_le (Heap.lt_size e) (I.ok.iX x c rm hc)))).trans (I.base.keep b o e n hb hx)
  ·obtain⟨sl,e1⟩:=I.base.slot b o e n hb hx;exact⟨sl,(hs.2 b (Nat.ne_of_lt (Nat.lt_of_lt_of_le (Heap.lt_size e) (I.ok.iX x c rm hc)))).trans e1⟩
  ·obtain⟨o',e1⟩:=I.base.there b o e hx;exact⟨o',(hs.2 b (Nat.ne_of_lt (Nat.lt_of_lt_of_le (Heap.lt_size e) (I.ok.iX x c rm hc)))).trans e1⟩
  ·by_cases hj:j=i
   ·subst hj;rw[hi] at e1;cases e1;rw[List.getElem?_set_self wC] at e2;cases e2;exact⟨u,r,.inr ⟨.inl hk,c,hc,wF⟩⟩
   ·rw[List.getElem?_set_ne (Ne.symm hj)] at e2;obtain⟨u',r',q⟩:=hl j y v' e1 e2 e3;refine⟨u',r',?_⟩;rcases q with q | ⟨k,c',e,z'⟩
    ·exact .inl q
    ·refine .inr ⟨k,c',e,z'.sameBut hs ?_⟩;rintro rfl;exact hj (q9 hN e1 (I.ok.inj _ _ _ e hc▸hi))
  ·by_cases mQ:c' = c
   ·subst mQ;exact⟨_,wF⟩
   ·obtain⟨w2,z2⟩:=I.cell y c' e;exact⟨w2,z2.sameBut hs mQ⟩
  ·obtain⟨e,n,ne,nf,d⟩:=I.pin p hp;refine⟨(hs.2 p.1 ?_).trans e,n,ne,nf,d⟩;intro q;rw[q,wG] at e;have q':oc=p.2:=Option.some.inj e;exact d w' (by rw[← q'];exact BY)
theorem rq{M:Model}{A:Around}{E:Value->Shared->Prop}{i:Nat}{x:Str}{v:V}{u:Value}{Q:Unit->Shared->Prop}(I:Inv X pins σ H s)(hN:X.N.Nodup)(hi:X.N[i]? = some x)(hx:Loc X.env.scope x)(r:RelV v u)
  (h:∀s',Inv X pins (σ.set i (some v)) H s'->Q () s') (hf:X.fn x=true\/X.env.scope.names.lookup x=some .local:=by first | exact .inl rfl | exact .inr rfl | assumption):wpAny M A (storeName X.env x u) Q E s :=
 BX I hN hi hx r (λs' I' _=>h s' I') hf
theorem Inv.rz{s':Shared}{ch:List Addr}(I:Inv X pins σ H s)(ho:s'.os=s.os)(u:Un (bE X.stack) ch H H' s.heap s'.heap)(aD:bD X.prog X.w H' s'.heap)(hg:AllBare s'.gens)
  (gm:∀b∈ch,(b∈X.ex\/X.aR.heap.objs.size<=b)/\b≠X.env.locals/\(∀x c,X.env.cells.lookup x=some c->c≠b)/\∀p∈X.pn++pins,p.1≠b):Inv X pins σ H' s':=by
 obtain⟨h',g',d',t',o'⟩:=s';have e:o' = s.os:=ho;subst e;exact I.call (g':=g') (t':=t') (d':=d') u aD hg gm
end
noncomputable abbrev XK:=Value->Option Addr->Hp->Prop
noncomputable abbrev St:=List (Option V)
noncomputable abbrev VK:=V->Hp->Prop
noncomputable abbrev TE:=St->Hp->VK->Prop
noncomputable abbrev TT:=St->Hp->(Bool->Hp->Prop)->Prop
noncomputable abbrev TA:=St->Hp->(List V->Hp->Prop)->Prop
structure Ends where
 nx:St->Hp->Prop
 rt:VK
 bk:St->Hp->Prop:=λ_ _=>False
 ct:St->Hp->Prop:=λ_ _=>False
noncomputable abbrev TS:=Ends->St->Hp->Prop
noncomputable def EP(X:Cx)(pins:List (Addr×Obj))(σ:St)(Q:VK)(u:Value)(s':Shared):Prop:=∃v H',Inv X pins σ H' s'/\RelV v u/\Q v H'
noncomputable def TP(X:Cx)(pins:List (Addr×Obj))(σ:St)(Q:Bool->Hp->Prop)(b:Bool)(s':Shared):Prop:=∃H',Inv X pins σ H' s'/\Q b H'
noncomputable def AP(X:Cx)(pins:List (Addr×Obj))(σ:St)(Q:List V->Hp->Prop)(us:List Value)(s':Shared):Prop:=∃vs H',Inv X pins σ H' s'/\Vals vs us/\Q vs H'
noncomputable def SP(X:Cx)(pins:List (Addr×Obj))(D:Ends)(f:Flow)(s':Shared):Prop :=
 match f with
 | .next=>∃aN H',Inv X pins aN H' s'/\D.nx aN H'
 | .brk=>∃aN H',Inv X pins aN H' s'/\D.bk aN H'
 | .cont=>∃aN H',Inv X pins aN H' s'/\D.ct aN H'
 | .ret u=>∃v aN H',Inv X pins aN H' s'/\RelV v u/\D.rt v H'
noncomputable def PE(X:Cx)(e:Expr)(t:TE):Prop :=
 ∀(pins:List (Addr×Obj)) (s:Shared) (σ:St) (H:Hp) (Q:VK),Inv X pins σ H s->t σ H Q->wpAny (model X.prog X.w) X.A (eval e X.env) (EP X pins σ Q) X.xe s
noncomputable def PT(X:Cx)(e:Expr)(t:TT):Prop :=
 ∀(pins:List (Addr×Obj)) (s:Shared) (σ:St) (H:Hp) (Q:Bool->Hp->Prop),Inv X pins σ H s->t σ H Q->wpAny (model X.prog X.w) X.A (isTrue e X.env (eval e X.env)) (TP X pins σ Q) X.xe s
noncomputable def PW(X:Cx)(e:Expr)(t:TT):Prop :=
 ∀(whole:Sem Value) (pins:List (Addr×Obj)) (s:Shared) (σ:St) (H:Hp) (Q:Bool->Hp->Prop),Inv X pins σ H s->t σ H Q->wpAny (model X.prog X.w) X.A (isTrue e X.env whole) (TP X pins σ Q) X.xe s
theorem PW.pt{X:Cx}{e:Expr}{t:TT}(h:PW X e t):PT X e t:=h _
noncomputable def PA(X:Cx)(es:List Expr)(t:TA):Prop :=
 ∀(pos:Pos) (pins:List (Addr×Obj)) (s:Shared) (σ:St) (H:Hp) (Q:List V->Hp->Prop),Inv X pins σ H s->t σ H Q->wpAny (model X.prog X.w) X.A (spliced (backTo pos (starEach es X.env))) (AP X pins σ Q) X.xe s
noncomputable def PS(X:Cx)(st:Stmt)(t:TS):Prop :=
 ∀(pins:List (Addr×Obj)) (s:Shared) (σ:St) (H:Hp) (D:Ends),Inv X pins σ H s->t D σ H->wpAny (model X.prog X.w) X.A (exec st X.env) (SP X pins D) X.xe s
noncomputable def dN(X:Cx)(st:List Stmt)(t:TS):Prop :=
 ∀(pins:List (Addr×Obj)) (s:Shared) (σ:St) (H:Hp) (D:Ends),Inv X pins σ H s->t D σ H->wpAny (model X.prog X.w) X.A (execs st X.env) (SP X pins D) X.xe s
theorem aJ{α:Type}{t:Sem α}{Q Q':α->Shared->Prop}{M:Model}{A:Around}{E:Value->Shared->Prop}{s:Shared}(h:wpAny M A t Q E s)(hQ:∀a s,Q a s->Q' a s):wpAny M A t Q' E s:=wpAny_mono h hQ λ_ _ x=>x
section
variable{X:Cx}
noncomputable def wH(i:Nat):TE:=λσ H Q=>∃v,σ[i]? = some (some v)/\Q v H
noncomputable def tC(v:V):TE:=λ_ H Q=>Q v H
theorem BZ{i:Nat}{x:Str}{pos:Pos}(hN:X.N[i]? = some x)(hv:qV X.env.scope x)(hd:(x == ("__debug__" : Str))=false:=by decide)(cL:(x == ("__classdict__" : Str))=false:=by decide):PE X (.Name x pos) (wH i):=by
 intro pins s σ H Q I h;obtain⟨v,e,h⟩:=h;obtain⟨m,hn,hl⟩:=I.loc;obtain⟨u,r,l⟩:=hl i x v hN e hv;have fin:EP X pins σ Q u s:=⟨v,H,I,r,h⟩;rcases l with⟨hk,hm⟩ | ⟨hk,c,hc,wI⟩
 ·exact wpAny_Name (wpAny_loadName_local I.ok.kind hk hn hm fin) hd
 ·rcases hk with hk | hk
  ·exact wpAny_Name (wpAny_loadName_cell I.ok.kind hk hc wI fin) hd
  ·exact wpAny_Name (wpAny_loadName_free I.ok.kind hk hc wI fin cL) hd
theorem ak{i j pos}:PE X (.Constant (.int i) j pos) (tC (.int i)):=λ_ _ _ H _ I h=>wpAny_Constant_int ⟨.int i,H,I.tok _,⟨_,rfl⟩,h⟩
theorem gS{b j pos}:PE X (.Constant (.bool b) j pos) (tC (.bl b)):=λ_ _ _ H _ I h=>Constant_bool ⟨.bl b,H,I,rfl,h⟩
theorem wJ{j pos}:PE X (.Constant .none j pos) (tC .aG):=λ_ _ _ H _ I h=>Constant_none ⟨.aG,H,I,rfl,h⟩
theorem fF{x j pos}:PE X (.Constant (.str x) j pos) (tC (.str x)):=λ_ _ _ H _ I h=>Calls.Constant_str ⟨.str x,H,I.tok _,⟨_,rfl⟩,h⟩
noncomputable def Gl(X:Cx)(x:Str):Prop:=X.env.kindOf x=some .globalImplicit
theorem jP{E:Value->Shared->Prop}{pins:List (Addr×Obj)}{s:Shared}{σ:St}{H:Hp}{x:Str}{u:Value}{pos:Pos}{Q:Value->Shared->Prop}(I:Inv X pins σ H s)(hg:Gl X x)(hm:X.mg x=some u)(h:Q u s)
  (hd:(x == ("__debug__" : Str))=false:=by decide):wpAny (model X.prog X.w) X.A (eval (.Name x pos) X.env) Q E s :=
 Calls.Name_function_global I.ok.kind hg (Calls.loadGlobal_global (by rw[I.ok.glob];exact I.mod.glob.keeps I.bk) hm h) hd
theorem jQ{E:Value->Shared->Prop}{pins:List (Addr×Obj)}{s:Shared}{σ:St}{H:Hp}{x:Str}{u:Value}{pos:Pos}{Q:Value->Shared->Prop}(I:Inv X pins σ H s)(hg:Gl X x)(hm:X.mg x=none)(hv:bootBuiltins x=some u)(h:Q u s)
  (hn:x≠"__name__" := by decide) (hd:(x == ("__debug__" : Str))=false:=by decide):wpAny (model X.prog X.w) X.A (eval (.Name x pos) X.env) Q E s:=by
 obtain⟨mb,h1,h2⟩:=I.mod.blt;exact Calls.Name_function_global I.ok.kind hg (Calls.loadGlobal_builtin (by rw[I.ok.glob];exact I.mod.glob.keeps I.bk) hm (by rw[I.ok.blt];exact h1.keeps I.bk) ((h2 x hn).trans hv) h) hd
theorem dB{x:Str}{v:V}{u:Value}{pos:Pos}(hg:Gl X x)(hm:X.mg x=some u)(r:RelV v u)(hd:(x == ("__debug__" : Str))=false:=by decide):PE X (.Name x pos) (tC v) :=
 λ_ _ _ H _ I h=>jP I hg hm ⟨v,H,I,r,h⟩ hd
theorem eU{x:Str}{v:V}{u:Value}{pos:Pos}(hg:Gl X x)(hm:X.mg x=none)(hv:bootBuiltins x=some u)(r:RelV v u)(hn:x≠"__name__" := by decide)(hd:(x == ("__debug__" : Str))=false:=by decide):PE X (.Name x pos) (tC v) :=
 λ_ _ _ H _ I h=>jQ I hg hm hv ⟨v,H,I,r,h⟩ hn hd
variable{a b:Expr}{ta tb:TE}{pos:Pos}
noncomputable def PC(X:Cx)(op:CmpOp)(a b:Expr)(t:TE):Prop :=
 ∀(pins:List (Addr×Obj)) (s:Shared) (σ:St) (H:Hp) (Q:VK),Inv X pins σ H s->t σ H Q->
  wpAny (model X.prog X.w) X.A (eval a X.env) (λv bf=>wpAny (model X.prog X.w) X.A (eval b X.env) (λu iD=>wpAny (model X.prog X.w) X.A (compareOp op v u) (EP X pins σ Q) X.xe iD) X.xe bf) X.xe s
noncomputable def tB(t:TE):TT:=λσ H Q=>t σ H λx H1=>∃c,x = .bl c/\Q c H1
theorem rA{e:Expr}{t:TE}(h:PE X e t)(he:∀whole,isTrue e X.env whole=(do let v ← whole;standAt e.pos;holding [v] (truthy v)):=by intro _;rfl):PT X e (tB t):=by
 intro pins s σ H Q I hw;refine isTrue_plain (aJ (h pins s σ H _ I hw) λv s1 ⟨x,H1,I1,r1,q1⟩=>?_) (he _);obtain⟨d,rfl,q⟩:=q1;cases r1;exact wpAny_truthy_bool ⟨H1,I1,q⟩
variable{tA mR:TT}{rest:List Expr}
noncomputable def B0(t u:TT):TT:=λσ H Q=>t σ H λc H1=>if c=true then u σ H1 Q else Q false H1
noncomputable def B4(t u:TT):TT:=λσ H Q=>t σ H λc H1=>if c=true then Q true H1 else u σ H1 Q
noncomputable def B5(t:TT):TT:=λσ H Q=>t σ H λc H1=>Q (!c) H1
theorem mS(ha:PT X a tA):PW X (.BoolOp .And [a] pos) tA:=by
 intro wh pins s σ H Q I h;refine isTrue_and (aJ (ha pins s σ H Q I h) λc s1 e=>?_);cases c with
 | true=>exact isTrue_and_nil e
 | false=>exact e
theorem eV(ha:PT X a tA):PW X (.BoolOp .Or [a] pos) tA:=by
 intro wh pins s σ H Q I h;refine isTrue_or (aJ (ha pins s σ H Q I h) λc s1 e=>?_);cases c with
 | false=>exact isTrue_or_nil e
 | true=>exact e
theorem mT(ha:PT X a tA)(hb:PW X (.BoolOp .And (b::rest) pos) mR):PW X (.BoolOp .And (a::b::rest) pos) (B0 tA mR):=by
 intro wh pins s σ H Q I h;refine isTrue_and (aJ (ha pins s σ H _ I h) λc s1 ⟨H1,I1,q1⟩=>?_);cases c with
 | true=>exact hb wh pins s1 σ H1 Q I1 q1
 | false=>exact⟨H1,I1,q1⟩
theorem eW(ha:PT X a tA)(hb:PW X (.BoolOp .Or (b::rest) pos) mR):PW X (.BoolOp .Or (a::b::rest) pos) (B4 tA mR):=by
 intro wh pins s σ H Q I h;refine isTrue_or (aJ (ha pins s σ H _ I h) λc s1 ⟨H1,I1,q1⟩=>?_);cases c with
 | true=>exact⟨H1,I1,q1⟩
 | false=>exact hb wh pins s1 σ H1 Q I1 q1
theorem wK(ha:PT X a tA):PT X (.UnaryOp .Not a pos) (B5 tA):=by
 intro pins s σ H Q I h;exact isTrue_not (ha pins s σ H (λc H1=>Q (!c) H1) I h)
noncomputable def B6(ta tb:TE):TE:=λσ H Q=>ta σ H λx H1=>∃c,x = .bl c/\if c=true then tb σ H1 Q else Q (.bl false) H1
noncomputable def Lg(ta tb:TE):TE:=λσ H Q=>ta σ H λx H1=>∃c,x = .bl c/\if c=true then Q (.bl true) H1 else tb σ H1 Q
noncomputable def Lh(ta:TE):TE:=λσ H Q=>ta σ H λx H1=>∃c,x = .bl c/\Q (.bl (!c)) H1
theorem wL{op}{t:TE}(h:PE X a t):PE X (.BoolOp op [a] pos) t:=λpins s σ H Q I hw=>BoolOp_one (h pins s σ H Q I hw)
theorem wM(ha:PE X a ta)(hb:PE X (.BoolOp .And (b::rest) pos) tb):PE X (.BoolOp .And (a::b::rest) pos) (B6 ta tb):=by
 intro pins s σ H Q I h;refine BoolOp_and (aJ (ha pins s σ H _ I h) λv s1 ⟨x,H1,I1,r1,q1⟩=>?_);obtain⟨c,rfl,q1⟩:=q1;cases r1;refine wpAny_truthy_bool ?_;cases c with
 | true=>exact hb pins s1 σ H1 Q I1 q1
 | false=>exact⟨.bl false,H1,I1,rfl,q1⟩
noncomputable def Li(t:TT)(ta tb:TE):TE:=λσ H Q=>t σ H λc H1=>if c=true then ta σ H1 Q else tb σ H1 Q
end
noncomputable def aB(K:PySem.W.Frag)(H:Hp)(a:Addr)(xs:List V):Prop :=
 Rd H a (.lst xs)\/
  ∃(o:Obj) (aq:Array Value) (n:Nat),K.lookup a=some o/\o.cls = .type "list"/\o.dict=none/\o.data = .seq aq n/\aq.size<=sizeLine/\Vals xs aq.toList
noncomputable def bW(K:PySem.W.Frag)(H:Hp)(a:Addr)(xs:List V):Prop :=
 Rd H a (.tup xs)\/
  ∃(o:Obj) (aq:Array Value) (n:Nat),K.lookup a=some o/\o.cls = .type "tuple"/\o.data = .seq aq n/\aq.size<=sizeLine/\Vals xs aq.toList
noncomputable def B7:Value->Option V
 | .none=>some .aG
 | .bool b=>some (.bl b)
 | .int i _=>some (.int i)
 | .str x _=>some (.str x)
 | .bytes b _=>some (.dM b)
 | .float b _=>some (.fS b)
 | .ref a=>some (.ref a)
 | .type n=>some (.ty n)
 | _=>none
theorem RelV.abs{x:V}{u:Value}(r:RelV x u):B7 u=some x:=by
 cases x with
 | aG=>cases r;rfl
 | bl _=>cases r;rfl
 | int _=>obtain⟨t,rfl⟩:=r;rfl
 | str _=>obtain⟨t,rfl⟩:=r;rfl
 | dM _=>obtain⟨t,rfl⟩:=r;rfl
 | fS _=>obtain⟨t,rfl⟩:=r;rfl
 | ref _=>cases r;rfl
 | ty _=>cases r;rfl
theorem RelV.inj{x y:V}{u:Value}(r:RelV x u)(q:RelV y u):x=y:=Option.some.inj (r.abs.symm.trans q.abs)
theorem Vals.inj:∀ {xs ys:List V} {us:List Value},Vals xs us->Vals ys us->xs=ys
 | _,_,_,.nil,.nil=>rfl
 | _,_,_,.cons r t,.cons r' t'=>by rw[r.inj r',Vals.inj t t']
section
variable{X:Cx}{pins:List (Addr×Obj)}{σ:St}{H:Hp}{s:Shared}{a:Addr}{xs ys:List V}
theorem aB.of{K:PySem.W.Frag}(h:H a=some (.lst xs)):aB K H a xs:=.inl (.inl h)
theorem bW.of{K:PySem.W.Frag}(h:H a=some (.tup xs)):bW K H a xs:=.inl (.inl h)
theorem Inv.list(I:Inv X pins σ H s)(h:aB X.K H a xs):∃aq:List Value,Vals xs aq/\PlainL s.heap a aq.toArray/\xs.length<=sizeLine:=by
 rcases h with h | ⟨o,aq,n,hk,hc,hd,hs,hz,r⟩
 ·obtain⟨z,aq,n,r,e⟩:=h.ok I.aD;exact⟨aq,r,⟨_,n,e,rfl,rfl,rfl⟩,z⟩
 ·refine⟨aq.toList,r,⟨o,n,I.bR a o hk,hc,hd,by simpa using hs⟩,?_⟩
  have e:=r.length;simp only[Array.length_toList] at e;lia
theorem Inv.tuple(I:Inv X pins σ H s)(h:bW X.K H a xs):∃aq:List Value,Vals xs aq/\IsTup s.heap a aq.toArray/\xs.length<=sizeLine:=by
 rcases h with h | ⟨o,aq,n,hk,hc,hs,hz,r⟩
 ·obtain⟨z,aq,r,p⟩:=h.ok I.aD;exact⟨aq,r,p,z⟩
 ·refine⟨aq.toList,r,⟨o,I.bR a o hk,hc,n,by simpa using hs⟩,?_⟩
  have e:=r.length;simp only[Array.length_toList] at e;lia
theorem Inv.wN(I:Inv X pins σ H s)(h:aB X.K H a xs)(h':aB X.K H a ys):xs=ys:=by
 obtain⟨aq,r,⟨o,n,e,_,_,d⟩,_⟩:=I.list h;obtain⟨its',r',⟨o',n',e',_,_,d'⟩,_⟩:=I.list h';rw[e] at e';cases e';rw[d] at d';injection d' with d1 _;have:aq=its':=by simpa using congrArg Array.toList d1
 subst this;exact r.inj r'
end
noncomputable abbrev Cx.fG(X:Cx)(E:Value->Shared->Prop):Cx:={ X with xe:=E }
noncomputable abbrev Cx.kC(X:Cx):Cx:=X.fG λ_ _=>False
theorem Cx.Ok.fG{X:Cx}(ok:X.Ok)(E:Value->Shared->Prop):(X.fG E).Ok :=
 ⟨ok.mod,ok.kind,ok.glob,ok.blt,ok.above,ok.inj,ok.has,ok.iX,ok.hd,ok.frames,ok.jM,ok.jN,ok.bs,ok.fE,ok.iY,ok.iZ,ok.dz,ok.fU⟩
theorem Cx.Ok.gT{X:Cx}{E:Value->Shared->Prop}(ok:(X.fG E).Ok):X.Ok :=
 ⟨ok.mod,ok.kind,ok.glob,ok.blt,ok.above,ok.inj,ok.has,ok.iX,ok.hd,ok.frames,ok.jM,ok.jN,ok.bs,ok.fE,ok.iY,ok.iZ,ok.dz,ok.fU⟩
section
variable{X:Cx}{pins:List (Addr×Obj)}{σ:St}{H:Hp}{s:Shared}{E:Value->Shared->Prop}
theorem Inv.fG(I:Inv X pins σ H s)(E:Value->Shared->Prop):Inv (X.fG E) pins σ H s:=⟨I.ok.fG E,I.os,I.bare,I.base,I.loc,I.cell,I.free,I.d8,I.pin,I.aD,I.len⟩
theorem Inv.gT(I:Inv (X.fG E) pins σ H s):Inv X pins σ H s:=⟨I.ok.gT,I.os,I.bare,I.base,I.loc,I.cell,I.free,I.d8,I.pin,I.aD,I.len⟩
theorem SP.gT{D:Ends}{f:Flow}{s':Shared}(h:SP (X.fG E) pins D f s'):SP X pins D f s':=by
 cases f with
 | next=>obtain⟨aN,H',I,q⟩:=h;exact⟨aN,H',I.gT,q⟩
 | brk=>obtain⟨aN,H',I,q⟩:=h;exact⟨aN,H',I.gT,q⟩
 | cont=>obtain⟨aN,H',I,q⟩:=h;exact⟨aN,H',I.gT,q⟩
 | ret u=>obtain⟨v,aN,H',I,r,q⟩:=h;exact⟨v,aN,H',I.gT,r,q⟩
theorem dN.kC{st:List Stmt}{t:TS}(h:dN X.kC st t):dN X st t:=λpins s σ H D I hw =>
 wpAny_mono (h pins s σ H D (I.fG _) hw) (λ_ _ q=>q.gT) λ_ _ z=>False.elim z
end
section
variable{X:Cx}{st:Stmt}{rest:List Stmt}{t u:TS}{e:Expr}{te:TE}{pos:Pos}
noncomputable def B8:TS:=λD σ H=>D.nx σ H
noncomputable def wO(t u:TS):TS:=λD σ H=>t { D with nx:=u D } σ H
theorem br:dN X [] B8:=λ_ _ σ H _ I h=>wpAny_execs_nil ⟨σ,H,I,h⟩
theorem aF(h1:PS X st t)(h2:dN X rest u):dN X (st::rest) (wO t u):=by
 intro pins s σ H D I h;refine wpAny_execs_cons (aJ (h1 pins s σ H { D with nx:=u D } I h) λf s1 q=>?_);cases f with
 | next =>
  obtain⟨aN,H',I',q⟩:=q;exact h2 pins s1 aN H' D I' q
 | ret v=>exact q
 | brk=>exact q
 | cont=>exact q
theorem aH(h1:PS X st t):dN X [st] t:=by
 intro pins s σ H D I h;refine wpAny_execs_cons (aJ (h1 pins s σ H D I h) λf s1 q=>?_);cases f with
 | next=>exact wpAny_execs_nil q
 | ret v=>exact q
 | brk=>exact q
 | cont=>exact q
theorem Inv.quiet{pins:List (Addr×Obj)}{σ:St}{H:Hp}{s:Shared}(I:Inv X pins σ H s):interactive X.env=false:=by simp[interactive,I.ok.kind]
noncomputable def wQ(te:TE):TS:=λD σ H=>te σ H λ_ H1=>D.nx σ H1
theorem gU(he:PE X e te)(hs:swapsWith e none pos.line X.env=pure false:=by rfl):PS X (.Expr e pos) (wQ te):=by
 intro pins s σ H D I h;exact wpAny_Expr_any (aJ (he pins s σ H _ I h) λv s1 ⟨x,H1,I1,r1,q1⟩=>⟨σ,H1,I1,q1⟩) I.quiet hs
noncomputable def B9(te:TE):TS:=λD σ H=>te σ H D.rt
theorem bG(he:PE X e te):PS X (.Return (some e) pos) (B9 te):=by
 intro pins s σ H D I h;exact wpAny_Return_some (aJ (he pins s σ H _ I h) λv s1 ⟨x,H1,I1,r1,q1⟩=>⟨x,σ,H1,I1,r1,q1⟩)
noncomputable def Lj:TS:=λD _ H=>D.rt .aG H
noncomputable def B_(c:TT)(t u:TS):TS:=λD σ H=>c σ H λb H1=>if b=true then t D σ H1 else u D σ H1
theorem bu{c:Expr}{a b:List Stmt}{tc:TT}(hc:PT X c tc)(ha:dN X a t)(hb:dN X b u):PS X (.If c a b pos) (B_ tc t u):=by
 intro pins s σ H D I h;refine wpAny_If (aJ (hc pins s σ H _ I h) λd s1 ⟨H1,I1,q1⟩=>?_);cases d with
 | true=>exact ha pins s1 σ H1 D I1 q1
 | false=>exact hb pins s1 σ H1 D I1 q1
noncomputable def Lk:TS:=λ_ _ _=>False
end
noncomputable abbrev TG:=V->St->Hp->(St->Hp->Prop)->Prop
noncomputable abbrev i7:=List V->St->Hp->(St->Hp->Prop)->Prop
noncomputable def PG(X:Cx)(target:Expr)(t:TG):Prop :=
 ∀(pins:List (Addr×Obj)) (s:Shared) (σ:St) (H:Hp) (v:V) (u:Value) (Q:St->Hp->Prop),Inv X pins σ H s->RelV v u->t v σ H Q->
  wpAny (model X.prog X.w) X.A (assign target X.env u) (λ_ s'=>∃aN H',Inv X pins aN H' s'/\Q aN H') X.xe s
noncomputable def kD(X:Cx)(ts:List Expr)(t:i7):Prop :=
 ∀(pins:List (Addr×Obj)) (s:Shared) (σ:St) (H:Hp) (vs:List V) (us:List Value) (Q:St->Hp->Prop),Inv X pins σ H s->Vals vs us->t vs σ H Q->
  wpAny (model X.prog X.w) X.A (assignInOrder ((assignEach ts X.env).map (·.2)) us) (λ_ s'=>∃aN H',Inv X pins aN H' s'/\Q aN H') X.xe s
noncomputable abbrev rB:=V->V->V->Hp->(Hp->Prop)->Prop
noncomputable def wR(X:Cx)(t:rB):Prop :=
 ∀(pins:List (Addr×Obj)) (s:Shared) (σ:St) (H:Hp) (o i v:V) (ov iv u:Value) (Q:Hp->Prop),Inv X pins σ H s->RelV o ov->RelV i iv->RelV v u->t o i v H Q->
  wpAny (model X.prog X.w) X.A (setItem ov iv u) (λ_ s'=>∃H',Inv X pins σ H' s'/\Q H') X.xe s
section
variable{X:Cx}{pos:Pos}
noncomputable def mU(i:Nat):TG:=λv σ H Q=>Q (σ.set i (some v)) H
theorem cy{i:Nat}{x:Str}(hN:X.N.Nodup)(hi:X.N[i]? = some x)(hx:Loc X.env.scope x)(hf:X.fn x=true\/X.env.scope.names.lookup x=some .local:=by first | exact .inl rfl | exact .inr rfl | assumption):PG X (.Name x pos) (mU i):=by
 intro pins s σ H v u Q I r h;exact wpAny_assign_Name (rq I hN hi hx r (λs' I'=>⟨_,H,I',h⟩) hf)
noncomputable def wU:i7:=λvs σ H Q=>vs = []/\Q σ H
noncomputable def rC(t:TG)(u:i7):i7:=λvs σ H Q=>∃v r,vs=v::r/\t v σ H λaN H'=>u r aN H' Q
theorem i8:kD X [] wU:=by
 intro pins s σ H vs us Q I r h;obtain⟨e,h⟩:=h;subst e;cases r;exact assignInOrder_nil ⟨σ,H,I,h⟩
theorem d9{e:Expr}{es:List Expr}{t:TG}{u:i7}(h1:PG X e t)(h2:kD X es u)
  (hs:(assignEach (e::es) X.env).map (·.2)=assign e X.env::(assignEach es X.env).map (·.2):=by rfl):kD X (e::es) (rC t u):=by
 intro pins s σ H vs us Q I r h;obtain⟨v,vr,e1,h⟩:=h;subst e1;cases r with
 | cons r rr =>
  rw[hs];refine assignInOrder_cons (aJ (h1 pins s σ H _ _ _ I r h) λ_ s1 ⟨jR,H1,I1,q1⟩=>?_);exact h2 pins s1 jR H1 _ _ Q I1 rr q1
noncomputable def wV(K:PySem.W.Frag)(n:Nat)(t:i7):TG:=λv σ H Q=>∃a xs,v = .ref a/\bW K H a xs/\xs.length=n/\t xs σ H Q
theorem i9{es:List Expr}{k:Nat}{t:i7}{n:Nat}(hc:X.calm=true)(h:kD X es t)
  (hn:(assignEach es X.env).length=n:=by rfl) (kE:(assignEach es X.env).findIdx? (·.1)=none:=by rfl):PG X (.Tuple es k pos) (wV X.K n t):=by
 intro pins s σ H v u Q I r hw;obtain⟨a,xs,e1,hq,hl,hw⟩:=hw;subst e1;cases r;obtain⟨aq,rv,ht,hz⟩:=I.tuple hq;refine assign_Tuple_tuple (I.ok.hd hc) ht (by simp[hn,← hl,rv.length]) kE λh' hx=>?_
 have I1:Inv X pins σ H { s with heap:=h' }:=I.kept (t':=s.toks) λb o e=>hx b o (Nat.ne_of_lt (Heap.lt_size e)) e;exact h pins _ σ H xs _ Q I1 (by simpa using rv) hw
noncomputable def Ca(to ti:TE)(t:rB):TG:=λv σ H Q=>to σ H λo H1=>ti σ H1 λi H2=>t o i v H2 λH3=>Q σ H3
theorem i_{o i:Expr}{to ti:TE}{t:rB}(ho:PE X o to)(hi:PE X i ti)(hs:wR X t)
  (ha:∀v,assign (.Subscript o i pos) X.env v=(do
   let ov ← holding [v] (eval o X.env)
   let iv ← holding [v,ov] (eval i X.env)
   standAt pos
   holding [v,ov,iv] (setItem ov iv v)
   release [v,ov,iv] []):=by intro _;rfl):PG X (.Subscript o i pos) (Ca to ti t):=by
 intro pins s σ H v u Q I r h;rw[ha];refine wpAny_bind (wpAny_holding (aJ (ho pins s σ H _ I h) λov s1 ⟨x,H1,I1,r1,q1⟩=>?_));refine wpAny_bind (wpAny_holding (aJ (hi pins s1 σ H1 _ I1 q1) λiv s2 ⟨y,H2,I2,r2,q2⟩=>?_));refine wpAny_bind (wpAny_standAt (wpAny_bind (wpAny_holding (aJ (hs pins s2 σ H2 x y v ov iv u _ I2 r1 r2 r q2) λ_ s3 ⟨H3,I3,q3⟩=>?_))));exact wpAny_release ⟨σ,H3,I3,q3⟩
noncomputable def wW(te:TE)(g:TG):TS:=λD σ H=>te σ H λx H1=>g x σ H1 D.nx
theorem jc{tg e:Expr}{te:TE}{g:TG}(he:PE X e te)(hg:PG X tg g)(hs:swapsWithSole [tg] e pos.line X.env=pure false:=by rfl)(hw:swappedStores [tg] e X.env=pure none:=by rfl)
  (h1:(assignEach [tg] X.env).map (·.2) = [assign tg X.env]:=by rfl):PS X (.Assign [tg] e pos) (wW te g):=by
 intro pins s σ H D I h;refine wpAny_Assign_stores (aJ (he pins s σ H _ I h) λv s1 ⟨x,H1,I1,r1,q1⟩=>?_) hs hw;rw[h1];exact aJ (hg pins s1 σ H1 x v _ I1 r1 q1) λ_ s2 q=>q
theorem bz{i:Nat}{x:Str}{e:Expr}{te:TE}{pos':Pos}(hN:X.N.Nodup)(hi:X.N[i]? = some x)(hx:Loc X.env.scope x)(he:PE X e te)(hs:swapsWith e (some (.Name x pos')) pos.line X.env=pure false:=by rfl)(hf:X.fn x=true\/X.env.scope.names.lookup x=some .local:=by first | exact .inl rfl | exact .inr rfl | assumption) :
  PS X (.Assign [.Name x pos'] e pos) (wW te (mU i)):=by
 intro pins s σ H D I h;refine wpAny_Assign_Name (aJ (he pins s σ H _ I h) λv s1 ⟨y,H1,I1,r1,q1⟩=>?_) hs;exact rq I1 hN hi hx r1 (λs2 I2=>⟨_,H1,I2,q1⟩) hf
end
section
variable{X:Cx}{pos:Pos}
end
structure It where
 go:Nat->Hp->Prop
 jd:Nat->Hp->V->Hp->Prop
 stop:Nat->Hp->Prop
noncomputable def gn(X:Cx)(pins:List (Addr×Obj))(H:Hp)(b:Addr):Prop :=
 H b=none/\b≠X.env.locals/\b∉X.fs/\(b∈X.ex\/X.aR.heap.objs.size<=b)/\(∀x c,X.env.cells.lookup x=some c->c≠b)/\∀p∈X.pn++pins,p.1≠b
theorem Inv.kF{X:Cx}{pins:List (Addr×Obj)}{σ:St}{H H':Hp}{s:Shared}{b:Addr}(I:Inv X pins σ H s)(hb:s.heap.objs.size<=b)(hn:H' b=none):gn X pins H' b:=by
 refine⟨hn,Nat.ne_of_gt (Nat.lt_of_lt_of_le I.lt hb),I.BV hb,.inr (Nat.le_trans I.sz hb),λx c e z=>?_,λp hp z=>?_⟩
 ·obtain⟨v,q⟩:=I.cell x c e;exact absurd (Nat.lt_of_lt_of_le q.lt (by rw[z];exact hb)) (Nat.lt_irrefl _)
 ·exact absurd (Nat.lt_of_lt_of_le (Heap.lt_size (I.pin p hp).1) (by rw[z];exact hb)) (Nat.lt_irrefl _)
structure Turn(P:Program)(w:World)(K:PySem.W.Frag)(tg:Expr)(J:It)(fp:List Addr)(it:Addr)(tn:Nat->Heap->Prop):Prop where
 mem:it∈fp
 obj:∀i h,tn i h->∀b∈fp,∃o,h.get? b=some o/\∀v,o.data≠.cell v
 keep:∀i h h',tn i h->(∀b∈fp,∀o,h.get? b=some o->h'.get? b=some o)->tn i h'
 item:∀(X:Cx),X.prog=P->X.w=w->X.K=K->X.calm=true->∀(i:Nat) (pins:List (Addr×Obj)) (s:Shared) (σ:St) (H:Hp) (E:Value->Shared->Prop),Inv X pins σ H s->(∀b∈fp,gn X pins H b)->tn i s.heap->J.go i H->
  wpAny (model P w) X.A (pyNext (.ref it)) (λr s1=>∃u,r=some u/\
   wpAny (model P w) X.A (letOwnedTupleGo tg (.ref it) u) (λ_ s2=>∃x H',Inv X pins σ H' s2/\RelV x u/\J.jd i H x H'/\tn (i+1) s2.heap/\∀b∈fp,H' b=none) E s1) E s
 done:∀(X:Cx),X.prog=P->X.w=w->X.K=K->X.calm=true->∀(i:Nat) (pins:List (Addr×Obj)) (s:Shared) (σ:St) (H:Hp) (E:Value->Shared->Prop),Inv X pins σ H s->(∀b∈fp,gn X pins H b)->tn i s.heap->J.stop i H->
  wpAny (model P w) X.A (pyNext (.ref it)) (λr s1=>r=none/\Inv X pins σ H s1) E s
 self:∀(A:Around) (i:Nat) (s:Shared) (Q:Value->Shared->Prop) (E:Value->Shared->Prop),tn i s.heap->Q (.ref it) s->wpAny (model P w) A (pyIter (.ref it)) Q E s
noncomputable abbrev TI:=St->Hp->(It->Hp->Prop)->Prop
noncomputable def wX(X:Cx)(pins:List (Addr×Obj))(σ:St)(tg:Expr)(R:It->Hp->Prop)(rD:Value)(s2:Shared):Prop :=
 ∃(it:Addr) (fp:List Addr) (tn:Nat->Heap->Prop) (J:It) (H':Hp),rD = .ref it/\Inv X pins σ H' s2/\Turn X.prog X.w X.K tg J fp it tn/\tn 0 s2.heap/\(∀b∈fp,gn X pins H' b)/\R J H'
noncomputable def PI(X:Cx)(tg iter:Expr)(wi:TI):Prop :=
 ∀(pins:List (Addr×Obj)) (s:Shared) (σ:St) (H:Hp) (R:It->Hp->Prop),Inv X pins σ H s->wi σ H R->
  wpAny (model X.prog X.w) X.A (eval iter X.env) (λv s1=>wpAny (model X.prog X.w) X.A (pyIter v) (wX X pins σ tg R) X.xe s1) X.xe s
theorem wY{M:Model}{A:Around}{E:Value->Shared->Prop}{s:Shared}{tg:Expr}{it:Addr}{u:Value}{o:Obj}{n:String}{vs:Array Value}{Q:Unit->Shared->Prop}(ho:s.heap.get? it=some o)(hc:o.cls = .type n)(hd:o.data = .fields vs)
  (hn:["enumerate", "zip", "dict_itemiterator", "dict_reverseitemiterator", "odict_iterator", "itertools.zip_longest", "itertools.pairwise"].contains n=false) (hQ:Q () s):wpAny M A (letOwnedTupleGo tg (.ref it) u) Q E s:=by
 unfold letOwnedTupleGo;cases tg <;> first
  | exact wpAny_pure hQ
  | (cases u <;> first
    | exact wpAny_pure hQ
    | (refine wpAny_bind (wpAny_load ho ?_)
       rw[hc,hd]
       show wpAny M A (if (["enumerate", "zip", "dict_itemiterator", "dict_reverseitemiterator", "odict_iterator", "itertools.zip_longest", "itertools.pairwise"].contains n && vs[0]? == some (rawInt _))=true then _ else _) Q E s
       rw[if_neg (by intro h;rw[hn,Bool.false_and] at h;cases h)]
       exact wpAny_pure hQ))
noncomputable def kG(K:PySem.W.Frag)(a:Addr):It :=
 ⟨λi H=>∃xs x,aB K H a xs/\xs[i]? = some x,λi H x H'=>H' = H/\∀xs,aB K H a xs->xs[i]? = some x,λi H=>∃xs,aB K H a xs/\xs.length<=i⟩
noncomputable def je(lo:Int)(n:Nat):It:=⟨λi _=>i<n,λi H x H'=>H' = H/\x = .int (lo+i),λi _=>n<=i⟩
theorem Cb{P:Program}{w:World}{K:PySem.W.Frag}{tg:Expr}(a it:Addr):Turn P w K tg (kG K a) [it] it (λi h=>h.IsListIter it a i) where
 mem:=by simp
 obj:=λi h st b hb=>by
  have e:b=it:=by simpa using hb
  subst e;obtain⟨o,e,c,d⟩:=st;exact⟨o,e,λv z=>by rw[d] at z;cases z⟩
 keep:=λi h h' st k=>st.at λo e=>k it (by simp) o e
 item:=by
  intro X hP hw hK hc i pins s σ H E I hf st hg;subst hP hw hK;obtain⟨xs,x,hq,hx⟩:=hg;obtain⟨aq,rv,p,hz⟩:=I.list hq;obtain⟨u,hu,ru⟩:=rv.get hx;obtain⟨f0,f1,f2,f3,f4,f5⟩:=hf it (by simp)
  refine wpAny_pyNext_list_item st p.isList (x:=u) (by simpa using hu) λh' ah sb=>?_
  have I1:Inv X pins σ H { s with heap:=h' }:=I.turned (t':=s.toks) (λb o hb e=>(sb.2 b hb).trans e) f0 f1 f3 f4 f5;obtain⟨o,e,c,d⟩:=id ah;exact⟨u,rfl,wY (s:={ s with heap:=h' }) e c d (by decide) ⟨x,H,I1,ru,⟨rfl,λys hy=>by rw[I.wN hy hq];exact hx⟩,ah,λb hb=>(hf b hb).1⟩⟩
 done:=by
  intro X hP hw hK hc i pins s σ H E I hf st hg;subst hP hw hK;obtain⟨xs,hq,hx⟩:=hg;obtain⟨aq,rv,p,hz⟩:=I.list hq;obtain⟨f0,f1,f2,f3,f4,f5⟩:=hf it (by simp)
  have hl:=rv.length;exact wpAny_pyNext_list_end (I.ok.hd hc) st p.isList (by simp;lia) λh' eb=>⟨rfl,I.turned (t':=s.toks) (λb o hb e=>eb b o hb e) f0 f1 f3 f4 f5⟩
 self:=λ_ _ _ _ _ st h=>wpAny_pyIter_listiter st h
theorem Cc{P:Program}{w:World}{K:PySem.W.Frag}{tg:Expr}(it:Addr)(lo:Int)(n:Nat):Turn P w K tg (je lo n) [it] it (λi h=>IsRangeIter h it (lo+(i:Nat)*1) ((n:Int) - (i:Nat)) 1) where
 mem:=by simp
 obj:=λi h st b hb=>by
  have e:b=it:=by simpa using hb
  subst e;exact⟨_,st,λv z=>by
   have z':Data.fields _=Data.cell v:=z;cases z'⟩
 keep:=λi h h' st k=>k it (by simp) _ st
 item:=by
  intro X hP hw hK hc i pins s σ H E I hf st hg;subst hP hw hK;obtain⟨f0,f1,f2,f3,f4,f5⟩:=hf it (by simp)
  have W:=Walks.range (prog:=X.prog) (w:=X.w) (I.ok.hd hc) it lo 1 n;refine W.item i s _ _ hg st λv h' tk hv ah kk=>?_;obtain⟨t,rfl⟩:=hv;have I1:Inv X pins σ H { s with heap:=h',toks:=tk }:=I.turned (λb o hb e=>kk b o (by simpa using hb) e) f0 f1 f3 f4 f5
  refine⟨_,rfl,wY (s:={ s with heap:=h',toks:=tk }) (n := "range_iterator") ah rfl rfl (by decide) ⟨.int (lo+i),H,I1,⟨t,?_⟩,⟨rfl,rfl⟩,ah,λb hb=>(hf b hb).1⟩⟩
  rw[Int.mul_one]
 done:=by
  intro X hP hw hK hc i pins s σ H E I hf st hg;subst hP hw hK;obtain⟨f0,f1,f2,f3,f4,f5⟩:=hf it (by simp)
  exact wpAny_pyNext_range_end (I.ok.hd hc) st (by have:n<=i:=hg;lia) λh' eb=>⟨rfl,I.turned (t':=s.toks) (λb o hb e=>eb b o hb e) f0 f1 f3 f4 f5⟩
 self:=λ_ _ _ _ _ st h=>wpAny_pyIter_rangeiter st h
section
variable{X:Cx}{tg:Expr}
noncomputable def jf(K:PySem.W.Frag)(tl:TE):TI:=λσ H R=>tl σ H λx H1=>∃a,x = .ref a/\(∃xs,aB K H1 a xs)/\R (kG K a) H1
theorem jg{l:Expr}{tl:TE}(hl:PE X l tl):PI X tg l (jf X.K tl):=by
 intro pins s σ H R I h;refine aJ (hl pins s σ H _ I h) λv s1 ⟨x,H1,I1,r1,q1⟩=>?_;obtain⟨a,e,⟨xs,hq⟩,q⟩:=q1;subst e;cases r1;obtain⟨aq,rv,p,hz⟩:=I1.list hq;refine wpAny_pyIter_list p.isList ?_;refine⟨s1.heap.objs.size,[s1.heap.objs.size],_,_,H1,rfl,I1.kept (t':=s1.toks) λb o e=>Heap.get?_push_of_some _ e,Cb a _,⟨_,Heap.get?_push_size _ rfl,rfl,rfl⟩,λb hb=>?_,q⟩;have e:b=s1.heap.objs.size:=by simpa using hb
 subst e;exact I1.kF (Nat.le_refl _) (I1.aD.fresh (Nat.le_refl _))
theorem wZ{pins:List (Addr×Obj)}{σ:St}{H:Hp}{s:Shared}{R:It->Hp->Prop}{E:Value->Shared->Prop}{lo hi:Int}{t u v:Tok}{tk:Nat}(I:Inv X pins σ H s)(h1 : -(2 ^ 62)<=lo)(h2:lo<2 ^ 62)(h3 : -(2 ^ 62)<=hi)(h4:hi<2 ^ 62)
  (q:R (je lo (hi - lo).toNat) H):wpAny (model X.prog X.w) X.A (pyIter (.ref s.heap.objs.size)) (wX X pins σ tg R) E { s with heap:=s.heap.push { cls:=.type "range",data:=.fields #[.int lo t,.int hi u,.int 1 v] },toks:=tk }:=by
 refine wpAny_pyIter_range (IsRange.new ..) (small_one h1 h2 h3 h4) ?_;have I1:Inv X pins σ H { s with heap:=s.heap.push { cls:=.type "range",data:=.fields #[.int lo t,.int hi u,.int 1 v] },toks:=tk }:=I.kept λb o e=>Heap.get?_push_of_some _ e;refine⟨(s.heap.push { cls:=.type "range",data:=.fields #[.int lo t,.int hi u,.int 1 v] }).objs.size,[(s.heap.push { cls:=.type "range",data:=.fields #[.int lo t,.int hi u,.int 1 v] }).objs.size],_,_,H,rfl,
  I1.kept (t':=tk) λb o e=>Heap.get?_push_of_some _ e,Cc _ lo (hi - lo).toNat,?_,λb hb=>?_,q⟩
 ·have e1:lo+((0:Nat):Int)*1=lo:=by simp
  have e2:(((hi - lo).toNat:Nat):Int) - ((0:Nat):Int)=Builtin.Range.rangeSize lo hi 1:=by rw[rangeSize_one];split <;> lia
  show IsRangeIter _ _ (lo+((0:Nat):Int)*1) ((((hi - lo).toNat:Nat):Int) - ((0:Nat):Int)) 1;rw[e1,e2];exact Heap.get?_push_size _ rfl
 ·have e:b=(s.heap.push { cls:=.type "range",data:=.fields #[.int lo t,.int hi u,.int 1 v] }).objs.size:=by simpa using hb
  subst e;exact I1.kF (Nat.le_refl _) (I1.aD.fresh (Nat.le_refl _))
noncomputable def kH(ta:TA):TI:=λσ H R=>ta σ H λvs H1=>∃j:Int,vs = [.int j]/\-(2 ^ 62)<=j/\j<2 ^ 62/\R (je 0 j.toNat) H1
noncomputable def kI(ta:TA):TI:=λσ H R=>ta σ H λvs H1=>∃i j:Int,vs = [.int i,.int j]/\(-(2 ^ 62)<=i/\i<2 ^ 62/\-(2 ^ 62)<=j/\j<2 ^ 62)/\R (je i (j - i).toNat) H1
theorem rE{a:Expr}{ta:TA}{p pos:Pos}(hg:Gl X "range")(hm:X.mg "range" = none)(ha:PA X [a] ta)(hs:starEach [a] X.env = [(false,eval a X.env)]:=by rfl):PI X tg (.Call (.Name "range" p) [a] [] pos) (kH ta):=by
 intro pins s σ H R I h;refine Call_ (jQ I hg hm boot_range (PyProof.Rows.callWith_type1 (aJ (ha pos pins s σ H _ I h) λus s1 ⟨vs,H1,I1,r1,q1⟩=>?_) hs rfl));obtain⟨j,e,q1,q2,q⟩:=q1;subst e;cases r1 with
 | cons r rr =>
  cases rr;obtain⟨t,rfl⟩:=r;exact call_range_1 (wZ I1 (by lia) (by lia) q1 q2 (by simpa using q))
theorem jS{a b:Expr}{ta:TA}{p pos:Pos}(hg:Gl X "range")(hm:X.mg "range" = none)(ha:PA X [a,b] ta)(hs:starEach [a,b] X.env = [(false,eval a X.env),(false,eval b X.env)]:=by rfl)(gq:starEach [b] X.env = [(false,eval b X.env)]:=by rfl) :
  PI X tg (.Call (.Name "range" p) [a,b] [] pos) (kI ta):=by
 intro pins s σ H R I h;refine Call_ (jQ I hg hm boot_range (PyProof.Rows.callWith_type1 (aJ (ha pos pins s σ H _ I h) λus s1 ⟨vs,H1,I1,r1,q1⟩=>?_) (by rw[hs,gq]) (by rw[gq];rfl)))
 obtain⟨i,j,e,⟨q1,q2,q3,q4⟩,q⟩:=q1;subst e;cases r1 with
 | cons r rr =>
  cases rr with
  | cons r' rr =>
   cases rr;obtain⟨t,rfl⟩:=r;obtain⟨t',rfl⟩:=r';exact call_range_2 (wZ I1 q1 q2 q3 q4 q)
noncomputable def gr(wi:TI)(g:TG)(tb:TS):TS:=λD σ H=>wi σ H λJ H1=>∃W:Nat->Nat->St->Hp->Prop,(∃m,W 0 m σ H1)/\∀i m σ H,W i m σ H->
 (J.stop i H/\D.nx σ H)\/(J.go i H/\∃N:St->Hp->Prop,(∀aN H',N aN H'->∃m',m' < m/\W (i+1) m' aN H')/\∀x H',J.jd i H x H'->g x σ H' λaC H2=>tb { D with nx:=N,ct:=N,bk:=D.nx } aC H2)
noncomputable def kJ(fp:List Addr)(h:Heap):List (Addr×Obj):=fp.filterMap λb=>(h.get? b).map λo=>(b,o)
theorem mV{fp:List Addr}{h:Heap}{b:Addr}{o:Obj}(hb:b∈fp)(e:h.get? b=some o):(b,o)∈kJ fp h:=List.mem_filterMap.mpr ⟨b,hb,by rw[e];rfl⟩
theorem Cd{fp:List Addr}{h:Heap}{p:Addr×Obj}(hp:p∈kJ fp h):p.1∈fp/\h.get? p.1=some p.2:=by
 obtain⟨b,hb,e⟩:=List.mem_filterMap.mp hp;cases q:h.get? b with
 | none=>rw[q] at e;cases e
 | some o =>
  rw[q] at e;have e':(b,o)=p:=Option.some.inj e;subst e';exact⟨hb,q⟩
theorem Inv.pinned{pins:List (Addr×Obj)}{σ:St}{H:Hp}{s:Shared}{fp:List Addr}(I:Inv X pins σ H s)(hf:∀b∈fp,gn X pins H b)(ho:∀b∈fp,∃o,s.heap.get? b=some o/\∀v,o.data≠.cell v):Inv X (pins++kJ fp s.heap) σ H s :=
 I.wA λp hp=>(List.mem_append.mp hp).elim (λz=>I.pin p (List.mem_append_right _ z)) λz=>by
  obtain⟨hb,e⟩:=Cd z;obtain⟨f0,f1,f2,_⟩:=hf p.1 hb;obtain⟨o,e',d⟩:=ho p.1 hb;rw[e] at e';cases e';exact⟨e,f0,f1,f2,d⟩
theorem Inv.kK{pins pl:List (Addr×Obj)}{σ:St}{H:Hp}{s:Shared}(I:Inv X (pins++pl) σ H s):Inv X pins σ H s:=I.wA λp hp=>I.pin p (List.mem_append_right _ (List.mem_append_left _ hp))
theorem d_{iter:Expr}{body:List Stmt}{wi:TI}{g:TG}{tb:TS}{pos:Pos}(hp:PassesOwn (model X.prog X.w) X.A X.env X.xe)(hc:X.calm=true)(hi:PI X tg iter wi)(hg:PG X tg g)(hb:dN X body tb)
  (hs:∀x,foldedSetIterable iter X.env x=pure x:=by intro _;rfl):PS X (.For tg iter body [] pos) (gr wi g tb):=by
 intro pins s σ H D I h;refine wpAny_For (aJ (hi pins s σ H _ I h) λv s1 h1=>aJ h1 λrD s2 h2=>?_) hs;obtain⟨it,fp,tn,J,H2,e,I2,T,aK,f2,W,⟨m0,w0⟩,turn⟩:=h2;subst e
 -- what stays true of the iterator's objects through the loop
 have jh:∀ {H':Hp},(∀b∈fp,H' b=none)->∀b∈fp,gn X pins H' b:=λhn b hb=>⟨hn b hb,(f2 b hb).2⟩;refine codeAny_forLoop_any (λn s'=>∃i aN H',Inv X pins aN H' s'/\tn i s'.heap/\(∀b∈fp,H' b=none)/\W i n aN H') ?_ m0 ⟨0,σ,H2,I2,aK,λb hb=>(f2 b hb).1,w0⟩;rintro n s3 ⟨i,gu,H3,I3,bT,ji,w3⟩;rcases turn i n gu H3 w3 with⟨stop,qn⟩ | ⟨go,N,hN,step⟩
 ·refine wpAny_passesOwn hp (aJ (T.done X rfl rfl rfl hc i pins s3 gu H3 X.xe I3 (jh ji) bT stop) λr s4 ⟨hr,I4⟩=>?_);subst hr;exact wpAny_execs_nil ⟨gu,H3,I4,qn⟩
 ·refine wpAny_passesOwn hp (aJ (T.item X rfl rfl rfl hc i pins s3 gu H3 X.xe I3 (jh ji) bT go) λr s4 ⟨u,hr,h4⟩=>?_);subst hr;refine wpAny_passesOwn hp (aJ h4 λ_ s5 ⟨x,H5,I5,r5,y5,jj,rF⟩=>?_);have rG:=I5.pinned (jh rF) (T.obj _ _ jj);refine wpAny_passesOwn hp (aJ (hg _ s5 gu H5 x u _ rG r5 (step x H5 y5)) λ_ s6 ⟨iE,H6,I6,q6⟩=>?_);refine wpAny_passesOwn hp (aJ (hb _ s6 iE H6 _ I6 q6) λf s7 q7=>?_);have again:∀ {eg:St} {H7:Hp},Inv X (pins++kJ fp s5.heap) eg H7 s7->N eg H7->∃m,m<n/\∃i aN H',Inv X pins aN H' s7/\tn i s7.heap/\(∀b∈fp,H' b=none)/\W i m aN H':=λ{eg H7} I7 n7=>by
   obtain⟨m',hm,w7⟩:=hN eg H7 n7;refine⟨m',hm,i+1,eg,H7,I7.kK,T.keep _ _ _ jj λb hb o e=>(I7.pin (b,o) (List.mem_append_right _ (List.mem_append_right _ (mV hb e)))).1,λb hb=>?_,w7⟩;obtain⟨o,e,d⟩:=T.obj _ _ jj b hb;exact(I7.pin (b,o) (List.mem_append_right _ (List.mem_append_right _ (mV hb e)))).2.1
  cases f with
  | next=>obtain⟨eg,H7,I7,n7⟩:=q7;exact again I7 n7
  | cont=>obtain⟨eg,H7,I7,n7⟩:=q7;exact again I7 n7
  | brk=>obtain⟨eg,H7,I7,q7⟩:=q7;exact⟨eg,H7,I7.kK,q7⟩
  | ret v=>obtain⟨x7,eg,H7,I7,r7,q7⟩:=q7;exact⟨x7,eg,H7,I7.kK,r7,q7⟩
end
theorem Ce{K:PySem.W.Frag}{a:Addr}{xs:List V}{g:TG}{tb:TS}{D:Ends}{σ:St}{H:Hp}(Pv:Nat->St->Hp->Prop)(h0:Pv 0 σ H)(hl:∀i σ H,i<=xs.length->Pv i σ H->aB K H a xs)
  (hs:∀i x σ H,xs[i]? = some x->Pv i σ H->g x σ H λaC H2=>tb { D with nx:=Pv (i+1),ct:=Pv (i+1),bk:=D.nx } aC H2) (hd:∀σ H,Pv xs.length σ H->D.nx σ H) :
  ∃W:Nat->Nat->St->Hp->Prop,(∃m,W 0 m σ H)/\∀i m σ H,W i m σ H->
   ((kG K a).stop i H/\D.nx σ H)\/((kG K a).go i H/\∃N:St->Hp->Prop,(∀aN H',N aN H'->∃m',m' < m/\W (i+1) m' aN H')/\∀x H',(kG K a).jd i H x H'->g x σ H' λaC H2=>tb { D with nx:=N,ct:=N,bk:=D.nx } aC H2):=by
 refine⟨λi m σ H=>m=xs.length - i/\i<=xs.length/\Pv i σ H,⟨xs.length,by simp,Nat.zero_le _,h0⟩,?_⟩
 rintro i m σ H ⟨rfl,hi,p⟩;have q:=hl i σ H hi p;by_cases aY:i<xs.length
 ·refine .inr ⟨⟨xs,xs[i],q,by simp[aY]⟩,Pv (i+1),λaN H' p'=>⟨xs.length - (i+1),by lia,rfl,aY,p'⟩,λx H' y=>?_⟩
  obtain⟨e,y⟩:=y;subst e;exact hs i x σ _ (y xs q) p
 ·have e:i=xs.length:=by lia
  subst e;exact .inl ⟨⟨xs,q,Nat.le_refl _⟩,hd σ H p⟩
theorem rH{lo:Int}{n:Nat}{g:TG}{tb:TS}{D:Ends}{σ:St}{H:Hp}(Pv:Nat->St->Hp->Prop)(h0:Pv 0 σ H)
  (hs:∀i σ H,i<n->Pv i σ H->g (.int (lo+i)) σ H λaC H2=>tb { D with nx:=Pv (i+1),ct:=Pv (i+1),bk:=D.nx } aC H2) (hd:∀σ H,Pv n σ H->D.nx σ H) :
  ∃W:Nat->Nat->St->Hp->Prop,(∃m,W 0 m σ H)/\∀i m σ H,W i m σ H->
   ((je lo n).stop i H/\D.nx σ H)\/((je lo n).go i H/\∃N:St->Hp->Prop,(∀aN H',N aN H'->∃m',m' < m/\W (i+1) m' aN H')/\∀x H',(je lo n).jd i H x H'->g x σ H' λaC H2=>tb { D with nx:=N,ct:=N,bk:=D.nx } aC H2):=by
 refine⟨λi m σ H=>m=n - i/\i<=n/\Pv i σ H,⟨n,by simp,Nat.zero_le _,h0⟩,?_⟩
 rintro i m σ H ⟨rfl,hi,p⟩;by_cases aY:i<n
 ·refine .inr ⟨aY,Pv (i+1),λaN H' p'=>⟨n - (i+1),by lia,rfl,aY,p'⟩,λx H' y=>?_⟩
  obtain⟨e,y⟩:=y;subst e y;exact hs i σ _ aY p
 ·have e:i=n:=by lia
  subst e;exact .inl ⟨Nat.le_refl _,hd σ H p⟩
noncomputable abbrev R2:=V->V->Hp->VK->Prop
noncomputable def cM(X:Cx)(f:Value->Value->Sem Value)(r:R2):Prop :=
 ∀(pins:List (Addr×Obj)) (s:Shared) (σ:St) (H:Hp) (x y:V) (v u:Value) (Q:VK),Inv X pins σ H s->RelV x v->RelV y u->r x y H Q->
  wpAny (model X.prog X.w) X.A (f v u) (EP X pins σ Q) X.xe s
noncomputable def rJ(X:Cx)(f:Value->Sem Value)(r:V->Hp->VK->Prop):Prop :=
 ∀(pins:List (Addr×Obj)) (s:Shared) (σ:St) (H:Hp) (x:V) (v:Value) (Q:VK),Inv X pins σ H s->RelV x v->r x H Q->
  wpAny (model X.prog X.w) X.A (f v) (EP X pins σ Q) X.xe s
noncomputable def fH(X:Cx)(f:Value)(r:List V->Hp->VK->Prop):Prop :=
 ∀(pins:List (Addr×Obj)) (s:Shared) (σ:St) (H:Hp) (xs:List V) (us:List Value) (Q:VK),Inv X pins σ H s->Vals xs us->r xs H Q->
  wpAny (model X.prog X.w) X.A (call f us) (EP X pins σ Q) X.xe s
noncomputable def mW(r:R2)(ta tb:TE):TE:=λσ H Q=>ta σ H λx H1=>tb σ H1 λy H2=>r x y H2 Q
noncomputable def Cf(r:V->Hp->VK->Prop)(ta:TE):TE:=λσ H Q=>ta σ H λx H1=>r x H1 Q
noncomputable def rI(C:Int->Int->Prop)(g:Int->Int->V):R2:=λx y H Q=>∃i j,x = .int i/\y = .int j/\C i j/\Q (g i j) H
noncomputable def jk(g:Int->Int->V):R2:=λx y H Q=>∃i j,x = .int i/\y = .int j/\Q (g i j) H
noncomputable def rU(g:Int->V):V->Hp->VK->Prop:=λx H Q=>∃i,x = .int i/\Q (g i) H
section
variable{X:Cx}{a b c:Expr}{ta tb tc:TE}{pos:Pos}
theorem rK(ha:PE X a ta)(hb:PE X b tb){pins:List (Addr×Obj)}{s:Shared}{σ:St}{H:Hp}{R:V->V->Hp->Prop}(I:Inv X pins σ H s)
  (h:ta σ H λx H1=>tb σ H1 λy H2=>R x y H2) {Q:Value->Shared->Prop} {f:Value->Value->Sem Value}
  (hf:∀v u s2 x y H2,Inv X pins σ H2 s2->RelV x v->RelV y u->R x y H2->wpAny (model X.prog X.w) X.A (f v u) Q X.xe s2) :
  wpAny (model X.prog X.w) X.A (eval a X.env) (λv bf=>wpAny (model X.prog X.w) X.A (eval b X.env) (λu iD=>wpAny (model X.prog X.w) X.A (f v u) Q X.xe iD) X.xe bf) X.xe s:=by
 refine aJ (ha pins s σ H _ I h) λv s1 ⟨x,H1,I1,r1,q1⟩=>?_;refine aJ (hb pins s1 σ H1 _ I1 q1) λu s2 ⟨y,H2,I2,r2,q2⟩=>?_;exact hf v u s2 x y H2 I2 r1 r2 q2
theorem au{op:Operator}{r:R2}(ho:cM X (binaryOp op) r)(ha:PE X a ta)(hb:PE X b tb):PE X (.BinOp a op b pos) (mW r ta tb):=by
 intro pins s σ H Q I h;exact wpAny_BinOp (rK ha hb I h λv u s2 x y H2 I2 rx ry q=>ho pins s2 σ H2 x y v u Q I2 rx ry q)
theorem mX{op:UnaryOp}{r:V->Hp->VK->Prop}(ho:rJ X (unaryOp op) r)(ha:PE X a ta):PE X (.UnaryOp op a pos) (Cf r ta):=by
 intro pins s σ H Q I h;exact UnaryOp_ (aJ (ha pins s σ H _ I h) λv s1 ⟨x,H1,I1,r1,q1⟩=>ho pins s1 σ H1 x v Q I1 r1 q1)
theorem mY{f:Value->Value->Sem Value}{C:Int->Int->Prop}{g:Int->Int->Int}
  (rule:∀(i j:Int) (t u:Tok) (s:Shared) (Q:Value->Shared->Prop) (E:Value->Shared->Prop),C i j->Q (.int (g i j) s.toks) { s with toks:=s.toks+1 }->wpAny (model X.prog X.w) X.A (f (.int i t) (.int j u)) Q E s) :
  cM X f (rI C λi j=>.int (g i j)):=by
 intro pins s σ H x y v u Q I rx ry h;obtain⟨i,j,rfl,rfl,hc,q⟩:=h;obtain⟨t,rfl⟩:=rx;obtain⟨t',rfl⟩:=ry;exact rule i j t t' s _ _ hc ⟨.int (g i j),H,I.tok _,⟨_,rfl⟩,q⟩
theorem w4{f:Value->Value->Sem Value}{g:Int->Int->Int}
  (rule:∀(i j:Int) (t u:Tok) (s:Shared) (Q:Value->Shared->Prop) (E:Value->Shared->Prop),Q (.int (g i j) s.toks) { s with toks:=s.toks+1 }->wpAny (model X.prog X.w) X.A (f (.int i t) (.int j u)) Q E s) :
  cM X f (jk λi j=>.int (g i j)):=by
 intro pins s σ H x y v u Q I rx ry h;obtain⟨i,j,rfl,rfl,q⟩:=h;obtain⟨t,rfl⟩:=rx;obtain⟨t',rfl⟩:=ry;exact rule i j t t' s _ _ ⟨.int (g i j),H,I.tok _,⟨_,rfl⟩,q⟩
theorem rL{f:Value->Value->Sem Value}{g:Int->Int->Bool}
  (rule:∀(i j:Int) (t u:Tok) (s:Shared) (Q:Value->Shared->Prop) (E:Value->Shared->Prop),Q (.bool (g i j)) s->wpAny (model X.prog X.w) X.A (f (.int i t) (.int j u)) Q E s) :
  cM X f (jk λi j=>.bl (g i j)):=by
 intro pins s σ H x y v u Q I rx ry h;obtain⟨i,j,rfl,rfl,q⟩:=h;obtain⟨t,rfl⟩:=rx;obtain⟨t',rfl⟩:=ry;exact rule i j t t' s _ _ ⟨.bl (g i j),H,I,rfl,q⟩
noncomputable def Cg(i j:Int):Prop:=0<j/\j<1073741824
noncomputable def Ci(i j:Int):Prop:=0<=j/\j<=1000000/\i.natAbs<2 ^ 64
noncomputable def rM(i j:Int):Prop:=(-(2 ^ 64)<i/\i<2 ^ 64)\/(-(2 ^ 64)<j/\j<2 ^ 64)
theorem rM.ok{i j:Int}(h:rM i j):IntMulOk i j:=by
 rcases h with⟨h1,h2⟩ | ⟨h1,h2⟩
 ·exact .of_left (intBits_le_64 h1 h2)
 ·exact .of_right (intBits_le_64 h1 h2)
theorem bB:cM X (binaryOp .Add) (jk λi j=>.int (i+j)):=w4 λ_ _ _ _ _ _ _ q=>add_int q
theorem dD:cM X (binaryOp .Sub) (jk λi j=>.int (i - j)):=w4 λ_ _ _ _ _ _ _ q=>sub_int q
theorem gv:cM X (binaryOp .Mult) (rI rM λi j=>.int (i*j)):=mY λ_ _ _ _ _ _ _ hc q=>mul_int q hc.ok
theorem jT:cM X (binaryOp .FloorDiv) (rI Cg λi j=>.int (i / j)):=mY λi j _ _ _ _ _ hc q=>by
 have h1:(0:Int)<j:=hc.1;have h2:j<1073741824:=hc.2;exact floordiv_int (by lia) (by rw[Int.fdiv_eq_ediv_of_nonneg i (by lia)];exact q) (.inl (PyProof.noPylong_small (by lia)))
theorem bL:cM X (binaryOp .Mod) (rI (λ_ j=>0<j) λi j=>.int (i % j)):=mY λi j _ _ _ _ _ hc q=>by
 have h1:(0:Int)<j:=hc;exact mod_int' (by lia) (by rw[Int.fmod_eq_emod_of_nonneg i (by lia)];exact q)
theorem jU:cM X (binaryOp .Pow) (rI Ci λi j=>.int (i ^ j.toNat)):=mY λ_ _ _ _ _ _ _ hc q=>pow_int_small hc.1 hc.2.1 hc.2.2 q
theorem Cj{f:Value->Sem Value}{g:Int->Int}
  (rule:∀(i:Int) (t:Tok) (s:Shared) (Q:Value->Shared->Prop) (E:Value->Shared->Prop),Q (.int (g i) s.toks) { s with toks:=s.toks+1 }->wpAny (model X.prog X.w) X.A (f (.int i t)) Q E s) :
  rJ X f (rU λi=>.int (g i)):=by
 intro pins s σ H x v Q I rx h;obtain⟨i,rfl,q⟩:=h;obtain⟨t,rfl⟩:=rx;exact rule i t s _ _ ⟨.int (g i),H,I.tok _,⟨_,rfl⟩,q⟩
theorem mZ:rJ X (unaryOp .USub) (rU λi=>.int (-i)):=Cj λ_ _ _ _ _ q=>neg_int q
end
noncomputable def gw:V->V->Bool
 | .aG,.aG=>true | .aG,.int _=>true | .int _,.aG=>true | .aG,.bl _=>true | .bl _,.aG=>true | .aG,.str _=>true | .str _,.aG=>true
 | .int _,.int _=>true | .bl _,.bl _=>true | .str _,.str _=>true | .dM _,.dM _=>true
 | .int _,.str _=>true | .str _,.int _=>true | .bl _,.str _=>true | .str _,.bl _=>true
 | _,_=>false
noncomputable def Ck:R2:=λx y H Q=>gw x y=true/\Q (.bl (decide (x=y))) H
noncomputable def Cm:R2:=λx y H Q=>gw x y=true/\Q (.bl (!decide (x=y))) H
theorem w5{i j:Int}:decide (V.int i=V.int j)=(i == j):=by
 rw[Bool.eq_iff_iff];simp
theorem w6{i j:Bool}:decide (V.bl i=V.bl j)=(i == j):=by
 rw[Bool.eq_iff_iff];simp
theorem w_{i j:Str}:decide (V.str i=V.str j)=(i == j):=by
 rw[Bool.eq_iff_iff];simp
theorem xg{i j:Array UInt8}:decide (V.dM i=V.dM j)=(i.toList == j.toList):=by
 rw[Bool.eq_iff_iff];cases i;cases j;simp
section
variable{X:Cx}{a b c:Expr}{ta tb tc:TE}{pos:Pos}
theorem bQ{pins:List (Addr×Obj)}{σ:St}{H:Hp}{s:Shared}{Q:VK}{k k':Bool}(I:Inv X pins σ H s)(q:Q (.bl k) H)(e:k=k'):EP X pins σ Q (.bool k') s:=by
 subst e;exact⟨.bl k,H,I,rfl,q⟩
theorem bN:cM X (compareOp .Eq) Ck:=by
 intro pins s σ H x y v u Q I rx ry h;obtain⟨hs,q⟩:=h;cases x with
 | aG =>
  cases rx;cases y with
  | aG=>cases ry;exact PySem.EqNone.eq_none_none (bQ I q (by simp))
  | bl j=>cases ry;exact PySem.EqNone.eq_none_bool (bQ I q (by simp))
  | int j=>obtain⟨t',rfl⟩:=ry;exact PySem.EqNone.eq_none_int (bQ I q (by simp))
  | str j=>obtain⟨t',rfl⟩:=ry;exact PySem.EqNone.eq_none_str (bQ I q (by simp))
  | _=>exact absurd (show false=true from hs) Bool.false_ne_true
 | bl i =>
  cases rx;cases y with
  | aG=>cases ry;exact PySem.EqNone.eq_bool_none (bQ I q (by simp))
  | bl j=>cases ry;exact eq_bool (bQ I q w6)
  | str j=>obtain⟨t',rfl⟩:=ry;exact PySem.EqMixed.eq_bool_str (bQ I q (by simp))
  | _=>exact absurd (show false=true from hs) Bool.false_ne_true
 | int i =>
  obtain⟨t,rfl⟩:=rx;cases y with
  | aG=>cases ry;exact PySem.EqNone.eq_int_none (bQ I q (by simp))
  | int j=>obtain⟨t',rfl⟩:=ry;exact eq_int (bQ I q w5)
  | str j=>obtain⟨t',rfl⟩:=ry;exact PySem.EqMixed.eq_int_str (bQ I q (by simp))
  | _=>exact absurd (show false=true from hs) Bool.false_ne_true
 | str i =>
  obtain⟨t,rfl⟩:=rx;cases y with
  | aG=>cases ry;exact PySem.EqNone.eq_str_none (bQ I q (by simp))
  | bl j=>cases ry;exact PySem.EqMixed.eq_str_bool (bQ I q (by simp))
  | int j=>obtain⟨t',rfl⟩:=ry;exact PySem.EqMixed.eq_str_int (bQ I q (by simp))
  | str j=>obtain⟨t',rfl⟩:=ry;exact eq_str (bQ I q w_)
  | _=>exact absurd (show false=true from hs) Bool.false_ne_true
 | dM i =>
  obtain⟨t,rfl⟩:=rx;cases y with
  | dM j=>obtain⟨t',rfl⟩:=ry;exact PySem.W.eq_bytes (bQ I q xg)
  | _=>exact absurd (show false=true from hs) Bool.false_ne_true
 | _=>cases y <;> exact absurd (show false=true from hs) Bool.false_ne_true
theorem iF:cM X (compareOp .NotEq) Cm:=by
 intro pins s σ H x y v u Q I rx ry h;obtain⟨hs,q⟩:=h;cases x with
 | aG =>
  cases rx;cases y with
  | aG=>cases ry;exact PySem.EqNone.ne_none_none (bQ I q (by simp))
  | bl j=>cases ry;exact PySem.EqNone.ne_none_bool (bQ I q (by simp))
  | int j=>obtain⟨t',rfl⟩:=ry;exact PySem.EqNone.ne_none_int (bQ I q (by simp))
  | str j=>obtain⟨t',rfl⟩:=ry;exact PySem.EqNone.ne_none_str (bQ I q (by simp))
  | _=>exact absurd (show false=true from hs) Bool.false_ne_true
 | bl i =>
  cases rx;cases y with
  | aG=>cases ry;exact PySem.EqNone.ne_bool_none (bQ I q (by simp))
  | bl j=>cases ry;exact ne_bool (bQ I q (congrArg not w6))
  | str j=>obtain⟨t',rfl⟩:=ry;exact PySem.EqMixed.ne_bool_str (bQ I q (by simp))
  | _=>exact absurd (show false=true from hs) Bool.false_ne_true
 | int i =>
  obtain⟨t,rfl⟩:=rx;cases y with
  | aG=>cases ry;exact PySem.EqNone.ne_int_none (bQ I q (by simp))
  | int j=>obtain⟨t',rfl⟩:=ry;exact ne_int (bQ I q (congrArg not w5))
  | str j=>obtain⟨t',rfl⟩:=ry;exact PySem.EqMixed.ne_int_str (bQ I q (by simp))
  | _=>exact absurd (show false=true from hs) Bool.false_ne_true
 | str i =>
  obtain⟨t,rfl⟩:=rx;cases y with
  | aG=>cases ry;exact PySem.EqNone.ne_str_none (bQ I q (by simp))
  | bl j=>cases ry;exact PySem.EqMixed.ne_str_bool (bQ I q (by simp))
  | int j=>obtain⟨t',rfl⟩:=ry;exact PySem.EqMixed.ne_str_int (bQ I q (by simp))
  | str j=>obtain⟨t',rfl⟩:=ry;exact ne_str (bQ I q (congrArg not w_))
  | _=>exact absurd (show false=true from hs) Bool.false_ne_true
 | dM i =>
  obtain⟨t,rfl⟩:=rx;cases y with
  | dM j=>obtain⟨t',rfl⟩:=ry;exact PySem.W.ne_bytes (bQ I q (congrArg not xg))
  | _=>exact absurd (show false=true from hs) Bool.false_ne_true
 | _=>cases y <;> exact absurd (show false=true from hs) Bool.false_ne_true
theorem gW:cM X (compareOp .Lt) (jk λi j=>.bl (decide (i<j))):=rL λ_ _ _ _ _ _ _ q=>lt_int q
theorem gX:cM X (compareOp .Gt) (jk λi j=>.bl (decide (j<i))):=rL λ_ _ _ _ _ _ _ q=>gt_int q
theorem Cn:cM X (compareOp .GtE) (jk λi j=>.bl (decide (j<=i))):=rL λ_ _ _ _ _ _ _ q=>ge_int q
theorem xh:cM X (compareOp .Is) (λx y H Q=>y = .aG/\Q (.bl (decide (x = .aG))) H):=by
 intro pins s σ H x y v u Q I rx ry h;obtain⟨rfl,q⟩:=h;cases ry;refine is_none_gen (bQ I q ?_);cases x <;> first
  | (cases rx;rfl)
  | (obtain⟨t,rfl⟩:=rx;rfl)
theorem aM(b:Expr){op:CmpOp}(h:op≠.In:=by decide)(h2:op≠.NotIn:=by decide):behindInMarks op b=false:=by
 have e1:(op == CmpOp.In)=false:=by cases op <;> first | rfl | exact absurd rfl h
 have e2:(op == CmpOp.NotIn)=false:=by cases op <;> first | rfl | exact absurd rfl h2
 cases b <;> simp[behindInMarks,e1,e2]
theorem m_{op:CmpOp}{r:R2}(ho:cM X (compareOp op) r)(ha:PE X a ta)(hb:PE X b tb)(hm:behindInMarks op b=false):PE X (.Compare a [op] [b] pos) (mW r ta tb):=by
 intro pins s σ H Q I h;exact wpAny_Compare1 (rK ha hb I h λv u s2 x y H2 I2 rx ry q=>ho pins s2 σ H2 x y v u Q I2 rx ry q) hm
noncomputable def Co(t:TE):TT:=λσ H Q=>t σ H λx H'=>∃k,x = .bl k/\Q k H'
theorem aO{op:CmpOp}{r:R2}(ho:cM X (compareOp op) r)(ha:PE X a ta)(hb:PE X b tb)(hm:behindInMarks op b=false):PT X (.Compare a [op] [b] pos) (Co (mW r ta tb)):=by
 intro pins s σ H Q I h;refine wpAny_isTrue_Compare1 (aJ (ha pins s σ H _ I h) λv s1 ⟨x,H1,I1,r1,q1⟩=>aJ (hb pins s1 σ H1 _ I1 q1) λu s2 ⟨y,H2,I2,r2,q2⟩ =>
  aJ (ho pins s2 σ H2 x y v u _ I2 r1 r2 q2) λc s3 ⟨z,H3,I3,r3,k,e,q3⟩=>?_) hm
 subst e;cases r3;exact wpAny_truthy_bool ⟨H3,I3,q3⟩
noncomputable def Ll(r r':R2)(ta tb tc:TE):TE:=λσ H Q=>ta σ H λx H1=>tb σ H1 λy H2=>r x y H2 λz H3=>∃k,z = .bl k/\
 (if k=true then tc σ H3 λw' H4=>r' y w' H4 Q else Q (.bl false) H3)
theorem kL:(sizeLine:Nat)<2 ^ 63:=by rw[sizeLine_eq];decide
theorem vals1{x:V}{us:List Value}(r:Vals [x] us):∃u,us = [u]/\RelV x u:=by
 cases r with
 | cons r1 r2=>cases r2;exact⟨_,rfl,r1⟩
theorem vals2{x y:V}{us:List Value}(r:Vals [x,y] us):∃u w',us = [u,w']/\RelV x u/\RelV y w':=by
 cases r with
 | cons r1 r2 =>
  cases r2 with
  | cons r3 r4=>cases r4;exact⟨_,_,rfl,r1,r3⟩
theorem Cp(hc:X.calm=true):fH X (.builtin "max") (λxs H Q=>∃i j,xs = [.int i,.int j]/\Q (.int (if j > i then j else i)) H):=by
 intro pins s σ H xs us Q I r h;obtain⟨i,j,rfl,q⟩:=h;obtain⟨u,w',rfl,⟨t,rfl⟩,⟨t',rfl⟩⟩:=vals2 r;refine max_two_ints (I.ok.hd hc) λh' tk k=>⟨_,H,I.kept k,?_,q⟩;by_cases hj:j > i
 ·rw[if_pos hj,if_pos hj];exact⟨_,rfl⟩
 ·rw[if_neg hj,if_neg hj];exact⟨_,rfl⟩
end
structure jl(h:Heap)(x dx C:Addr)(mA:Str->Option Value):Prop where
 obj:h.get? x=some (PySem.W.instObj C dx)
 ns:h.Ns1 dx mA
 ne:dx≠x
theorem Cq{h:Heap}{dx:Addr}{mA:Str->Option Value}(n:h.Ns1 dx mA):∃od,h.get? dx=some od/\∀name,PySem.W.lookIn name od=some (mA name):=by
 obtain⟨o,es,ep,ho,hd,hk,_,hm⟩:=n;refine⟨o,ho,λname=>?_⟩
 have e:=hm name;unfold nsFind findBy at e;rw[← Array.find?_toList] at e;unfold PySem.W.lookIn;rw[hd];dsimp only;split
 ·rename_i y q;rw[q] at e;exact congrArg some e
 ·rename_i q;rw[q] at e;have a:es.toList.any (·.refKey)=false:=by
   rw[List.any_eq_false];intro y hy;obtain⟨z,t,gz⟩:=hk y (Array.mem_toList_iff.mp hy);simp[DictEntry.refKey,gz]
  have a':¬ es.toList.any (·.refKey)=true:=by rw[a];exact Bool.false_ne_true
  rw[if_neg a'];exact congrArg some e
theorem jl.look{h:Heap}{x dx C:Addr}{mA:Str->Option Value}(I:jl h x dx C mA):∃od,PySem.W.InstAt h x (PySem.W.instObj C dx) C (some od)/\∀name,PySem.W.lookIn name od=some (mA name) :=
 let ⟨od,ho,hl⟩:=Cq I.ns
 ⟨od,⟨I.obj,rfl,rfl,ho⟩,hl⟩
section
variable{prog:Program}{w:World}{A:Around}{E:Value->Shared->Prop}{s:Shared}{K:PySem.W.Frag}{x dx C f:Addr}{mA:Str->Option Value}{name:Str}{v:Value}
theorem get_map{expr:Bool}{Q:Value->Shared->Prop}(X:K.In s.heap)(I:jl s.heap x dx C mA)(hg:PySem.W.plainGet K C name=true)(hh:PySem.W.hasDictIn K C=true)
  (ha:PySem.W.findIn K (.ref C) name=some none) (hv:mA name=some v) (Cr:PySem.W.handedIn v=true) (h:Q v { s with toks:=s.toks+1 }) :
  wpAny (model prog w) A (getAttr (.ref x) name expr) Q E s:=by
 obtain⟨od,J,hl⟩:=I.look;exact PySem.W.get_value X J (PySem.W.plainGet_of hg).1 (PySem.W.findObj_own hh ha rfl (by rw[hl,hv])) Cr h
theorem Cs{pl:Sem Bool}{Q:Value×List Value->Shared->Prop}(X:K.In s.heap)(I:jl s.heap x dx C mA)(hg:PySem.W.plainGet K C name=true)
  (hf:PySem.W.findIn K (.ref C) name=some (some (.ref f))) (ht:PySem.W.isFn K (.ref f)=true) (hv:mA name=none) (h:Q (.ref f,[.ref x]) s) :
  wpAny (model prog w) A (getMethod (.ref x) name pl) Q E s:=by
 obtain⟨od,J,hl⟩:=I.look;exact PySem.W.method_fn X J (PySem.W.plainGet_of hg).1 (PySem.W.plainGet_of hg).2 hf (beq_iff_eq.mp ht) (by show (PySem.W.lookIn name od).map (·.isSome)=some false;rw[hl,hv];rfl) h
theorem Ct{ns:List Str}{Q:Unit->Shared->Prop}(X:K.In s.heap)(I:jl s.heap x dx C mA)
  (hs:PySem.W.findIn K (.ref C) "__setattr__" = some (some (.builtin "object.__setattr__"))) (hp:PySem.W.plainOver K C=true) (ht:PySem.W.takerIn K C name=some none) (hh:PySem.W.hasDictIn K C=true)
  (hw:PySem.Within mA ns) (hsz:ns.length<=sizeLine)
  (h:∀h',jl h' x dx C (λy=>if y=name then some v else mA y)->Heap.SameBut dx s.heap h'->Q () { s with heap:=h',toks:=s.toks+2 }) :
  wpAny (model prog w) A (setAttr (.ref x) name v) Q E s:=by
 obtain⟨od,J,hl⟩:=I.look;refine PySem.W.set_plain X J hs (PySem.W.osa_open (s:={ s with toks:=s.toks+1 }) (r:=none) X J hp ht λb=>?_)
 obtain⟨cd,hc,qW⟩:=PySem.W.any_some hh;have hx:s.heap.get? x=some ⟨.ref C,some dx,.plain,#[]⟩:=I.obj;refine wpAny_bind (wpAny_pure (wpAny_bind (wpAny_bind (wpAny_loadPart hx (wpAny_bind (PySem.W.Looks.here (s:={ s with toks:=s.toks+1 }) (PySem.W.looks_clsIn X hc) ?_))))));rw[qW];refine wpAny_pure (a:=some dx) (wpAny_bind (wpAny_pure (wpAny_bind ?_)));refine wpAny_nsSet1 (s:={ s with toks:=s.toks+1 }) I.ns λh' ng gq=>?_;obtain⟨oD,Lm,Ln,Cu,Cv,Cw⟩:=ng.count (PySem.Within.cons name v hw);refine wpAny_bind (wpAny_lookBehind Cu (by rw[Cv];exact pastItsLine_dict (Nat.le_trans Cw (by rw[List.length_cons];lia))) ?_)
 exact wpAny_pure (h _ ⟨(gq.2 _ (Ne.symm I.ne)).trans I.obj,ng,I.ne⟩ gq)
theorem xj{R:Result->Shared->Prop}{vs:List Value}{kw:List (Str×Value)}(X:K.In s.heap)(hm:PySem.W.makesIn K C=true)
  (hi:PySem.W.findIn K (.ref C) "__init__" = some (some (.ref f))) (hf:PySem.W.typeIn K (.ref f)=some (.type "function"))
  (h:codeAny (model prog w) (A.under (.builtin "type.__call__" ⟨.ref C::vs,kw⟩)) (.call (.ref f) ⟨.ref (s.heap.objs.size+1)::vs,kw⟩) (PySem.W.InitBack (s.heap.objs.size+1) R)
   { s with heap:=(s.heap.push PySem.W.emptyDict).push (PySem.W.instObj C s.heap.objs.size)}) :
  codeAny (model prog w) A (.call (.ref C) ⟨vs,kw⟩) R s:=by
 obtain⟨hh,g,d,t,os⟩:=s;exact PySem.W.make_core (PySem.W.makes_of X hm) (PySem.W.looks_findIn X hi) (λself=>PySem.W.bind_fn X self hf) (.inl rfl) h
end
noncomputable def dF(f:Str)(v:V):List (Str×V)->List (Str×V)
 | []=>[(f,v)]
 | (g,x)::r=>if g=f then(g,v)::r else(g,x)::dF f v r
theorem xm(f g:Str)(v:V):∀fs:List (Str×V),(dF f v fs).lookup g=if g=f then some v else fs.lookup g
 | []=>by
  show List.lookup g [(f,v)] = _;by_cases h:g=f
  ·have hb:(g == f)=true:=beq_iff_eq.mpr h;simp only[List.lookup,hb,if_pos h]
  ·have hb:(g == f)=false:=beq_eq_false_iff_ne.mpr h;simp only[List.lookup,hb,if_neg h]
 | (k,x)::r=>by
  have ih:=xm f g v r;rw[show dF f v ((k,x)::r)=(if k=f then(k,v)::r else(k,x)::dF f v r) from rfl]
  by_cases hk:k=f
  ·rw[if_pos hk];by_cases h:g=k
   ·have hb:(g == k)=true:=beq_iff_eq.mpr h;simp only[List.lookup,hb,if_pos (h.trans hk)]
   ·have hb:(g == k)=false:=beq_eq_false_iff_ne.mpr h;simp only[List.lookup,hb,if_neg (λe:g=f=>h (e.trans hk.symm))]
  ·rw[if_neg hk];by_cases h:g=k
   ·have hb:(g == k)=true:=beq_iff_eq.mpr h;simp only[List.lookup,hb,if_neg (λe:g=f=>hk (h.symm.trans e))]
   ·have hb:(g == k)=false:=beq_eq_false_iff_ne.mpr h;simp only[List.lookup,hb];exact ih
theorem rN(f:Str)(v:V):∀fs:List (Str×V),f∈(dF f v fs).map (·.1)/\∀g,g∈fs.map (·.1)->g∈(dF f v fs).map (·.1)
 | []=>⟨by simp[dF],λg h=>by simp at h⟩
 | (k,x)::r=>by
  obtain⟨i1,i2⟩:=rN f v r;rw[show dF f v ((k,x)::r)=(if k=f then(k,v)::r else(k,x)::dF f v r) from rfl]
  by_cases hk:k=f
  ·rw[if_pos hk];subst hk;exact⟨by simp,λg h=>by simpa using h⟩
  ·rw[if_neg hk];refine⟨?_,λg h=>?_⟩
   ·rw[List.map_cons];exact List.mem_cons_of_mem _ i1
   ·rw[List.map_cons] at h ⊢;rcases List.mem_cons.mp h with e | e
    ·exact List.mem_cons.mpr (.inl e)
    ·exact List.mem_cons_of_mem _ (i2 g e)
theorem xq(f:Str)(v:V):∀fs:List (Str×V),(dF f v fs).length<=fs.length+1
 | []=>by simp[dF]
 | (k,x)::r=>by
  have ih:=xq f v r;rw[show dF f v ((k,x)::r)=(if k=f then(k,v)::r else(k,x)::dF f v r) from rfl]
  by_cases hk:k=f
  ·rw[if_pos hk,List.length_cons,List.length_cons];lia
  ·rw[if_neg hk,List.length_cons,List.length_cons];lia
theorem eO.some_of{v:V}{o:Option Value}(r:eO (some v) o):∃u,o=some u/\RelV v u:=by
 cases o with
 | none=>exact(show False from r).elim
 | some u=>exact⟨u,rfl,r⟩
theorem eO.none_of{o:Option Value}(r:eO none o):o=none:=by
 cases o with
 | none=>rfl
 | some u=>exact(show False from r).elim
theorem Cy{v:V}{u:Value}(r:RelV v u):PySem.W.handedIn u=true:=by
 cases v with
 | aG=>cases (show u=Value.none from r);rfl
 | bl b=>cases (show u=Value.bool b from r);rfl
 | int i=>obtain⟨t,e⟩:=(show ∃t,u=Value.int i t from r);cases e;rfl
 | str x=>obtain⟨t,e⟩:=(show ∃t,u=Value.str x t from r);cases e;rfl
 | dM b=>obtain⟨t,e⟩:=(show ∃t,u=Value.bytes b t from r);cases e;rfl
 | fS b=>obtain⟨t,e⟩:=(show ∃t,u=Value.float b t from r);cases e;rfl
 | ref a=>cases (show u=Value.ref a from r);rfl
 | ty n=>cases (show u=Value.type n from r);rfl
section
variable{P:Program}{w:World}{H H':Hp}{h h':Heap}{a C dx:Addr}{fs BL:List (Str×V)}
theorem kM(aD:bD P w H h)(e:H a=some (.ins C dx fs)):∃mA,jl h a dx C mA/\(∀f,eO (fs.lookup f) (mA f))/\PySem.Within mA (fs.map (·.1))/\fs.length<=1000/\H dx=some (.own a):=by
 obtain⟨d,z,ne,ob,mA,n,r,q⟩:=(show bK P w H h a (.ins C dx fs) from aD a _ e);exact⟨mA,⟨ob,n,ne⟩,r,q,z,d⟩
end
structure fJ(K:PySem.W.Frag)(C:Addr):Prop where
 pg:PySem.W.plainGet K C Str.empty=true
 hd:PySem.W.hasDictIn K C=true
 po:PySem.W.plainOver K C=true
 sa:PySem.W.findIn K (.ref C) "__setattr__" = some (some (.builtin "object.__setattr__"))
theorem fJ.get{K:PySem.W.Frag}{C:Addr}(c:fJ K C)(f:Str):PySem.W.plainGet K C f=true:=c.pg
noncomputable def c7(K:PySem.W.Frag)(C:Addr)(f:Str):Prop:=PySem.W.findIn K (.ref C) f=some none
theorem c7.Cz{K:PySem.W.Frag}{C:Addr}{f:Str}(n:c7 K C f):PySem.W.takerIn K C f=some none:=by
 unfold PySem.W.takerIn;rw[show PySem.W.findIn K (.ref C) f=some none from n]
 rfl
structure Meth(K:PySem.W.Frag)(C:Addr)(m:Str)(f:Addr):Prop where
 at_:PySem.W.findIn K (.ref C) m=some (some (.ref f))
 fn:PySem.W.isFn K (.ref f)=true
 kp:PySem.W.keepIn K (.ref f)=true
section
variable{X:Cx}{pins:List (Addr×Obj)}{σ:St}{H:Hp}{s:Shared}{a C dx:Addr}{fs:List (Str×V)}{f:Str}{v:V}{A:Around}{E:Value->Shared->Prop}
theorem CA{b:Bool}{Q:Value->Shared->Prop}(I:Inv X pins σ H s)(e:H a=some (.ins C dx fs))(c:fJ X.K C)(n:c7 X.K C f)(l:fs.lookup f=some v)
  (h:∀u s',Inv X pins σ H s'->RelV v u->Q u s'):wpAny (model X.prog X.w) A (getAttr (.ref a) f b) Q E s:=by
 obtain⟨mA,O,r,_,_,_⟩:=kM I.aD e;obtain⟨u,hu,ru⟩:=eO.some_of (v:=v) (o:=mA f) (by rw[← l];exact r f)
 exact get_map I.bR O (c.get f) c.hd n hu (Cy ru) (h u _ (I.tok _) ru)
theorem CB{m:Str}{g:Addr}{pl:Sem Bool}{Q:Value×List Value->Shared->Prop}(I:Inv X pins σ H s)(e:H a=some (.ins C dx fs))(c:fJ X.K C)(k:Meth X.K C m g)(l:fs.lookup m=none)
  (h:Q (.ref g,[.ref a]) s):wpAny (model X.prog X.w) A (getMethod (.ref a) m pl) Q E s:=by
 obtain⟨mA,O,r,_,_,_⟩:=kM I.aD e;have hn:mA m=none:=eO.none_of (by rw[← l];exact r m)
 exact Cs I.bR O (c.get m) k.at_ k.fn hn h
theorem CC{y:V}{u:Value}{Q:Unit->Shared->Prop}(I:Inv X pins σ H s)(e:H a=some (.ins C dx fs))(c:fJ X.K C)(n:c7 X.K C f)(hl:fs.length<1000)(ry:RelV y u)
  (h:∀s',Inv X pins σ (upd H a (.ins C dx (dF f y fs))) s'->Q () s'):wpAny (model X.prog X.w) A (setAttr (.ref a) f u) Q E s:=by
 obtain⟨mA,O,r,wi,_,ho⟩:=kM I.aD e;have hz:(fs.map (·.1)).length<=sizeLine:=by rw[List.length_map,sizeLine_eq];lia
 refine Ct I.bR O c.sa c.po n.Cz c.hd wi hz λh' O' sb=>h _ ?_;have hd:∃o,h'.get? dx=some o:=let ⟨o,_,_,e',_⟩:=O'.ns;⟨o,e'⟩
 refine I.write (x:=a) (e:=dx) (by rw[e];exact True.intro) (.inr ho) (λb q hb z=>(sb.2 b hb).trans z) hd ?_
 refine⟨by rw[aL O.ne];exact ho,?_,O.ne,O'.obj,_,O'.ns,λg=>?_,λg hg=>?_⟩
 ·have:=xq f y fs;lia
 ·show eO ((dF f y fs).lookup g) (if g=f then some u else mA g)
  rw[xm];by_cases q:g=f
  ·rw[if_pos q,if_pos q];exact ry
  ·rw[if_neg q,if_neg q];exact r g
 ·by_cases q:g=f
  ·rw[q];exact(rN f y fs).1
  ·refine(rN f y fs).2 g (wi g λz=>hg ?_)
   show (if g=f then some u else mA g)=none
   rw[if_neg q];exact z
theorem Inv.made(I:Inv X pins σ H s):Inv X pins σ (upd (upd H s.heap.objs.size (.own (s.heap.objs.size+1))) (s.heap.objs.size+1) (.ins C s.heap.objs.size []))
  { s with heap:=(s.heap.push PySem.W.emptyDict).push (PySem.W.instObj C s.heap.objs.size)}:=by
 have e1:(s.heap.push PySem.W.emptyDict).get? s.heap.objs.size=some PySem.W.emptyDict:=Heap.get?_push_size s.heap rfl;have e2:((s.heap.push PySem.W.emptyDict).push (PySem.W.instObj C s.heap.objs.size)).get? (s.heap.objs.size+1)=some (PySem.W.instObj C s.heap.objs.size):=by
  have:=Heap.get?_push_size (s.heap.push PySem.W.emptyDict) (o:=PySem.W.instObj C s.heap.objs.size) rfl;rwa [Heap.size_push] at this
 have e3:(s.heap.push PySem.W.emptyDict).Ns s.heap.objs.size (λ_=>none):=⟨PySem.W.emptyDict,#[],_,e1,rfl,(λe he=>absurd he (by simp)),λ_=>rfl⟩
 have I1:=I.laid (a:=s.heap.objs.size) (o:=.own (s.heap.objs.size+1)) (h':=s.heap.push PySem.W.emptyDict) (t':=s.toks) (λb u q=>Heap.get?_push_of_some _ q) (Nat.le_refl _) ⟨_,e1⟩;refine I1.laid (a:=s.heap.objs.size+1) (o:=.ins C s.heap.objs.size []) (t':=s.toks) (λb u q=>Heap.get?_push_of_some _ q) (Nat.le_of_eq (Heap.size_push _ _)) ?_;have ne:s.heap.objs.size≠s.heap.objs.size+1:=Nat.ne_of_lt (Nat.lt_succ_self _);refine⟨by rw[aL ne,aE],Nat.zero_le _,ne,e2,λ_=>none,(Heap.Ns1.of_empty e3).at λo q=>Heap.get?_push_of_some _ q,λ_=>True.intro,λy hy=>absurd rfl hy⟩
theorem CD{prog:Program}{w:World}{env:Env}{e:Expr}{f:Str}{pos:Pos}{s:Shared}{Q:Value->Shared->Prop}(hb:attributeBase e f env (eval e env)=eval e env)
  (h:wpAny (model prog w) A (eval e env) (λo bf=>wpAny (model prog w) A (getAttr o f true) Q E bf) E s):wpAny (model prog w) A (eval (.Attribute e f pos) env) Q E s :=
 Attribute_any_ h (by rw[arm_eval_Attribute,hb])
end
noncomputable def CF(K:PySem.W.Frag)(ta:TE)(f:Str):TE:=λσ H Q=>ta σ H λx H1=>∃a C dx fs v,x = .ref a/\H1 a=some (.ins C dx fs)/\fJ K C/\c7 K C f/\fs.lookup f=some v/\Q v H1
noncomputable def CG(K:PySem.W.Frag)(ta tv:TE)(f:Str):TS:=λD σ H=>tv σ H λy H1=>ta σ H1 λx H2=>∃a C dx fs,x = .ref a/\H2 a=some (.ins C dx fs)/\fJ K C/\c7 K C f/\fs.length<1000/\
 D.nx σ (upd H2 a (.ins C dx (dF f y fs)))
section
variable{X:Cx}{o e value:Expr}{f:Str}{pos pos' CH:Pos}{ta tv:TE}
theorem ni(he:PE X e ta)(hb:attributeBase e f X.env (eval e X.env)=eval e X.env):PE X (.Attribute e f pos) (CF X.K ta f):=by
 intro pins s σ H Q I h;refine CD hb (aJ (he pins s σ H _ I h) λu s1 ⟨x,H1,I1,rx,a,C,dx,fs,v,ex,ea,c,n,l,q⟩=>?_);subst ex;obtain rfl:u=Value.ref a:=rx;exact CA I1 ea c n l λu' s2 I2 ru=>⟨v,H1,I2,ru,q⟩
theorem jV(ha:PE X o ta)(hv:PE X value tv)(hs:swapsWith value (some (.Attribute o f pos')) pos.line X.env=pure false):PS X (.Assign [.Attribute o f pos'] value pos) (CG X.K ta tv f):=by
 intro pins s σ H D I h;refine plainObj_wpAny_Assign_Attribute (aJ (hv pins s σ H _ I h) λu s1 ⟨y,H1,I1,ry,q⟩=>aJ (ha pins s1 σ H1 _ I1 q) λov s2 ⟨x,H2,I2,rx,a,C,dx,fs,ex,ea,c,n,l,q2⟩=>?_) hs;subst ex;obtain rfl:ov=Value.ref a:=rx;exact CC I2 ea c n l ry λs3 I3=>⟨σ,_,I3,q2⟩
end
section
variable{X:Cx}{pins:List (Addr×Obj)}{σ:St}{H:Hp}{s:Shared}{A:Around}{E:Value->Shared->Prop}{Q:Value->Shared->Prop}{c:Value}{b:Bool}
inductive dh (K:PySem.W.Frag) (H:Hp):V->Value->Prop where
 | aG:dh K H .aG (.type "NoneType")
 | bl (x:Bool):dh K H (.bl x) (.type "bool")
 | int (i:Int):dh K H (.int i) (.type "int")
 | str (x:Str):dh K H (.str x) (.type "str")
 | fS (x:UInt64):dh K H (.fS x) (.type "float")
 | lst {a:Addr} {xs:List V} (e:H a=some (.lst xs)):dh K H (.ref a) (.type "list")
 | dg {a:Addr} {o:Obj} {xs:List V} (e:H a=some (.dg o (.lst xs))):dh K H (.ref a) (.type "list")
 | tup {a:Addr} {xs:List V} (e:H a=some (.tup xs)):dh K H (.ref a) (.type "tuple")
 | dK {a:Addr} {az:List (Key×V)} (e:H a=some (.dK az)):dh K H (.ref a) (.type "dict")
 | dT {a:Addr} {az:List (List Key×V)} (e:H a=some (.dT az)):dh K H (.ref a) (.type "dict")
 | ins {a C dx:Addr} {fs:List (Str×V)} (e:H a=some (.ins C dx fs)) (cl:fJ K C) (ha:PySem.W.findIn K (.ref C) "__class__" = some (some (.builtin "object.__class__")))
   (hn:PySem.W.specialIn K (.builtin "object.__class__") "__get__" = some (some (.builtin "getset_descriptor.__get__"))) (nj:PySem.W.takesIn K (.builtin "object.__class__")=some true)
   (hm:PySem.W.mroIn K C (.type "object")=some true):dh K H (.ref a) (.ref C)
theorem CI{x:V}{u t:Value}(I:Inv X pins σ H s)(rx:RelV x u)(ty:dh X.K H x t)(e:PySem.W.kitOne X.K t c=some b)(h:∀tk,Q (.bool b) { s with toks:=tk }) :
  wpAny (model X.prog X.w) A (call (.builtin "isinstance") [u,c]) Q E s:=by
 cases ty with
 | aG=>cases (show u=Value.none from rx);exact PySem.W.kia_one PySem.W.kitx_none I.bR True.intro e (λz=>nomatch z) h
 | bl y=>cases (show u=Value.bool y from rx);exact PySem.W.kia_one PySem.W.kitx_bool I.bR True.intro e (λz=>nomatch z) h
 | int i=>obtain⟨t,q⟩:=(show ∃t,u=Value.int i t from rx);cases q;exact PySem.W.kia_one PySem.W.kitx_int I.bR True.intro e (λz=>nomatch z) h
 | str y=>obtain⟨t,q⟩:=(show ∃t,u=Value.str y t from rx);cases q;exact PySem.W.kia_one PySem.W.kitx_str I.bR True.intro e (λz=>nomatch z) h
 | fS y=>obtain⟨t,q⟩:=(show ∃t,u=Value.float y t from rx);cases q;exact PySem.W.kia_one PySem.W.kitx_float I.bR True.intro e (λz=>nomatch z) h
 | @lst a xs ea =>
  cases (show u=Value.ref a from rx);obtain⟨_,_,n,_,h1⟩:=(show bK X.prog X.w H s.heap a (.lst xs) from I.aD a _ ea);exact PySem.W.kia_one PySem.W.kitx_list I.bR ⟨_,h1,rfl⟩ e (λz=>nomatch z) h
 | @dg a ob xs ea =>
  cases (show u=Value.ref a from rx);obtain⟨_,_,_,n,_,h1⟩:=(show bK X.prog X.w H s.heap a (.dg ob (.lst xs)) from I.aD a _ ea);exact PySem.W.kia_one PySem.W.kitx_list I.bR ⟨_,h1,rfl⟩ e (λz=>nomatch z) h
 | @tup a xs ea =>
  cases (show u=Value.ref a from rx);obtain⟨_,_,_,p⟩:=(show bK X.prog X.w H s.heap a (.tup xs) from I.aD a _ ea);obtain⟨o,h1,h2,_⟩:=p;exact PySem.W.kia_one PySem.W.kitx_tuple I.bR ⟨o,h1,h2⟩ e (λz=>nomatch z) h
 | @dK a az ea =>
  cases (show u=Value.ref a from rx);obtain⟨_,_,vs,_,p⟩:=(show bK X.prog X.w H s.heap a (.dK az) from I.aD a _ ea);obtain⟨o,es,ep,h1,h2,_⟩:=p;exact PySem.W.kia_one PySem.W.kitx_dict I.bR ⟨o,h1,h2.1⟩ e (λz=>nomatch z) h
 | @dT a az ea =>
  cases (show u=Value.ref a from rx);obtain⟨_,_,xs,_,o,es,ep,h1,h2,_⟩:=(show bK X.prog X.w H s.heap a (.dT az) from I.aD a _ ea);exact PySem.W.kia_one PySem.W.kitx_dict I.bR ⟨o,h1,h2.1⟩ e (λz=>nomatch z) h
 | @ins a C dx fs ea cl ha hn nj hm =>
  cases (show u=Value.ref a from rx);obtain⟨mA,O,_⟩:=kM I.aD ea;obtain⟨od,J,_⟩:=O.look;exact PySem.W.kia_one (PySem.W.kitx_own (cl.get _) cl.hd ha hn nj hm) I.bR J e (λz=>nomatch z) h
end
structure bU(k:Nat)(A:Around):Prop where
 hd:A.handled=none
 dp:A.depth+3*k+5<recursionLimit
 un:A.units+16*k+200<cLine
theorem bU.mono{j k:Nat}{A:Around}(r:bU k A)(h:j<=k):bU j A:=⟨r.hd,by have:=r.dp;lia,by have:=r.un;lia⟩
theorem bU.deeper{k:Nat}{A:Around}(r:bU (k+1) A)(env:Env):bU k (A.deeper env) :=
 ⟨r.hd,by have:=r.dp;show A.depth+1+3*k+5<_;lia,by have:=r.un;show A.units+3+16*k+200<_;lia⟩
theorem CJ{A:Around}{C:Addr}{us:List Value}{kw:List (Str×Value)}:(A.under (.builtin "type.__call__" ⟨.ref C::us,kw⟩)).depth=A.depth+1:=by
 first | rfl | simp[Around.under,Code.weight,Code.isCreation,Code.isGuard,Code.isCaller,Code.frames,Code.isFrame,guardIds]
theorem CK{A:Around}{C:Addr}{us:List Value}{kw:List (Str×Value)}:(A.under (.builtin "type.__call__" ⟨.ref C::us,kw⟩)).units=A.units+1:=by
 first | rfl | simp[Around.under,Code.cUnits,Code.frames,Code.isFrame]
theorem bU.make{k:Nat}{A:Around}(r:bU (k+1) A)(C:Addr)(us:List Value)(kw:List (Str×Value)):bU k (A.under (.builtin "type.__call__" ⟨.ref C::us,kw⟩)) :=
 ⟨r.hd,by have:=r.dp;rw[CJ];lia,by have:=r.un;rw[CK];lia⟩
theorem bU.depth{k:Nat}{A:Around}(r:bU k A):A.depth<recursionLimit:=by have:=r.dp;lia
theorem bU.units{k:Nat}{A:Around}(r:bU k A):A.units+64<cLine:=by have:=r.un;lia
theorem bU.xr{k:Nat}{A:Around}(r:bU k A):A.units<cLine:=by have:=r.un;lia
noncomputable def xu:TA:=λ_ H Q=>Q [] H
noncomputable def CL(ta:TE)(tr:TA):TA:=λσ H Q=>ta σ H λx H1=>tr σ H1 λxs H2=>Q (x::xs) H2
section
variable{X:Cx}{e:Expr}{es:List Expr}{te:TE}{t:TA}{pos:Pos}
theorem ao:PA X [] xu:=λ_ _ _ _ H Q I h=>Calls.spliced_nil ⟨[],H,I,.nil,h⟩
theorem aa(ha:PE X e te)(hr:PA X es t)(hs:starEach (e::es) X.env=(false,eval e X.env)::starEach es X.env:=by rfl):PA X (e::es) (CL te t):=by
 intro pos pins s σ H Q I h;rw[hs]
 show wpAny _ _ (spliced ((false,eval e X.env)::backTo pos (starEach es X.env))) _ _ s;refine Calls.spliced_cons (aJ (ha pins s σ H _ I h) λu s1 ⟨x,H1,I1,r1,q1⟩=>?_);exact aJ (hr pos pins s1 σ H1 _ I1 q1) λus s2 ⟨xs,H2,I2,r2,q2⟩=>⟨x::xs,H2,I2,.cons r1 r2,q2⟩
noncomputable def CM(t:TA):TE:=λσ H Q=>t σ H λxs H1=>xs.length<=sizeLine/\∀p,H1 p=none->Q (.ref p) (upd H1 p (.tup xs))
noncomputable def CN(t:TA):TE:=λσ H Q=>t σ H λxs H1=>xs.length<=sizeLine/\∀p,H1 p=none->Q (.ref p) (upd H1 p (.lst xs))
theorem eo{x1}(h:PA X es t):PE X (.Tuple es x1 pos) (CM t):=by
 intro pins s σ H Q I hq;refine wpAny_Tuple_spliced (aJ (h pos pins s σ H _ I hq) λus s1 ⟨xs,H1,I1,r,z,q⟩=>⟨by rw[← r.length];exact z,?_⟩)
 have hf:H1 s1.heap.objs.size=none:=I1.aD.fresh (Nat.le_refl _);refine⟨.ref s1.heap.objs.size,upd H1 s1.heap.objs.size (.tup xs),I1.laid (t':=s1.toks) (λb u e=>Heap.get?_push_of_some _ e) (Nat.le_refl _) ?_,rfl,q _ hf⟩;exact⟨z,us,r,⟨_,Heap.get?_push_size _ rfl,rfl,_,rfl⟩⟩
theorem cB(h:PA X es t):PE X (.List es pos) (CN t):=by
 intro pins s σ H Q I hq;refine wpAny_List_spliced (aJ (h pos pins s σ H _ I hq) λus s1 ⟨xs,H1,I1,r,z,q⟩=>⟨by rw[← r.length];exact z,?_⟩)
 have hf:H1 s1.heap.objs.size=none:=I1.aD.fresh (Nat.le_refl _);refine⟨.ref s1.heap.objs.size,upd H1 s1.heap.objs.size (.lst xs),I1.laid (t':=s1.toks) (λb u e=>Heap.get?_push_of_some _ e) (Nat.le_refl _) ?_,rfl,q _ hf⟩;exact⟨z,us,0,r,Heap.get?_push_size _ rfl⟩
end
noncomputable abbrev Sp:=List V->Hp->VK->XK->Prop
noncomputable abbrev dj:=List Env->Hp->Shared->XK->Value->Shared->Prop
structure jm(P:Program)(w:World)(K:PySem.W.Frag)(mg:Str->Option Value)(base:Heap)(A:Around)(outer:List Env)(s:Shared)(H:Hp):Prop where
 frames:A.frames=some outer
 mod:Mod K mg base
 bs:∀b o,base.get? b=some o->s.heap.get? b=some o/\H b=none
 fE:base.objs.size<=s.heap.objs.size
 dz:s.heap.FunFrames base outer
 fU:∀b∈bE outer,H b=none
 aD:bD P w H s.heap
 bare:AllBare s.gens
noncomputable def CE(outer:List Env)(P:Program)(w:World)(H:Hp)(s:Shared)(Q:VK)(u:Value)(s':Shared):Prop :=
 ∃v H',s'.os=s.os/\AllBare s'.gens/\Un (bE outer) [] H H' s.heap s'.heap/\bD P w H' s'.heap/\RelV v u/\Q v H'
noncomputable def CR(CX:dj)(outer:List Env)(P:Program)(w:World)(H:Hp)(s:Shared)(Q:VK)(E:XK)(r:Result)(s':Shared):Prop :=
 match r with
 | .ok (.ret u)=>CE outer P w H s Q u s'
 | .ok _=>False
 | .error e=>CX outer H s E e s'
structure bC(P:Program)(w:World)(K:PySem.W.Frag)(mg:Str->Option Value)(base:Heap)(CX:dj)(k:Nat)(f:Addr)(fd:FuncData)(ps:List Str)(sp:Sp):Prop where
 len:∀vs H Q E,sp vs H Q E->vs.length=ps.length
 run:∀(A:Around) (outer:List Env) (s:Shared) (H:Hp) (args:Args) (us:List Value) (vs:List V) (Q:VK) (E:XK),bU k A->jm P w K mg base A outer s H->BindsTo s fd args (ps.zip us)->Vals vs us->sp vs H Q E->
  codeAny (model P w) A (.call (.ref f) args) (CR CX outer P w H s Q E) s
theorem bC.mono{P:Program}{w:World}{K:PySem.W.Frag}{mg:Str->Option Value}{base:Heap}{CX:dj}{j k:Nat}{f:Addr}{fd:FuncData}{ps:List Str}{sp:Sp}(F:bC P w K mg base CX j f fd ps sp)(h:j<=k) :
  bC P w K mg base CX k f fd ps sp:=⟨F.len,λA outer s H args us vs Q E hr=>F.run A outer s H args us vs Q E (hr.mono h)⟩
theorem jm.make{P:Program}{w:World}{K:PySem.W.Frag}{mg:Str->Option Value}{base:Heap}{A:Around}{outer:List Env}{s:Shared}{H:Hp}(e:jm P w K mg base A outer s H)(C:Addr)(us:List Value)(kw:List (Str×Value)) :
  jm P w K mg base (A.under (.builtin "type.__call__" ⟨.ref C::us,kw⟩)) outer s H:=⟨by first | exact e.frames | (simpa[Around.under,Code.envs,Code.isFrame,pushEnvs] using e.frames),e.mod,e.bs,e.fE,e.dz,e.fU,e.aD,e.bare⟩
section
variable{X:Cx}{pins:List (Addr×Obj)}{σ:St}{H:Hp}{s s':Shared}
theorem Inv.rO(I:Inv X pins σ H s):jm X.prog X.w X.K X.mg X.base X.A X.stack s H :=
 ⟨I.ok.frames,I.ok.mod,I.bs,Nat.le_trans I.ok.fE I.sz,I.stack,I.qY,I.aD,I.bare⟩
theorem Inv.after{Q:VK}{u:Value}(I:Inv X pins σ H s)(h:CE X.stack X.prog X.w H s Q u s'):EP X pins σ Q u s':=by
 obtain⟨v,H',os,bare,un,aD,r,q⟩:=h;obtain⟨hh,g,d,t,CO⟩:=s';obtain rfl:CO=s.os:=os;exact⟨v,H',I.call (h':=hh) (g':=g) (d':=d) (t':=t) (ch:=[]) un aD bare (λb z=>absurd z (by simp)),r,q⟩
end
noncomputable def CQ(sp:Sp)(bO:List V)(E:XK)(t:TA):TE:=λσ H Q=>t σ H λvs H1=>sp (vs++bO) H1 Q E
noncomputable def CS(C:Addr)(m:Str)(sp:Sp)(bO:List V)(E:XK)(ta:TE)(t:TA):TE:=λσ H Q=>ta σ H λx H1=>∃a dx fs,x = .ref a/\H1 a=some (.ins C dx fs)/\fs.lookup m=none/\
 t σ H1 λvs H2=>sp (x::(vs++bO)) H2 Q E
noncomputable def xw(C:Addr)(sp:Sp)(bO:List V)(E:XK)(t:TA):TE:=λσ H Q=>t σ H λvs H1=>∀x dx,H1 x=none->H1 dx=none->dx≠x->
 sp (.ref x::(vs++bO)) (upd (upd H1 dx (.own x)) x (.ins C dx [])) (λv H2=>v = .aG/\Q (.ref x) H2) E
noncomputable def Binds(K:PySem.W.Frag)(fd:FuncData)(ps:List Str)(ds:List Value):Prop :=
 ∀(s:Shared) (us:List Value),K.In s.heap->(us++ds).length=ps.length->BindsTo s fd ⟨us,[]⟩ (ps.zip (us++ds))
theorem Binds.all{K:PySem.W.Frag}{fd:FuncData}{ps:List Str}(h:∀us:List Value,us.length=ps.length->bindArgs fd ⟨us,[]⟩=pure (ps.zip us)):Binds K fd ps []:=λs us _ hl=>by
 rw[List.append_nil] at hl ⊢;exact .of_eq (h us hl)
noncomputable def Passes(CX:dj)(X:Cx)(E:XK):Prop:=∀(pins:List (Addr×Obj)) (σ:St) (H:Hp) (s:Shared) (e:Value) (s':Shared),Inv X pins σ H s->CX X.stack H s E e s'->X.xe e s'
section
variable{X:Cx}{CX:dj}{k:Nat}{f C:Addr}{fd:FuncData}{ps:List Str}{sp:Sp}{bO:List V}{ds:List Value}{E:XK}{x m:Str}{p pos apos:Pos}{e o:Expr}{es:List Expr}{ta:TE}{t:TA}
theorem xx{pins:List (Addr×Obj)}{σ:St}{H:Hp}{s:Shared}{Q:VK}{us:List Value}{vs:List V}(F:bC X.prog X.w X.K X.mg X.base CX k f fd ps sp)(hr:bU k X.A)(hb:Binds X.K fd ps ds)(hd:Vals bO ds)(hx:Passes CX X E)
  (I:Inv X pins σ H s) (r:Vals vs us) (h:sp (vs++bO) H Q E):wpAny (model X.prog X.w) X.A (call (.ref f) us) (EP X pins σ Q) X.xe s:=by
 have r2:Vals (vs++bO) (us++ds):=r.append hd;have hl:(us++ds).length=ps.length:=by rw[← r2.length];exact F.len _ _ _ _ h
 refine wpAny_call (codeAny_mono (F.run X.A X.stack s H ⟨us,[]⟩ (us++ds) (vs++bO) Q E hr I.rO (hb s us I.bR hl) r2 h) λr s' hq=>?_);cases r with
 | error e=>exact hx pins σ H s e s' I hq
 | ok fl =>
  cases fl with
  | ret u=>exact I.after hq
  | next=>exact False.elim hq
  | brk=>exact False.elim hq
  | cont=>exact False.elim hq
theorem aU(F:bC X.prog X.w X.K X.mg X.base CX k f fd ps sp)(hr:bU k X.A)(hg:Gl X x)(hm:X.mg x=some (.ref f))(hk:PySem.W.keepIn X.K (.ref f)=true)(hb:Binds X.K fd ps ds)(hd:Vals bO ds)(hx:Passes CX X E)
  (ha:PA X (e::es) t) (eX:(x == ("__debug__" : Str))=false:=by decide) (he:starEach (e::es) X.env=(false,eval e X.env)::starEach es X.env:=by rfl) (eu:(backTo pos (starEach es X.env)).any (·.1)=false:=by rfl) :
  PE X (.Call (.Name x p) (e::es) [] pos) (CQ sp bO E t):=by
 intro pins s σ H Q I h;refine wpAny_Call_Name_kw (jP I hg hm ?_ eX);refine PySem.W.callWith_K (h₀:=X.base) I.ok.mod.jL hk (aJ (ha pos pins s σ H _ I h) λus s1 ⟨vs,H1,I1,r,q⟩=>⟨I1.bR,?_⟩) he eu;exact xx F hr hb hd hx I1 r q
theorem CT{pl:Sem Bool}(he:PE X o ta)(c:fJ X.K C)(hm:Meth X.K C m f)(F:bC X.prog X.w X.K X.mg X.base CX k f fd ps sp)(hr:bU k X.A)(hb:Binds X.K fd ps ds)(hd:Vals bO ds)(hx:Passes CX X E)
  (ht:eval (.Call (.Attribute o m apos) [] [] pos) X.env=(do
   let ov ← eval o X.env
   standAt apos.atName
   let (f,first) ← holding [ov] (getMethod ov m pl)
   callWith pos f first (backTo pos (starEach [] X.env)) (backToKw pos (keywordEach [] X.env))):=by rfl) :
  PE X (.Call (.Attribute o m apos) [] [] pos) (CS C m sp bO E ta xu):=by
 intro pins s σ H Q I h;refine PySem.W.methodCall_KW (pl:=pl) (aJ (he pins s σ H _ I h) λu s1 ⟨x,H1,I1,rx,a,dx,fs,ex,ea,l,q⟩=>?_) ht;subst ex;obtain rfl:u=Value.ref a:=rx;refine CB I1 ea c hm l ?_;exact PySem.W.callWith_K0 (first:=[.ref a]) I1.bR hm.kp (xx (us:=[.ref a]) (vs:=[.ref a]) F hr hb hd hx I1 (.cons rfl .nil) q)
structure Mk(K:PySem.W.Frag)(C f:Addr):Prop where
 makes:PySem.W.makesIn K C=true
 init:PySem.W.findIn K (.ref C) "__init__" = some (some (.ref f))
 fn:PySem.W.isFn K (.ref f)=true
 kp:PySem.W.keepIn K (.ref C)=true
theorem CU{pins:List (Addr×Obj)}{σ:St}{H:Hp}{s:Shared}{Q:VK}{us:List Value}{vs:List V}(M:Mk X.K C f)(F:bC X.prog X.w X.K X.mg X.base CX k f fd ps sp)(hr:bU (k+1) X.A)(hb:Binds X.K fd ps ds)(hd:Vals bO ds)
  (hx:Passes CX X E) (I:Inv X pins σ H s) (r:Vals vs us)
  (h:∀x dx,H x=none->H dx=none->dx≠x->sp (.ref x::(vs++bO)) (upd (upd H dx (.own x)) x (.ins C dx [])) (λv H2=>v = .aG/\Q (.ref x) H2) E) :
  wpAny (model X.prog X.w) X.A (call (.ref C) us) (EP X pins σ Q) X.xe s:=by
 have hq:=h (s.heap.objs.size+1) s.heap.objs.size (I.aD.fresh (Nat.le_succ _)) (I.aD.fresh (Nat.le_refl _)) (Nat.ne_of_lt (Nat.lt_succ_self _));have I2:=Inv.made (C:=C) I;have r2:Vals (V.ref (s.heap.objs.size+1)::(vs++bO)) (Value.ref (s.heap.objs.size+1)::(us++ds)):=.cons rfl (r.append hd);have hl:(Value.ref (s.heap.objs.size+1)::us++ds).length=ps.length:=by
  have e:=r2.length;rw[F.len _ _ _ _ hq] at e;exact e.symm
 refine wpAny_call (xj (f:=f) I.bR M.makes M.init (beq_iff_eq.mp M.fn) (codeAny_mono (F.run _ X.stack _ _ ⟨Value.ref (s.heap.objs.size+1)::us,[]⟩ (Value.ref (s.heap.objs.size+1)::(us++ds)) _ _ E (hr.make C us [])
  (I2.rO.make C us []) (hb _ (Value.ref (s.heap.objs.size+1)::us) I2.bR hl) r2 hq) λr s' dm=>?_))
 cases r with
 | error e=>exact hx pins σ _ _ e s' I2 dm
 | ok fl =>
  cases fl with
  | ret u =>
   obtain⟨v,H',I3,rv,ev,q3⟩:=I2.after dm;subst ev;exact⟨rv,⟨V.ref (s.heap.objs.size+1),H',I3,rfl,q3⟩⟩
  | next=>exact False.elim dm
  | brk=>exact False.elim dm
  | cont=>exact False.elim dm
theorem CV(M:Mk X.K C f)(F:bC X.prog X.w X.K X.mg X.base CX k f fd ps sp)(hr:bU (k+1) X.A)(hg:Gl X x)(hm:X.mg x=some (.ref C))(hb:Binds X.K fd ps ds)(hd:Vals bO ds)(hx:Passes CX X E)
  (ha:PA X (e::es) t) (eX:(x == ("__debug__" : Str))=false:=by decide) (he:starEach (e::es) X.env=(false,eval e X.env)::starEach es X.env:=by rfl) (eu:(backTo pos (starEach es X.env)).any (·.1)=false:=by rfl) :
  PE X (.Call (.Name x p) (e::es) [] pos) (xw C sp bO E t):=by
 intro pins s σ H Q I h;refine wpAny_Call_Name_kw (jP I hg hm ?_ eX);refine PySem.W.callWith_K (h₀:=X.base) I.ok.mod.jL M.kp (aJ (ha pos pins s σ H _ I h) λus s1 ⟨vs,H1,I1,r,q⟩=>⟨I1.bR,?_⟩) he eu;exact CU M F hr hb hd hx I1 r q
end
noncomputable def PK(X:Cx)(xy:List Keyword)(t:TA):Prop :=
 ∀(pos:Pos) (pins:List (Addr×Obj)) (s:Shared) (σ:St) (H:Hp) (Q:List V->Hp->Prop),Inv X pins σ H s->t σ H Q->wpAny (model X.prog X.w) X.A (evalAll ((backToKw pos (keywordEach xy X.env)).map (·.2))) (AP X pins σ Q) X.xe s
section
variable{X:Cx}{CX:dj}{k:Nat}{f C:Addr}{fd:FuncData}{ps ks:List Str}{sp:Sp}{E:XK}{x m:Str}{p pos apos Lo:Pos}{e o:Expr}{es:List Expr}{xy:List Keyword}{te ta:TE}{t tk:TA}{nm:Option Str}
variable{g:List Value->List Value->List Value}{gV:List V->List V->List V}
end
structure cC(N P:List Str)(sc:Scope):Prop where
 kind:sc.kind = .function
 co:sc.isCoroutine=false
 gen:sc.isGenerator=false
 nd:N.Nodup
 pre:N.take P.length=P
 par:∀x∈P,sc.names.lookup x=some .local\/sc.names.lookup x=some .cell
 CW:∀y∈sc.names,y.2≠.free
theorem xA{kindOf:Str->Option NameKind}{x:Str}:∀ {binds:List (Str×Value)} {m:Str->Option Value},(∀v,(x,v)∉binds)->bindL kindOf binds m x=m x
 | [],_,_=>rfl
 | (n,v)::r,m,h=>by
  unfold bindL;rw[xA λw hw=>h w (List.mem_cons_of_mem _ hw)];split
  ·have:x≠n:=by rintro rfl;exact h v List.mem_cons_self
   simp[this]
  ·rfl
theorem xB{kindOf:Str->Option NameKind}{x:Str}:∀ {binds:List (Str×Value)} {m:Str->Option Value},(∀v,(x,v)∉binds)->bindC kindOf binds m x=m x
 | [],_,_=>rfl
 | (n,v)::r,m,h=>by
  unfold bindC;rw[xB λw hw=>h w (List.mem_cons_of_mem _ hw)];split
  ·rfl
  ·have:x≠n:=by rintro rfl;exact h v List.mem_cons_self
   simp[this]
theorem xC{kindOf:Str->Option NameKind}{x:Str}{v:Value}:∀ {P:List Str} {vs:List Value} {i:Nat} {m:Str->Option Value},P.Nodup->P[i]? = some x->vs[i]? = some v->kindOf x=some .local->
  bindL kindOf (P.zip vs) m x=some v
 | [],_,_,_,_,h,_,_=>by simp at h
 | _::_,[],_,_,_,_,h,_=>by simp at h
 | p::P,w::vs,0,m,nd,h1,h2,hk=>by
  simp at h1 h2;subst h1;subst h2
  show bindL kindOf ((p,w)::P.zip vs) m p=_;unfold bindL;rw[xA λv hv=>(List.nodup_cons.mp nd).1 (List.of_mem_zip hv).1,if_pos hk];simp
 | p::P,w::vs,i+1,m,nd,h1,h2,hk=>by
  show bindL kindOf ((p,w)::P.zip vs) m x=_;unfold bindL;exact xC (i:=i) (List.nodup_cons.mp nd).2 (by simpa using h1) (by simpa using h2) hk
theorem xD{kindOf:Str->Option NameKind}{x:Str}{v:Value}:∀ {P:List Str} {vs:List Value} {i:Nat} {m:Str->Option Value},P.Nodup->P[i]? = some x->vs[i]? = some v->kindOf x≠some .local->
  bindC kindOf (P.zip vs) m x=some v
 | [],_,_,_,_,h,_,_=>by simp at h
 | _::_,[],_,_,_,_,h,_=>by simp at h
 | p::P,w::vs,0,m,nd,h1,h2,hk=>by
  simp at h1 h2;subst h1;subst h2
  show bindC kindOf ((p,w)::P.zip vs) m p=_;unfold bindC;rw[xB λv hv=>(List.nodup_cons.mp nd).1 (List.of_mem_zip hv).1,if_neg hk];simp
 | p::P,w::vs,i+1,m,nd,h1,h2,hk=>by
  show bindC kindOf ((p,w)::P.zip vs) m x=_;unfold bindC;exact xD (i:=i) (List.nodup_cons.mp nd).2 (by simpa using h1) (by simpa using h2) hk
noncomputable def start(N:List Str)(vs:List V):St:=vs.map some++List.replicate (N.length - vs.length) none
noncomputable def eB(CX:dj)(P:Program)(w:World)(K:PySem.W.Frag)(mg:Str->Option Value)(base:Heap)(N:List Str)(qual:Str)(scope:Scope)(f:Addr)(cd:Value)(A:Around)(outer:List Env)(s:Shared)(H:Hp)(E:XK):Cx where
 prog:=P
 w:=w
 K:=K
 mg:=mg
 base:=base
 A:=A.deeper (envOfC qual scope s.heap.objs.size f cd)
 N:=N
 aR:=s
 cZ:=H
 env:=envOfC qual scope s.heap.objs.size f cd
 outer:=outer
 stack:=envOfC qual scope s.heap.objs.size f cd::outer
 ex:=[]
 calm:=true
 fn:=λ_=>true
 pn:=[]
 xe:=λe s'=>wpAny (model P w) (A.deeper (envOfC qual scope s.heap.objs.size f cd)) (leaving (envOfC qual scope s.heap.objs.size f cd) e) (λ_ rP=>CX outer H s E e rP) (λe' rP=>CX outer H s E e' rP) s'
theorem xE{sc:Scope}{n:Nat}{x:Str}(h:sc.names.lookup x=some .cell):∃c,(cellsFrom n sc.names []).lookup x=some c:=by
 have q:=PySem.W.cellsFrom_some sc.names n [] (.inl h);exact Option.isSome_iff_exists.mp q
theorem CY{CX:dj}{P:Program}{w:World}{K:PySem.W.Frag}{mg:Str->Option Value}{base:Heap}{N ps:List Str}{qual:Str}{scope:Scope}{f:Addr}{cd:Value}{A:Around}{outer:List Env}{s s1:Shared}{H:Hp}{E:XK}{us:List Value}{vs:List V}
  (S:cC N ps scope) (hd:A.handled=none) (e0:jm P w K mg base A outer s H) (hl:vs.length=ps.length) (r:Vals vs us)
  (x:InCallC s s.heap.objs.size (bindL (envOfC qual scope s.heap.objs.size f cd).kindOf (ps.zip us) λ_=>none) (cellsFrom (s.heap.objs.size+1) scope.names []) (bindC (envOfC qual scope s.heap.objs.size f cd).kindOf (ps.zip us) λ_=>none) s1) :
  Inv (eB CX P w K mg base N qual scope f cd A outer s H E) [] (start N vs) H s1:=by
 have eu:ps.length<=N.length:=by have:=congrArg List.length S.pre;rw[List.length_take] at this;lia
 obtain⟨h1,tk,rfl,hk⟩:=x.done;have kN:∀b:Addr,b∉(eB CX P w K mg base N qual scope f cd A outer s H E).ex:=λb z=>absurd (show b∈([]:List Addr) from z) (by simp)
 refine⟨⟨e0.mod,S.kind,rfl,rfl,Nat.le_refl _,λy z c h1 h2=>?_,λy hy=>?_,λy c _ h=>?_,λ_=>hd,Around.frames_deeper e0.frames,.inr ⟨rfl,rfl⟩,λb z=>absurd z (kN b),e0.bs,e0.fE,λb _ _=>kN b,λb z=>absurd z (kN b),e0.dz,e0.fU⟩,
  rfl,e0.bare,Un.kept hk,⟨_,x.toInCall.ns,λi y v h1 h2 h3=>?_⟩,λy c h=>⟨_,x.cell y c h⟩,e0.aD.fresh (Nat.le_refl _),λy c h=>?_,λp hp=>absurd (show p∈([]:List (Addr×Obj)) from hp) (by simp),e0.aD.kept hk,?_⟩
 ·exact name_of_addr x.apart (PySem.mem_of_lookup h1) (PySem.mem_of_lookup h2)
 ·have hy:scope.names.lookup y=some .cell\/scope.names.lookup y=some .free:=hy;rcases hy with hy | hy
  ·exact xE hy
  ·exact absurd rfl (S.CW _ (PySem.mem_of_lookup hy))
 ·exact Nat.le_of_lt (x.above y c (PySem.mem_of_lookup h))
 ·have hi:i<vs.length:=by
   unfold start at h2;by_cases hi:i<vs.length
   ·exact hi
   ·rw[List.getElem?_append_right (by simpa using hi)] at h2
    rw[List.getElem?_replicate] at h2;split at h2 <;> cases h2
  have ha:vs[i]? = some v:=by
   unfold start at h2;rw[List.getElem?_append_left (by simpa using hi),List.getElem?_map] at h2
   cases e:vs[i]? with
   | none=>rw[e] at h2;cases h2
   | some a=>rw[e] at h2;cases h2;rfl
  obtain⟨u,hu,rv⟩:=r.get ha;have hp:ps[i]? = some y:=by
   rw[← S.pre,List.getElem?_take_of_lt (by lia)];exact h1
  have xF:ps.Nodup:=by rw[← S.pre];exact S.nd.sublist (List.take_sublist _ _)
  refine⟨u,rv,?_⟩;rcases S.par y (List.mem_of_getElem? hp) with k | k
  ·exact .inl ⟨k,xC xF hp hu k⟩
  ·obtain⟨c,e⟩:=xE (n:=s.heap.objs.size+1) k;refine .inr ⟨.inl k,c,e,?_⟩;have q:=x.cell y c e;rw[xD xF hp hu (by show scope.names.lookup y≠_;rw[k];decide)] at q
   exact q
 ·exact e0.aD.fresh (Nat.le_of_lt (x.above y c (PySem.mem_of_lookup h)))
 ·unfold start
  show _=N.length;rw[List.length_append,List.length_map,List.length_replicate];lia
theorem xG{CX:dj}{P:Program}{w:World}{K:PySem.W.Frag}{mg:Str->Option Value}{base:Heap}{k:Nat}{f:Addr}{name qual:Str}{params:Arguments}{body:List Stmt}{scope:Scope}{dV kV doc pm aW ct oc:Value}{an od:Option Addr}
  {fW:Array (Option Value)} {N ps:List Str} {sp:Sp} (lk:K.lookup f=some ⟨oc,od,.func (PySem.W.fnOf name qual params body scope dV kV doc pm an aW ct),fW⟩) (cL:PySem.W.codeIn K aW qual=true) (S:cC N ps scope)
  (len:∀vs H Q E,sp vs H Q E->vs.length=ps.length)
  (kO:∀(A:Around) (outer:List Env) (s:Shared) (H:Hp) (vs:List V) (Q:VK) (E:XK),bU k (A.deeper (envOfC qual scope s.heap.objs.size f aW))->sp vs H Q E->
   ∃t,dN (eB CX P w K mg base N qual scope f aW A outer s H E) body t/\t { nx:=λ_ H'=>Q .aG H',rt:=Q } (start N vs) H) :
  bC P w K mg base CX (k+1) f (PySem.W.fnOf name qual params body scope dV kV doc pm an aW ct) ps sp:=by
 refine⟨len,λA outer s H args us vs Q E hr e0 hb r gA=>?_⟩;have hl:=len _ _ _ _ gA;have KX:K.In s.heap:=e0.mod.jL.keeps λb o e=>(e0.bs b o e).1;have lim:s.heap.NoLimit:=e0.mod.nolimit.keeps λb o e=>(e0.bs b o e).1;have CZ:∀y∈ps.zip us,scope.names.lookup y.1=some .local\/(scope.names.lookup y.1=some .cell/\((cellsFrom (s.heap.objs.size+1) scope.names []).lookup y.1).isSome=true):=λ⟨n,v⟩ hy=>by
  rcases S.par n (List.of_mem_zip hy).1 with q | q
  ·exact .inl q
  ·exact .inr ⟨q,PySem.W.cellsFrom_some _ _ _ (.inl q)⟩
 refine codeAny_call_function hr.depth (KX _ _ lk) rfl S.co S.gen rfl (PySem.W.codeRec_of KX cL) (hb _ _ _ _ ?_);refine wpAny_newFunctionEnv_cells S.kind CZ λenv he s1 x=>?_;subst he;refine⟨lim.keeps x.toInCall.keep,codeAny_func ?_⟩;obtain⟨t,ht,hq⟩:=kO A outer s H vs Q E (hr.deeper _) gA;have I:Inv (eB CX P w K mg base N qual scope f aW A outer s H E) [] (start N vs) H s1:=CY S hr.hd e0 hl r x;refine wpAny_mono (ht [] s1 (start N vs) H _ I hq) (λfl s' hs=>?_) λe s' hs=>hs;have fin:∀ {aN:St} {H':Hp} {v:V} {u:Value},Inv (eB CX P w K mg base N qual scope f aW A outer s H E) [] aN H' s'->RelV v u->Q v H'->CE outer P w H s Q u s' :=
  λ{aN H' v u} J rv q=>⟨v,H',J.os,J.bare,J.base,J.aD,rv,q⟩
 cases fl with
 | ret u =>
  obtain⟨v,aN,H',J,rv,q⟩:=hs;exact fin J rv q
 | next =>
  obtain⟨aN,H',J,q⟩:=hs;exact fin (v:=V.aG) (u:=Value.none) J rfl q
 | brk =>
  obtain⟨_,_,_,q⟩:=hs;exact False.elim q
 | cont =>
  obtain⟨_,_,_,q⟩:=hs;exact False.elim q
section
variable{X:Cx}{x:Str}{p pos:Pos}{e:Expr}{es:List Expr}{t:TA}{id T:String}{r:List V->Hp->VK->Prop}
noncomputable def xH(r:List V->Hp->VK->Prop)(t:TA):TE:=λσ H Q=>t σ H λvs H1=>r vs H1 Q
theorem bh(hc:fH X (.builtin id) r)(hg:Gl X x)(hm:X.mg x=none)(hv:bootBuiltins x=some (.builtin id))(ha:PA X (e::es) t)(hn:x≠"__name__" := by decide)(eX:(x == ("__debug__" : Str))=false:=by decide)
  (he:starEach (e::es) X.env=(false,eval e X.env)::starEach es X.env:=by rfl) (eu:(backTo pos (starEach es X.env)).any (·.1)=false:=by rfl):PE X (.Call (.Name x p) (e::es) [] pos) (xH r t):=by
 intro pins s σ H Q I h;refine wpAny_Call_Name_kw (jQ I hg hm hv ?_ hn eX);exact PyProof.Rows.callWith_builtin1 (aJ (ha pos pins s σ H _ I h) λus s1 ⟨vs,H1,I1,r1,q1⟩=>hc pins s1 σ H1 vs us Q I1 r1 q1) he eu
theorem rQ(hc:fH X (.type T) r)(hg:Gl X x)(hm:X.mg x=none)(hv:bootBuiltins x=some (.type T))(ha:PA X (e::es) t)(hn:x≠"__name__" := by decide)(eX:(x == ("__debug__" : Str))=false:=by decide)
  (he:starEach (e::es) X.env=(false,eval e X.env)::starEach es X.env:=by rfl) (eu:(backTo pos (starEach es X.env)).any (·.1)=false:=by rfl):PE X (.Call (.Name x p) (e::es) [] pos) (xH r t):=by
 intro pins s σ H Q I h;refine wpAny_Call_Name_kw (jQ I hg hm hv ?_ hn eX);exact PyProof.Rows.callWith_type1 (aJ (ha pos pins s σ H _ I h) λus s1 ⟨vs,H1,I1,r1,q1⟩=>hc pins s1 σ H1 vs us Q I1 r1 q1) he eu
end
end _L
namespace _H
open PySem PyProof.Rows
noncomputable def lexLt:List Int->List Int->Bool
 | [],[]=>false
 | [],_::_=>true
 | _::_,[]=>false
 | x::xs,y::ys=>if x=y then lexLt xs ys else decide (x<y)
section
open PySem.SeqAt
open PySem.AutoSeq1 (wpAny_loadPart')
open PySem.MeetsSeq PySem.MeetsSeq2 PySem.MeetsSeq3
end
section
variable{prog:Program}{w:World}{A:Around}{E:Value->Shared->Prop}{s:Shared}
noncomputable def cT(n d:Nat):Option Int->Nat
 | none=>d
 | some v=>if v<0 then(v+(n:Int)).toNat else min v.toNat n
theorem C1(n d:Nat):cT n d none=d:=rfl
theorem C3(n d k:Nat):cT n d (some (k:Int))=min k n:=by
 show (if (k:Int)<0 then((k:Int)+(n:Int)).toNat else min (k:Int).toNat n)=min k n
 rw[if_neg (by lia),Int.toNat_natCast]
end
end _H
namespace _L
open PySem PySem.Spec PyProof.Rows
noncomputable abbrev TO:=St->Hp->(Option Int->Hp->Prop)->Prop
noncomputable def PO(X:Cx)(e:Option Expr)(t:TO):Prop :=
 ∀(pins:List (Addr×Obj)) (s:Shared) (σ:St) (H:Hp) (Q:Option Int->Hp->Prop),Inv X pins σ H s->t σ H Q->
  wpAny (model X.prog X.w) X.A (evalPart e X.env) (λu s'=>∃o H',Inv X pins σ H' s'/\IsPart u o/\Q o H') X.xe s
noncomputable def C4:TO:=λ_ H Q=>Q none H
noncomputable def C5(t:TE):TO:=λσ H Q=>t σ H λx H1=>∃i,x = .int i/\Q (some i) H1
theorem intsAre_of{ns:List Int}:∀ {us:List Value},Vals (ns.map V.int) us->IntsAre us ns:=by
 induction ns with
 | nil=>intro us r;rw[List.map_nil] at r;cases r;exact .nil
 | cons n ns ih =>
  intro us r;rw[List.map_cons] at r;cases r with
  | cons r1 r2 =>
   obtain⟨t,e⟩:=r1;subst e;exact .cons n t (ih r2)
section
variable{X:Cx}{e:Expr}{te:TE}{lo hi:Option Expr}{tl th:TO}{pos p2:Pos}
theorem rR:PO X none C4:=by
 intro pins s σ H Q I h;rw[evalPart_none];exact wpAny_pure ⟨none,H,I,.none,h⟩
theorem rS(h:PE X e te):PO X (some e) (C5 te):=by
 intro pins s σ H Q I hw;rw[evalPart_some];refine aJ (h pins s σ H _ I hw) λu s1 ⟨x,H1,I1,r1,q1⟩=>?_;obtain⟨i,rfl,q⟩:=q1;obtain⟨t,rfl⟩:=r1;exact⟨some i,H1,I1,.int i t,q⟩
noncomputable def xJ(X:Cx)(r:V->Option Int->Option Int->Hp->VK->Prop):Prop :=
 ∀(pins:List (Addr×Obj)) (s:Shared) (σ:St) (H:Hp) (x:V) (v vl vu:Value) (lo hi:Option Int) (sl:Addr) (Q:VK),Inv X pins σ H s->RelV x v->s.heap.IsSliceOf sl vl vu .none->IsPart vl lo->IsPart vu hi->r x lo hi H Q->
  ∃T id,typeLookup (.type T) "__getitem__" = pure (some (.builtin id))/\s.TypeIs v T/\wpAny (model X.prog X.w) X.A (getItem v (.ref sl)) (EP X pins σ Q) X.xe s
noncomputable def C6(r:V->Option Int->Option Int->Hp->VK->Prop)(te:TE)(tl th:TO):TE:=λσ H Q=>te σ H λx H1=>tl σ H1 λl H2=>th σ H2 λu H3=>r x l u H3 Q
theorem rT{r:V->Option Int->Option Int->Hp->VK->Prop}(hr:xJ X r)(he:PE X e te)(hl:PO X lo tl)(hu:PO X hi th):PE X (.Subscript e (.Slice lo hi none p2) pos) (C6 r te tl th):=by
 intro pins s σ H Q I h;refine Subscript_ (aJ (he pins s σ H _ I h) λv s1 ⟨x,H1,I1,r1,q1⟩=>?_);refine wpAny_Slice (aJ (hl pins s1 σ H1 _ I1 q1) λvl s2 ⟨l,H2,I2,pl,q2⟩=>aJ (hu pins s2 σ H2 _ I2 q2) λvu s3 ⟨u,H3,I3,pu,q3⟩=>?_);rw[evalPart_none];refine wpAny_pure ?_;have I4:Inv X pins σ H3 { s3 with heap:=s3.heap.push { cls:=.type "slice",data:=.fields #[vl,vu,.none] }}:=I3.kept (t':=s3.toks) λb ob q=>Heap.get?_push_of_some _ q;obtain⟨T,id,hT,ht,hg⟩:=hr pins { s3 with heap:=s3.heap.push { cls:=.type "slice",data:=.fields #[vl,vu,.none] }} σ H3 x v vl vu l u s3.heap.objs.size Q I4 r1 (Heap.IsSliceOf.new ..) pl pu q3
 show wpAny (model X.prog X.w) X.A (subscriptTail e (.Slice lo hi none p2) v (.ref s3.heap.objs.size)) (EP X pins σ Q) X.xe { s3 with heap:=s3.heap.push { cls:=.type "slice",data:=.fields #[vl,vu,.none] }};exact tail_any (ops:=[.ref s3.heap.objs.size,v]) ht hT hg (by with_unfolding_all rfl)
noncomputable def gY(xs:List V)(lo hi:Option Int):List V:=(xs.drop (_H.cT xs.length 0 lo)).take (_H.cT xs.length xs.length hi - _H.cT xs.length 0 lo)
theorem C7(xs:List V)(lo hi:Option Int):(gY xs lo hi).length<=xs.length:=by
 unfold gY;rw[List.length_take,List.length_drop];lia
noncomputable def Lp(K:PySem.W.Frag):R2:=λx y H Q=>∃a b xs ys,x = .ref a/\y = .ref b/\bW K H a xs/\bW K H b ys/\xs≠[]/\xs.length+ys.length<=sizeLine/\
 (ys = []->Q (.ref a) H)/\(ys≠[]->∀p,H p=none->Q (.ref p) (upd H p (.tup (xs++ys))))
end
noncomputable def fX(n:Nat)(i:Int):Option Nat:=if 0<=i then(if i<n then some i.toNat else none) else if -(n:Int)<=i then some (i+n).toNat else none
noncomputable def dO{α:Type}(xs:List α)(i:Int):Option α:=(fX xs.length i).bind λj=>xs[j]?
theorem xK{n:Nat}{i:Int}{j:Nat}(h:fX n i=some j):seqIndex? i n=some j/\j<n/\-(n:Int)<=i/\i<n:=by
 unfold fX at h;by_cases h0:0<=i
 ·rw[if_pos h0] at h;by_cases h1:i<n
  ·rw[if_pos h1] at h;have e:i.toNat=j:=Option.some.inj h;exact⟨by rw[seqIndex_of h0 h1,e],by lia,by lia,h1⟩
  ·rw[if_neg h1] at h;cases h
 ·rw[if_neg h0] at h;by_cases h1 : -(n:Int)<=i
  ·rw[if_pos h1] at h;have e:(i+n).toNat=j:=Option.some.inj h;exact⟨by rw[seqIndex_neg (by lia) h1,e],by lia,h1,by lia⟩
  ·rw[if_neg h1] at h;cases h
theorem rW{α:Type}{xs:List α}{i:Int}{v:α}(h:dO xs i=some v):∃j,seqIndex? i xs.length=some j/\xs[j]? = some v/\j<xs.length/\-(xs.length:Int)<=i/\i<xs.length:=by
 unfold dO at h;cases e:fX xs.length i with
 | none=>rw[e] at h;cases h
 | some j =>
  rw[e] at h;obtain⟨h1,h2,h3,h4⟩:=xK e;exact⟨j,h1,h,h2,h3,h4⟩
theorem jo{α:Type}{xs:List α}{j:Nat}{v:α}(h:xs[j]? = some v):dO xs (j:Int)=some v:=by
 have hj:j<xs.length:=(List.getElem?_eq_some_iff.mp h).1;have e:fX xs.length (j:Int)=some j:=by
  unfold fX;rw[if_pos (by lia),if_pos (by lia)];simp
 unfold dO;rw[e];exact h
noncomputable def C8(b:Expr):Prop:=∀o i,subscripted b false o i=operate [o,i] (getItem o i)
noncomputable def fY(X:Cx)(r:R2):Prop :=
 ∀(value slice:Expr) (pins:List (Addr×Obj)) (s:Shared) (σ:St) (H:Hp) (x y:V) (v u:Value) (Q:VK),Inv X pins σ H s->RelV x v->RelV y u->r x y H Q->
  subscripted slice false v u=operate [v,u] (getItem v u)->wpAny (model X.prog X.w) X.A (subscriptTail value slice v u) (EP X pins σ Q) X.xe s
noncomputable def C9(X:Cx)(id:String)(r:V->List V->Hp->VK->Prop):Prop :=
 ∀(pins:List (Addr×Obj)) (s:Shared) (σ:St) (H:Hp) (x:V) (xs:List V) (v:Value) (us:List Value) (Q:VK),Inv X pins σ H s->RelV x v->Vals xs us->r x xs H Q->
  wpAny (model X.prog X.w) X.A (call (.builtin id) (v::us)) (EP X pins σ Q) X.xe s
section
variable{X:Cx}{a b:Expr}{ta tb:TE}{pos:Pos}
theorem fY.or{r r':R2}(h:fY X r)(h':fY X r'):fY X (λx y H Q=>r x y H Q\/r' x y H Q):=by
 intro value slice pins s σ H x y v u Q I rx ry q hs;rcases q with q | q
 ·exact h value slice pins s σ H x y v u Q I rx ry q hs
 ·exact h' value slice pins s σ H x y v u Q I rx ry q hs
theorem b_{r:R2}(hr:fY X r)(ha:PE X a ta)(hb:PE X b tb)(hs:C8 b):PE X (.Subscript a b pos) (mW r ta tb):=by
 intro pins s σ H Q I h;exact Subscript_ (rK ha hb I h λv u s2 x y H2 I2 rx ry q=>hr a b pins s2 σ H2 x y v u Q I2 rx ry q (hs _ _))
noncomputable def nk(K:PySem.W.Frag):R2:=λx y H Q=>∃p xs i v,x = .ref p/\y = .int i/\aB K H p xs/\dO xs i=some v/\Q v H
noncomputable def nq(K:PySem.W.Frag):R2:=λx y H Q=>∃p xs i v,x = .ref p/\y = .int i/\bW K H p xs/\dO xs i=some v/\Q v H
noncomputable def xM:R2:=λx y H Q=>∃z i c,x = .str z/\y = .int i/\z.length<=sizeLine/\dO z.cps.toList i=some c/\Q (.str ⟨#[c]⟩) H
theorem cN:fY X (nk X.K):=by
 intro value slice pins s σ H x y v u Q I rx ry h hs;obtain⟨p,xs,i,z,rfl,rfl,hq,he,q⟩:=h;cases rx;obtain⟨t,rfl⟩:=ry;obtain⟨aq,r,pl,hz⟩:=I.list hq;obtain⟨j,h1,h2,h3,h4,h5⟩:=rW he;obtain⟨w,ew,rX⟩:=r.get h2;have hl:=r.length;have hn:=kL;have fin:EP X pins σ Q w s:=⟨z,H,I,rX,q⟩;by_cases h0:0<=i
 ·have hj:i.toNat=j:=by
   rw[seqIndex_of h0 h5] at h1;exact Option.some.inj h1
  exact item_listR pl.isList h0 (by lia) (by rw[hj];simpa using ew) fin hs
 ·have hj:(i+(aq.toArray.size:Int)).toNat=j:=by
   rw[seqIndex_neg (by lia) h4] at h1
   rw[List.size_toArray,← hl];exact Option.some.inj h1
  exact subscriptTail_builtinR (x:=w) pl.isList.typeIs slot_list_getitem.lookup
   (wpAny_getItem_list_neg (Q:=λr s'=>r=w/\EP X pins σ Q r s') pl.isList (by lia) (by rw[List.size_toArray] <;> lia) (by lia) (by rw[hj];simpa using ew) ⟨rfl,fin⟩) hs
theorem kP:fY X (nq X.K):=by
 intro value slice pins s σ H x y v u Q I rx ry h hs;obtain⟨p,xs,i,z,rfl,rfl,hq,he,q⟩:=h;cases rx;obtain⟨t,rfl⟩:=ry;obtain⟨aq,r,pl,hz⟩:=I.tuple hq;obtain⟨j,h1,h2,h3,h4,h5⟩:=rW he;obtain⟨w,ew,rX⟩:=r.get h2;have hl:=r.length;have hn:=kL;have fin:EP X pins σ Q w s:=⟨z,H,I,rX,q⟩;exact subscriptTail_builtinR (x:=w) pl.typeIs slot_tuple_getitem.lookup
  (getItem_tuple (j:=j) (Q:=λr s'=>r=w/\EP X pins σ Q r s') pl (by lia) (by lia) (by rw[List.size_toArray,← hl];exact h1) (by simpa using ew) ⟨rfl,fin⟩) hs
theorem C_:fY X xM:=by
 intro value slice pins s σ H x y v u Q I rx ry h hs;obtain⟨z,i,c,rfl,rfl,hz,he,q⟩:=h;obtain⟨t,rfl⟩:=rx;obtain⟨t',rfl⟩:=ry;obtain⟨j,h1,h2,h3,h4,h5⟩:=rW he;have hl:z.cps.toList.length=z.length:=by simp[Str.length]
 rw[hl] at h1 h4 h5;have hn:=kL;exact tail_any (typeIs_str s z t) slot_str_getitem.lookup (getItem_str (c:=c) (by
  have e1:decide (i < -(2 ^ 63:Int))=false:=decide_eq_false (by lia)
  have e2:decide (i ≥ 2 ^ 63)=false:=decide_eq_false (by lia)
  rw[e1,e2,Bool.or_false]) (by rw[h1];simpa using h2) ⟨.str ⟨#[c]⟩,H,I.tok _,⟨_,rfl⟩,q⟩) hs
noncomputable def rY(K:PySem.W.Frag):R2:=λx y H Q=>nk K x y H Q\/nq K x y H Q\/xM x y H Q
theorem xN:fY X (rY X.K):=cN.or (kP.or C_)
theorem Dc(aq:List Value)(n j:Nat)(u:Value):Obj.mapSeq (·.setIfInBounds j u) { cls:=.type "list",data:=.seq aq.toArray n } = { cls:=.type "list",data:=.seq (aq.set j u).toArray n }:=by
 simp[Obj.mapSeq]
theorem Inv.lst{pins:List (Addr×Obj)}{σ:St}{H:Hp}{s:Shared}{p:Addr}{xs:List V}(I:Inv X pins σ H s)(h:H p=some (.lst xs)) :
  ∃(aq:List Value) (n:Nat),Vals xs aq/\s.heap.get? p=some { cls:=.type "list",data:=.seq aq.toArray n }/\xs.length<=sizeLine:=by
 obtain⟨z,aq,n,r,e⟩:=I.aD p _ h;exact⟨aq,n,r,e,z⟩
theorem Inv.Dd{pins:List (Addr×Obj)}{σ:St}{H:Hp}{s:Shared}{p:Addr}{xs ys:List V}{aq its':List Value}{n n':Nat}{f:Obj->Obj}(I:Inv X pins σ H s)(h:H p=some (.lst xs))
  (ho:s.heap.get? p=some { cls:=.type "list",data:=.seq aq.toArray n }) (hf:f { cls:=.type "list",data:=.seq aq.toArray n } = { cls:=.type "list",data:=.seq its'.toArray n' }) (r:Vals ys its') (hz:ys.length<=sizeLine) (t:Nat) :
  Inv X pins σ (upd H p (.lst ys)) { s with heap:=s.heap.update p f,toks:=t }:=by
 have e:(s.heap.update p f).get? p=some { cls:=.type "list",data:=.seq its'.toArray n' }:=by
  rw[Heap.get?_update_self f ho (by rw[hf] <;> rfl),hf]
 refine I.write (x:=p) (e:=p) (by rw[h];trivial) (.inl rfl) (λb u hb q=>(Heap.get?_update_other _ _ (Ne.symm hb)).trans q) ⟨_,e⟩ ?_
 exact⟨hz,its',n',r,e⟩
noncomputable def De:V->V->V->Hp->(Hp->Prop)->Prop:=λo i v H Q=>∃p xs k j,o = .ref p/\i = .int k/\H p=some (.lst xs)/\fX xs.length k=some j/\Q (upd H p (.lst (xs.set j v)))
theorem set_list:wR X De:=by
 intro pins s σ H o i v ov iv u Q I ro ri rv h;obtain⟨p,xs,k,j,rfl,rfl,hp,hj,q⟩:=h;cases ro;obtain⟨t,rfl⟩:=ri;obtain⟨aq,n,r,ho,hz⟩:=I.lst hp;obtain⟨h1,h2,h3,h4⟩:=xK hj;have hl:=r.length;have hn:=kL;have I':Inv X pins σ (upd H p (.lst (xs.set j v))) { s with heap:=s.heap.update p (Obj.mapSeq (·.setIfInBounds j u))} :=
  I.Dd hp ho (Dc aq n j u) (r.set rv j) (by rw[List.length_set];exact hz) s.toks
 by_cases h0:0<=k
 ·have hk:k.toNat=j:=by
   rw[seqIndex_of h0 h4] at h1;exact Option.some.inj h1
  exact PySem.W.ki_setAt ho h0 (by lia) (by rw[List.size_toArray,← hl];exact h4) (by rw[hk];exact⟨_,I',q⟩)
 ·have hk:(k+(aq.toArray.size:Int)).toNat=j:=by
   rw[seqIndex_neg (by lia) h3] at h1
   rw[List.size_toArray,← hl];exact Option.some.inj h1
  exact PySem.W.ki_setBack ho (by lia) (by rw[List.size_toArray,← hl];exact h3) (by lia) (by rw[hk];exact⟨_,I',q⟩)
theorem Df(lo hi:Option Int)(n:Nat):(sliceBounds lo hi none n).1=((_H.cT n 0 lo:Nat):Int)/\(sliceBounds lo hi none n).2.1=((_H.cT n n hi:Nat):Int)/\(sliceBounds lo hi none n).2.2=1:=by
 refine⟨?_,?_,rfl⟩
 ·cases lo with
  | none=>simp[sliceBounds,_H.cT]
  | some i =>
   simp only[sliceBounds,_H.cT,Option.getD_none,show (1:Int) > 0 by decide,if_true]
   by_cases h:i<0
   ·simp only[h,if_true] <;> lia
   ·simp only[h,if_false] <;> lia
 ·cases hi with
  | none=>simp[sliceBounds,_H.cT]
  | some i =>
   simp only[sliceBounds,_H.cT,Option.getD_none,show (1:Int) > 0 by decide,if_true]
   by_cases h:i<0
   ·simp only[h,if_true] <;> lia
   ·simp only[h,if_false] <;> lia
theorem Dg(aq:List Value)(lo hi:Option Int):slicePick aq.toArray lo hi none=((aq.drop (_H.cT aq.length 0 lo)).take (_H.cT aq.length aq.length hi - _H.cT aq.length 0 lo)).toArray:=by
 obtain⟨h1,h2,h3⟩:=Df lo hi aq.toArray.size;unfold slicePick;rw[h1,h2,h3];simp only[sliceRange_one,pick_run,List.size_toArray] <;> rfl
noncomputable def Dh(K:PySem.W.Frag):V->Option Int->Option Int->Hp->VK->Prop:=λx lo hi H Q=>∃a xs,x = .ref a/\aB K H a xs/\∀p,H p=none->Q (.ref p) (upd H p (.lst (gY xs lo hi)))
theorem rZ:xJ X (Dh X.K):=by
 intro pins s σ H x v vl vu lo hi sl Q I rx hs pl pu h;obtain⟨a,xs,rfl,hx,q⟩:=h;cases rx;obtain⟨aq,r,ht,hz⟩:=I.list hx;have hlen:=r.length;refine⟨"list",_,slot_list_getitem.lookup,ht.isList.typeIs,?_⟩;refine wpAny_getItem_list_slice ht.isList hs pl pu .none (by simp) ?_ (by rw[List.size_toArray] <;> lia)
 rw[Dg,← hlen];refine⟨.ref s.heap.objs.size,_,I.laid (t':=s.toks) (o:=.lst (gY xs lo hi)) (λb ob q=>Heap.get?_push_of_some _ q) (Nat.le_refl _) ?_,rfl,q _ (I.aD.fresh (Nat.le_refl _))⟩;exact⟨Nat.le_trans (C7 xs lo hi) hz,_,0,(r.drop (_H.cT xs.length 0 lo)).take (_H.cT xs.length xs.length hi - _H.cT xs.length 0 lo),Heap.get?_push_size _ rfl⟩
noncomputable def nu:V->Bool
 | .aG=>true
 | .bl _=>true
 | .int _=>true
 | .str _=>true
 | _=>false
noncomputable def jW:V->V->Bool
 | .aG,.aG=>true
 | .bl a,.bl b=>a == b
 | .bl a,.int b=>(if a then 1 else 0) == b
 | .int a,.bl b=>a == (if b then 1 else 0)
 | .int a,.int b=>a == b
 | .str a,.str b=>a == b
 | _,_=>false
theorem xO{A:Around}{s:Shared}{y x:V}{u v:Value}(ry:RelV y u)(rx:RelV x v)(fy:nu y=true)(fx:nu x=true):SeqAt.EqAt A s u v (jW y x):=by
 cases y with
 | aG =>
  cases ry;cases x with
  | aG=>cases rx;exact SeqAt.EqAt.same _
  | bl b=>cases rx;exact SeqAt.EqAt.none_bool b
  | int b=>obtain⟨t,rfl⟩:=rx;exact SeqAt.EqAt.none_int b t
  | str b=>obtain⟨t,rfl⟩:=rx;exact SeqAt.EqAt.none_str b t
  | _=>exact absurd (show false=true from fx) Bool.false_ne_true
 | bl a =>
  cases ry;cases x with
  | aG=>cases rx;exact SeqAt.EqAt.bool_none a
  | bl b=>cases rx;exact SeqAt.EqAt.bool_bool a b
  | int b=>obtain⟨t,rfl⟩:=rx;exact SeqAt.EqAt.bool_int a b t
  | str b=>obtain⟨t,rfl⟩:=rx;exact SeqAt.EqAt.bool_str a b t
  | _=>exact absurd (show false=true from fx) Bool.false_ne_true
 | int a =>
  obtain⟨t',rfl⟩:=ry;cases x with
  | aG=>cases rx;exact SeqAt.EqAt.int_none a t'
  | bl b=>cases rx;exact SeqAt.EqAt.int_bool a t' b
  | int b=>obtain⟨t,rfl⟩:=rx;exact SeqAt.EqAt.int_int a t' b t
  | str b=>obtain⟨t,rfl⟩:=rx;exact SeqAt.EqAt.int_str a t' b t
  | _=>exact absurd (show false=true from fx) Bool.false_ne_true
 | str a =>
  obtain⟨t',rfl⟩:=ry;cases x with
  | aG=>cases rx;exact SeqAt.EqAt.str_none a t'
  | bl b=>cases rx;exact SeqAt.EqAt.str_bool a t' b
  | int b=>obtain⟨t,rfl⟩:=rx;exact SeqAt.EqAt.str_int a t' b t
  | str b=>obtain⟨t,rfl⟩:=rx;exact SeqAt.EqAt.str_str a t' b t
  | _=>exact absurd (show false=true from fx) Bool.false_ne_true
 | _=>exact absurd (show false=true from fy) Bool.false_ne_true
noncomputable def xP(x:V)(xs:List V):Bool:=xs.any λy=>jW y x
noncomputable def Lq(K:PySem.W.Frag)(neg:Bool):R2:=λx y H Q=>∃p xs,y = .ref p/\(aB K H p xs\/bW K H p xs)/\nu x=true/\xs.all nu=true/\Q (.bl (if neg then !xP x xs else xP x xs)) H
theorem cO:fH X (.builtin "len") (λxs H Q=>∃p ys,xs = [.ref p]/\(aB X.K H p ys\/bW X.K H p ys)/\Q (.int ys.length) H):=by
 intro pins s σ H xs us Q I r h;obtain⟨p,ys,rfl,hq,q⟩:=h;obtain⟨u,rfl,rx⟩:=vals1 r;cases rx;have hn:=kL;rcases hq with hq | hq
 ·obtain⟨aq,r',pl,hz⟩:=I.list hq;have hlen:=r'.length;exact Calls.call_len_list pl.isList (by simp only[List.size_toArray] <;> lia) ⟨.int ys.length,H,I.tok _,⟨s.toks+1,by rw[List.size_toArray,hlen]⟩,q⟩
 ·obtain⟨aq,r',pl,hz⟩:=I.tuple hq;have hlen:=r'.length;exact len_tuple pl (by simp only[List.size_toArray] <;> lia) ⟨.int ys.length,H,I.tok _,⟨s.toks+1,by rw[List.size_toArray,hlen]⟩,q⟩
theorem r9:fH X (.type "list") (λxs H Q=>∃p ys,xs = [.ref p]/\(aB X.K H p ys\/bW X.K H p ys)/\∀l,H l=none->Q (.ref l) (upd H l (.lst ys))):=by
 intro pins s σ H xs us Q I r h;obtain⟨p,ys,rfl,hq,q⟩:=h;obtain⟨u,rfl,rx⟩:=vals1 r;cases rx;have fin:∀(aq:List Value),Vals ys aq->ys.length<=sizeLine->∀(h':Heap) (c':Nat),(∀b o',s.heap.get? b=some o'->h'.get? b=some o')->
   h'.get? s.heap.objs.size=some { cls:=.type "list",dict:=none,data:=.seq aq.toArray c',slots := #[] }->EP X pins σ Q (.ref s.heap.objs.size) { s with heap:=h' }:=λaq r' hz h' c' kp e =>
  ⟨.ref s.heap.objs.size,_,I.laid (t':=s.toks) kp (Nat.le_refl _) (show bK X.prog X.w _ h' _ (.lst ys) from⟨hz,aq,c',r',e⟩),rfl,q _ (I.aD.fresh (Nat.le_refl _))⟩
 rcases hq with hq | hq
 ·obtain⟨aq,r',pl,hz⟩:=I.list hq;have hlen:=r'.length;obtain⟨o,ho,hc,n,hd⟩:=pl.isList;exact call_list_seq p (.inl rfl) ho hc hd (λh' c' kp e=>fin aq r' hz h' c' kp e) (by simp only[List.size_toArray] <;> lia)
 ·obtain⟨aq,r',pl,hz⟩:=I.tuple hq;have hlen:=r'.length;obtain⟨o,ho,hc,n,hd⟩:=pl;exact call_list_seq p (.inr rfl) ho hc hd (λh' c' kp e=>fin aq r' hz h' c' kp e) (by simp only[List.size_toArray] <;> lia)
noncomputable def r_(K:PySem.W.Frag)(T:String)(x:V)(H:Hp):Prop:=match x with
 | .str _=>T = "str"
 | .int _=>T = "int"
 | .ref p=>(T = "list"/\∃xs,aB K H p xs)\/(T = "tuple"/\∃o,K.lookup p=some o/\o.cls = .type "tuple"/\o.dict=none)\/
   (T = "dict"/\((∃az,H p=some (.dK az))\/∃az,H p=some (.dT az)))\/(T = "set"/\∃S n,H p=some (.set S n))
 | _=>False
theorem Di{pins:List (Addr×Obj)}{σ:St}{H:Hp}{s:Shared}{T:String}{x:V}{v:Value}(I:Inv X pins σ H s)(r:RelV x v)(ty:r_ X.K T x H) :
  s.TypeIs v T/\∀a,v = .ref a->∃ob,s.heap.get? a=some ob/\ob.dict=none:=by
 cases x with
 | str z =>
  obtain⟨t,rfl⟩:=r;cases (show T = "str" from ty);exact⟨typeIs_str s z t,λ_ e=>nomatch e⟩
 | int i =>
  obtain⟨t,rfl⟩:=r;cases (show T = "int" from ty);exact⟨typeIs_int s i t,λ_ e=>nomatch e⟩
 | ref p =>
  cases r;rcases ty with⟨rfl,xs,hq⟩ | ⟨rfl,o,hk,hc,hd⟩ | ⟨rfl,hk⟩ | ⟨rfl,S,n,hk⟩
  ·obtain⟨aq,_,pl,_⟩:=I.list hq;refine⟨pl.isList.typeIs,λa e=>?_⟩;cases e;obtain⟨o,n,e,c,hd,_⟩:=pl;exact⟨o,e,hd⟩
  ·refine⟨⟨o,I.bR p o hk,hc⟩,λa e=>?_⟩;cases e;exact⟨o,I.bR _ o hk,hd⟩
  ·have z:∃o,s.heap.get? p=some o/\o.ExactDict:=by
    rcases hk with⟨az,hk⟩ | ⟨az,hk⟩
    ·obtain⟨_,_,_,_,o,_,_,e,ex,_⟩:=I.aD p _ hk;exact⟨o,e,ex⟩
    ·obtain⟨_,_,_,_,o,_,_,e,ex,_⟩:=I.aD p _ hk;exact⟨o,e,ex⟩
   obtain⟨o,e,ex⟩:=z;refine⟨⟨o,e,ex.1⟩,λa e2=>?_⟩;cases e2;exact⟨o,e,ex.2.1⟩
  ·obtain⟨o,_,_,_,e,ex,_⟩:=I.aD p _ hk;refine⟨⟨o,e,ex.1⟩,λa e2=>?_⟩;cases e2;exact⟨o,e,ex.2.1⟩
 | _=>exact False.elim ty
noncomputable def Lr(K:PySem.W.Frag)(T:String)(r:V->List V->Hp->VK->Prop)(to:TE):TE:=λσ H Q=>to σ H λx H1=>r_ K T x H1/\r x [] H1 Q
noncomputable def Dj(K:PySem.W.Frag)(T:String)(r:V->List V->Hp->VK->Prop)(to:TE)(t:TA):TE:=λσ H Q=>to σ H λx H1=>r_ K T x H1/\t σ H1 λxs H2=>r x xs H2 Q
variable{o e:Expr}{es:List Expr}{to:TE}{t:TA}{name:Str}{apos dG:Pos}{T id:String}{r:V->List V->Hp->VK->Prop}
theorem kQ(pa:PlainAttrs T)(slot:Slot T name id)(Dl:typeOf (.builtin id)=pure (.type "method_descriptor"))(hm:C9 X id r)(ho:PE X o to)(ha:PA X (e::es) t)
  (Dm:attributeBase o name X.env (eval o X.env)=eval o X.env:=by rfl)
  (Dn:((backTo dG (starEach (e::es) X.env)).all (λx => !x.1) && (backToKw dG (keywordEach [] X.env)).all (λx=>x.1.isSome)
   && decide ((e::es).length+([]:List Keyword).length+(if ([]:List Keyword).isEmpty then 0 else 1)<30))=true:=by rfl)
  (Dp:(apos.endLine == dG.line)=true:=by rfl) (hs:starEach (e::es) X.env=(false,eval e X.env)::starEach es X.env:=by rfl) (Dq:(backTo dG (starEach es X.env)).any (·.1)=false:=by rfl) :
  PE X (.Call (.Attribute o name apos) (e::es) [] dG) (Dj X.K T r to t):=by
 intro pins s σ H Q I h;refine wpAny_Call_method_late Dm Dn Dp rfl (aJ (ho pins s σ H _ I h) λv s1 ⟨x,H1,I1,r1,ty,q1⟩=>?_);obtain⟨h1,h2⟩:=Di I1 r1 ty;refine⟨T,id,pa,slot,Dl,h1,h2,?_⟩;have hA:=ha dG pins s1 σ H1 _ I1 q1;rw[hs] at hA ⊢;refine Calls.callWith_builtin (by show (false || (backTo dG (starEach es X.env)).any (·.1))=false;rw[Dq] <;> rfl) (Calls.evalArgs_plain ?_)
 exact aJ hA λus s2 ⟨vs,H2,I2,r2,q2⟩=>hm pins s2 σ H2 x vs v us Q I2 r1 r2 q2
end
noncomputable def xQ(X:Cx)(id:String)(r:V->List V->Hp->VK->Prop):Prop :=
 ∀(pins:List (Addr×Obj)) (s:Shared) (σ:St) (H:Hp) (x:V) (xs:List V) (v:Value) (us:List Value) (Q:VK),Inv X pins σ H s->RelV x v->Vals xs us->r x xs H Q->
  wpAny (model X.prog X.w) X.A (call (.builtin id) (v::us)) (EP X pins σ Q) X.xe s
theorem Vals.one:∀ {x:V} {us:List Value},Vals [x] us->∃u,us = [u]/\RelV x u
 | _,_,.cons r .nil=>⟨_,rfl,r⟩
theorem Vals.rep{xs:List V}{us:List Value}(h:Vals xs us):∀k:Nat,Vals (List.replicate k xs).flatten (List.replicate k us).flatten
 | 0=>.nil
 | k+1=>by
  rw[List.replicate_succ,List.replicate_succ,List.flatten_cons,List.flatten_cons];exact Vals.append h (Vals.rep h k)
theorem foldl_rep(aq:List Value):∀(k:Nat) (acc:List Value),
  List.foldl (λx1 x2=>x1++x2) acc.toArray (List.replicate k aq.toArray)=(acc++(List.replicate k aq).flatten).toArray
 | 0,acc=>by simp
 | k+1,acc=>by
  have e:acc.toArray++aq.toArray=(acc++aq).toArray:=by simp
  have e2:(acc++aq)++(List.replicate k aq).flatten=acc++(List.replicate (k+1) aq).flatten:=by
   rw[List.replicate_succ,List.flatten_cons,List.append_assoc]
  rw[← e2,← foldl_rep aq k (acc++aq),← e,List.replicate_succ,List.foldl_cons]
section
variable{X:Cx}{pins:List (Addr×Obj)}{σ:St}{H:Hp}{s:Shared}{l b:Addr}{xs ys zs:List V}
theorem Inv.xR{aq its':List Value}{n:Nat}{f:Array Value->Array Value}{t':Nat}(I:Inv X pins σ H s)(hH:H l=some (.lst xs))
  (e:s.heap.get? l=some { cls:=.type "list",data:=.seq aq.toArray n }) (hf:f aq.toArray=its'.toArray) (hv:Vals ys its') (hz:ys.length<=sizeLine) :
  Inv X pins σ (upd H l (.lst ys)) { s with heap:=s.heap.update l (Obj.mapSeq f),toks:=t' }:=by
 have q:=PySem.IsL.update e f;rw[hf] at q;refine I.write (x:=l) (e:=l) (by rw[hH];exact trivial) (.inl rfl) (λb' u hb hu=>(Heap.get?_update_other s.heap (Obj.mapSeq f) (Ne.symm hb)).trans hu) ⟨_,q⟩ ?_
 exact⟨hz,its',_,hv,q⟩
theorem Inv.xS{aq:List Value}{t':Nat}(I:Inv X pins σ H s)(hv:Vals ys aq)(hz:ys.length<=sizeLine) :
  Inv X pins σ (upd H s.heap.objs.size (.lst ys)) { s with heap:=s.heap.push { cls:=.type "list",data:=.seq aq.toArray },toks:=t' } :=
 I.laid (λ_ _ q=>Heap.get?_push_of_some _ q) (Nat.le_refl _) ⟨hz,aq,0,hv,Heap.get?_push_size _ rfl⟩
theorem Inv.fresh(I:Inv X pins σ H s):H s.heap.objs.size=none:=I.aD.fresh (Nat.le_refl _)
theorem Inv.jX(I:Inv X pins σ H s)(hH:H l=some (.lst xs)):xs.length<=sizeLine/\∃(aq:List Value) (n:Nat),Vals xs aq/\xs.length=aq.length/\s.heap.get? l=some { cls:=.type "list",data:=.seq aq.toArray n }:=by
 obtain⟨z,aq,n,r,e⟩:=I.aD l _ hH;exact⟨z,aq,n,r,r.length,e⟩
theorem xT{n:Nat}(h:n<=sizeLine):Builtin.List.listTooLong n=false:=by
 unfold Builtin.List.listTooLong;exact decide_eq_false (by lia)
end
section
variable{X:Cx}
noncomputable def Dr:V->List V->Hp->VK->Prop:=λx vs H Q=>∃l xs y,x = .ref l/\vs = [y]/\H l=some (.lst xs)/\xs.length<sizeLine/\Q .aG (upd H l (.lst (xs++[y])))
theorem nv:xQ X "list.append" Dr:=by
 intro pins s σ H x vs v us Q I rx rv h;obtain⟨l,xs,y,rfl,rfl,hH,hz,q⟩:=h;cases rx;obtain⟨u,rfl,ru⟩:=rv.one;obtain⟨z,aq,n,r,hl,e⟩:=I.jX hH;refine call_meets F.slot_list_append ⟨_,e,rfl⟩ F.entry_list_append (F.args_list_append_2 _ _) (PySem.list_append l aq.toArray n u (by rw[List.size_toArray];lia)) ⟨e,?_⟩
 refine⟨.aG,_,I.xR (its':=aq++[u]) hH e (by simp) (r.append (.cons ru .nil)) ?_,rfl,q⟩
 rw[List.length_append,List.length_singleton];lia
noncomputable def Ds:V->List V->Hp->VK->Prop:=λx vs H Q=>∃l b xs zs,x = .ref l/\vs = [.ref b]/\H l=some (.lst xs)/\H b=some (.lst zs)/\xs.length+zs.length<=sizeLine/\Q .aG (upd H l (.lst (xs++zs)))
theorem xU:xQ X "list.extend" Ds:=by
 intro pins s σ H x vs v us Q I rx rv h;obtain⟨l,b,xs,zs,rfl,rfl,hH,hB,hz,q⟩:=h;cases rx;obtain⟨u,rfl,ru⟩:=rv.one;cases ru;obtain⟨z,aq,n,r,hl,e⟩:=I.jX hH;obtain⟨z2,gB,n2,r2,Du,e2⟩:=I.jX hB;have hsz:aq.toArray.size+gB.toArray.size<=sizeLine:=by rw[List.size_toArray,List.size_toArray];lia
 have se:¬ (!aq.toArray.isEmpty && Builtin.List.listTooLong (aq.toArray.size+gB.toArray.size))=true:=by
  rw[xT hsz,Bool.and_false];exact Bool.false_ne_true
 refine call_meets F.slot_list_extend ⟨_,e,rfl⟩ F.entry_list_extend (F.args_list_extend_2 _ _)
  (AutoSeq1.list_extend_list_list_0 l aq.toArray n b gB.toArray n2 se (by rw[List.size_toArray];lia) (by lia)) ⟨e,e2,?_⟩
 refine⟨.aG,_,I.xR (its':=aq++gB) hH e (by simp) (r.append r2) ?_,rfl,q⟩
 rw[List.length_append];lia
noncomputable def Ls:V->List V->Hp->VK->Prop:=λx vs H Q=>∃l xs y,x = .ref l/\vs = []/\H l=some (.lst xs)/\xs[xs.length - 1]? = some y/\Q y (upd H l (.lst xs.dropLast))
noncomputable def Lu:V->List V->Hp->VK->Prop:=λx vs H Q=>∃l xs,x = .ref l/\vs = []/\H l=some (.lst xs)/\Q .aG (upd H l (.lst []))
noncomputable def Dv:R2:=λx y H Q=>∃l b xs zs,x = .ref l/\y = .ref b/\H l=some (.lst xs)/\H b=some (.lst zs)/\xs.length+zs.length<=sizeLine/\∀p,H p=none->Q (.ref p) (upd H p (.lst (xs++zs)))
theorem iG:cM X (binaryOp .Add) Dv:=by
 intro pins s σ H x y v u Q I rx ry h;obtain⟨l,b,xs,zs,rfl,rfl,hH,hB,hz,q⟩:=h;cases rx;cases ry;obtain⟨z,aq,n,r,hl,e⟩:=I.jX hH;obtain⟨z2,gB,n2,r2,Du,e2⟩:=I.jX hB;refine PySem.P.add_list e e2 ?_ (by rw[List.size_toArray,List.size_toArray];lia)
 have ea:aq.toArray++gB.toArray=(aq++gB).toArray:=by simp
 rw[ea];exact⟨.ref _,_,I.xS (t':=s.toks) (r.append r2) (by rw[List.length_append];lia),rfl,q _ I.fresh⟩
noncomputable def Dw:R2:=λx y H Q=>∃l k xs,x = .ref l/\y = .int k/\H l=some (.lst xs)/\-(2 ^ 63)<=k/\k<2 ^ 63/\xs.length*k.toNat<=sizeLine/\
 ∀p,H p=none->Q (.ref p) (upd H p (.lst (List.replicate k.toNat xs).flatten))
theorem len_rep{α:Type}(xs:List α)(k:Nat):(List.replicate k xs).flatten.length=k*xs.length:=by
 induction k with
 | zero=>simp
 | succ k ih=>rw[List.replicate_succ,List.flatten_cons,List.length_append,ih,Nat.succ_mul,Nat.add_comm]
theorem kR:cM X (binaryOp .Mult) Dw:=by
 intro pins s σ H x y v u Q I rx ry h;obtain⟨l,k,xs,rfl,rfl,hH,h1,h2,hz,q⟩:=h;cases rx;obtain⟨t,rfl⟩:=ry;obtain⟨z,aq,n,r,hl,e⟩:=I.jX hH;have hlen:aq.toArray.size*k.toNat<=sizeLine:=by rw[List.size_toArray,← hl];exact hz
 have Dy:¬ aq.toArray.size*k.toNat > (2 ^ 63 - 1) / 8:=by
  have:(sizeLine:Nat)<=(2 ^ 63 - 1) / 8:=by decide
  lia
 have Dz:¬ (!Builtin.List.listFitsIndex k)=true:=by
  rw[fitsIndex_both h1 h2];exact Bool.false_ne_true
 have se:¬ Builtin.List.listTooLong (aq.toArray.size*k.toNat)=true:=by
  rw[xT hlen];exact Bool.false_ne_true
 have DA:List.foldl (λx1 x2=>x1++x2) #[] (List.replicate (if aq.toArray.isEmpty=true then 0 else k.toNat) aq.toArray)=(List.replicate k.toNat aq).flatten.toArray:=by
  have f0:∀m:Nat,List.foldl (λx1 x2=>x1++x2) #[] (List.replicate m aq.toArray)=(List.replicate m aq).flatten.toArray:=λm=>by
   have:=foldl_rep aq m [];rw[List.nil_append] at this;exact this
  rw[f0];cases aq with
  | nil=>simp
  | cons a r'=>rw[if_neg (by simp)]
 refine wpAny_binaryOp_repeat_ref (T := "list") (U := "int") (by decide) ⟨_,e,rfl⟩ (λs'=>typeIs_int s' k t) noFill_list_mul F.fills_int_mul F.slot_int_rmul repeat_list F.slot_int_index.lookup
  (call_meets F.slot_int_rmul (typeIs_int s k t) F.entry_int_rmul (F.args_int_rmul_2 _ _) (int___rmul___int_list k t l aq.toArray n)
   ⟨e,rfl,⟨_,e,rfl⟩,call_meets F.slot_list_mul ⟨_,e,rfl⟩ F.entry_list_mul (F.args_list_mul_2 _ _) (AutoListH.list___mul___list_int_3 l aq.toArray n k t Dz Dy se) ⟨e,?_⟩⟩)
 rw[DA];exact⟨.ref _,_,I.xS (t':=s.toks) (r.rep k.toNat) (by rw[len_rep,Nat.mul_comm];exact hz),rfl,q _ I.fresh⟩
end
section
variable{prog:Program}{w:World}{A:Around}{E:Value->Shared->Prop}{s:Shared}
end
section
variable{X:Cx}
end
section
variable{κ:Type}[DecidableEq κ]
noncomputable def gZ(az:List (κ×V))(k:κ):Option V:=(az.find? λkv=>decide (kv.1=k)).map (·.2)
noncomputable def putK(az:List (κ×V))(k:κ)(v:V):List (κ×V) :=
 if (az.any λkv=>decide (kv.1=k))=true then az.map (λkv=>if kv.1=k then(kv.1,v) else kv) else az++[(k,v)]
theorem xV{p:κ×V}{r:List (κ×V)}{k:κ}(e:p.1=k):gZ (p::r) k=some p.2:=by simp[gZ,List.find?_cons,e]
theorem xW{p:κ×V}{r:List (κ×V)}{k:κ}(e:¬ p.1=k):gZ (p::r) k=gZ r k:=by simp[gZ,List.find?_cons,e]
theorem xX(k:κ):∀az:List (κ×V),(az.any λkv=>decide (kv.1=k))=(gZ az k).isSome
 | []=>rfl
 | p::r=>by
  rw[List.any_cons];by_cases e:p.1=k
  ·simp only[xV e,decide_eq_true e,Bool.true_or,Option.isSome_some]
  ·rw[xW e,decide_eq_false e,Bool.false_or];exact xX k r
theorem sf(az:List (κ×V))(k:κ)(v:V):(putK az k v).length<=az.length+1:=by
 unfold putK;split
 ·rw[List.length_map];lia
 ·rw[List.length_append,List.length_cons,List.length_nil];lia
theorem eO.DB{o:Option V}{u:Option Value}(r:eO o u):o.isSome=u.isSome:=by
 cases o with
 | none=>cases u with
  | none=>rfl
  | some _=>exact(show False from r).elim
 | some _=>cases u with
  | none=>exact(show False from r).elim
  | some _=>rfl
theorem KV.any{az:List (κ×V)}{vs:List (κ×Value)}(r:KV az vs)(k:κ):(az.any λkv=>decide (kv.1=k))=vs.any λkv=>decide (kv.1=k):=by
 unfold KV at r
 induction r with
 | nil=>rfl
 | cons h t ih=>rw[List.any_cons,List.any_cons,ih,h.1]
theorem KV.sr{az:List (κ×V)}{vs:List (κ×Value)}(r:KV az vs)(k:κ){y:V}{u:Value}(ry:RelV y u) :
  KV (az.map λkv=>if kv.1=k then(kv.1,y) else kv) (vs.map λkv=>if kv.1=k then(kv.1,u) else kv):=by
 unfold KV at r ⊢
 induction r with
 | nil=>exact .nil
 | @cons p q ps qs h t ih =>
  rw[List.map_cons,List.map_cons];refine .cons ?_ ih;obtain⟨h1,h2⟩:=h;by_cases e:p.1=k
  ·rw[if_pos e,if_pos (h1.symm.trans e)];exact⟨h1,ry⟩
  ·rw[if_neg e,if_neg (λz=>e (h1.trans z))];exact⟨h1,h2⟩
theorem KV.put{az:List (κ×V)}{vs:List (κ×Value)}(r:KV az vs)(k:κ){y:V}{u:Value}(ry:RelV y u):KV (putK az k y) (stored vs k u):=by
 unfold putK stored;rw[r.any k];by_cases e:(vs.any λkv=>decide (kv.1=k))=true
 ·rw[if_pos e,if_pos e];exact r.sr k ry
 ·rw[if_neg e,if_neg e];exact Paired.snoc r ⟨rfl,ry⟩
theorem KV.length{az:List (κ×V)}{vs:List (κ×Value)}(r:KV az vs):az.length=vs.length:=Paired.length r
end
theorem xY{P:Program}{w:World}{k:Key}{u:Value}(r:RelV (kV k) u):(eN P w).is k u=true:=by
 cases k with
 | inl i=>obtain⟨t,e⟩:=(show ∃t,u=Value.int i t from r);subst e;exact BI P w i t
 | inr x=>obtain⟨t,e⟩:=(show ∃t,u=Value.str x t from r);subst e;exact BJ P w x t
theorem xZ{P:Program}{w:World}:∀ {ks:List Key} {us:List Value},Vals (ks.map kV) us->ItemsAre (eN P w) ks us
 | [],_,r=>by rw[List.map_nil] at r;cases r;exact .nil
 | k::ks,_,r=>by
  rw[List.map_cons] at r;cases r with
  | cons h t=>exact .cons (xY h) (xZ t)
noncomputable abbrev KT(H:Hp):List (List Key×V)->List (List Key×Addr×Value)->Prop:=Paired λp q=>p.1=q.1/\H q.2.1=some (.tup (p.1.map kV))/\RelV p.2 q.2.2
theorem KT.val{H:Hp}{az:List (List Key×V)}{xs:List (List Key×Addr×Value)}(r:KT H az xs)(k:List Key):eO (gZ az k) ((atKey xs k).map (·.2)):=by
 induction r with
 | nil=>exact True.intro
 | @cons p q ps qs h t ih =>
  obtain⟨h1,_,h2⟩:=h;by_cases e:p.1=k
  ·have e':q.1=k:=h1.symm.trans e;have b:atKey (q::qs) k=some q.2:=by simp[atKey,List.find?_cons,e']
   rw[xV e,b];exact h2
  ·have e':¬ q.1=k:=λz=>e (h1.trans z);have b:atKey (q::qs) k=atKey qs k:=by simp[atKey,List.find?_cons,e']
   rw[xW e,b];exact ih
theorem KT.sr{H:Hp}{az:List (List Key×V)}{xs:List (List Key×Addr×Value)}(r:KT H az xs)(k:List Key){y:V}{u:Value}(ry:RelV y u) :
  KT H (az.map λkv=>if kv.1=k then(kv.1,y) else kv) (xs.map (putAt k u)):=by
 induction r with
 | nil=>exact .nil
 | @cons p q ps qs h t ih =>
  rw[List.map_cons,List.map_cons];refine .cons ?_ ih;obtain⟨h1,h2,h3⟩:=h;unfold putAt;by_cases e:p.1=k
  ·rw[if_pos e,if_pos (h1.symm.trans e)];exact⟨h1,h2,ry⟩
  ·rw[if_neg e,if_neg (λz=>e (h1.trans z))];exact⟨h1,h2,h3⟩
theorem KT.put{H:Hp}{az:List (List Key×V)}{xs:List (List Key×Addr×Value)}(r:KT H az xs)(k:List Key){b:Addr}{y:V}{u:Value}(hb:H b=some (.tup (k.map kV)))(ry:RelV y u) :
  KT H (putK az k y) (storedH xs k b u):=by
 have e:(az.any λkv=>decide (kv.1=k))=(atKey xs k).isSome:=by
  rw[xX,(r.val k).DB,Option.isSome_map]
 unfold putK storedH;rw[e];by_cases q:(atKey xs k).isSome=true
 ·rw[if_pos q,if_pos q];exact r.sr k ry
 ·rw[if_neg q,if_neg q];exact Paired.snoc r ⟨rfl,hb,ry⟩
theorem KT.keeps{H H':Hp}{az:List (List Key×V)}{xs:List (List Key×Addr×Value)}(r:KT H az xs)(ht:∀b ys,H b=some (.tup ys)->H' b=some (.tup ys)):KT H' az xs :=
 Paired.qU r λ_ _ z=>⟨z.1,ht _ _ z.2.1,z.2.2⟩
section
variable{P:Program}{w:World}{H:Hp}{h:Heap}{a:Addr}
theorem x6{u:HO}(ok:bD P w H h)(e:Rd H a u):bK P w H h a u:=e.ok ok
theorem DC{az:List (Key×V)}(ok:bD P w H h)(e:Rd H a (.dK az)):az.length<=sizeLine/\(a == sysModules)=false/\∃vs,KV az vs/\h.DictOf (eN P w) a vs :=
 show bK P w H h a (.dK az) from x6 ok e
theorem DE{az:List (Key×V)}(ok:bD P w H h)(e:H a=some (.dK az)):az.length<=sizeLine/\(a == sysModules)=false/\∃vs,KV az vs/\h.DictOf (eN P w) a vs:=DC ok (.inl e)
theorem x8{ks:List Key}(ok:bD P w H h)(e:H a=some (.tup (ks.map kV))):(tupleKind (eN P w)).is h ks a:=by
 obtain⟨_,aq,r,o,h1,h2,n,h3⟩:=(show bK P w H h a (.tup (ks.map kV)) from ok a _ e);exact⟨o,aq.toArray,n,h1,h2,h3,by simpa using xZ r⟩
theorem DF{az:List (List Key×V)}(ok:bD P w H h)(e:Rd H a (.dT az)):az.length<=sizeLine/\(a == sysModules)=false/\
  ∃xs,KT H az xs/\h.DictOfH (tupleKind (eN P w)) a xs:=by
 obtain⟨z,y,xs,r,o,es,ep,h1,h2,h3,h4,h5⟩:=(show bK P w H h a (.dT az) from x6 ok e);refine⟨z,y,xs,r,o,es,ep,h1,h2,h3,h4,λx hx=>?_,h5⟩;have all:∀ {l:List (List Key×V)} {m:List (List Key×Addr×Value)},KT H l m->∀x∈m,(tupleKind (eN P w)).is h x.1 x.2.1:=by
  intro l m q
  induction q with
  | nil=>intro x hx;exact nomatch hx
  | @cons p q ps qs hq t ih =>
   intro x hx;rcases List.mem_cons.mp hx with e | hx
   ·subst e;exact x8 ok (by rw[← hq.1];exact hq.2.1)
   ·exact ih x hx
 exact all r x hx
theorem DG{az:List (List Key×V)}(ok:bD P w H h)(e:H a=some (.dT az)):az.length<=sizeLine/\(a == sysModules)=false/\
  ∃xs,KT H az xs/\h.DictOfH (tupleKind (eN P w)) a xs:=DF ok (.inl e)
end
noncomputable def nA(H:Hp)(a:Addr)(y:V)(r:Option V):Prop :=
 (∃az k,Rd H a (.dK az)/\y=kV k/\r=gZ az k)\/∃az k b,Rd H a (.dT az)/\y = .ref b/\H b=some (.tup (k.map kV))/\r=gZ az k
noncomputable def kU(H:Hp)(a:Addr)(y v:V)(H':Hp):Prop :=
 (∃az k,H a=some (.dK az)/\y=kV k/\az.length<sizeLine/\H' = upd H a (.dK (putK az k v)))\/
 ∃az k b,H a=some (.dT az)/\y = .ref b/\H b=some (.tup (k.map kV))/\az.length<sizeLine/\H' = upd H a (.dT (putK az k v))
theorem kU.t{H:Hp}{a b:Addr}{az:List (List Key×V)}{k:List Key}{v:V}(e:H a=some (.dT az))(eb:H b=some (.tup (k.map kV)))(hl:az.length<sizeLine) :
  kU H a (.ref b) v (upd H a (.dT (putK az k v))):=.inr ⟨az,k,b,e,rfl,eb,hl,rfl⟩
section
variable{X:Cx}{pins:List (Addr×Obj)}{σ:St}{H:Hp}{s:Shared}{a:Addr}{y v:V}{u r:Value}{o:Option V}{A:Around}{E:Value->Shared->Prop}
theorem Inv.big(I:Inv X pins σ H s):sysModules<s.heap.objs.size:=by
 have h:mainGlobals<s.heap.objs.size:=(I.mod.glob.keeps I.bk).lt;exact Nat.lt_trans (by decide) h
theorem x9{h':Heap}{t':Nat}{ob:HO}(I:Inv X pins σ H s)(mu:kh (H a))(hs:Heap.SameBut a s.heap h')(he:∃q,h'.get? a=some q)(new:bK X.prog X.w (upd H a ob) h' a ob) :
  Inv X pins σ (upd H a ob) { s with heap:=h',toks:=t' } :=
 I.write (x:=a) (e:=a) mu (.inl rfl) (λb q hb z=>(hs.2 b hb).trans z) he new
theorem DH{P:Program}{w:World}{H':Hp}{h':Heap}{az:List (Key×V)}{vs:List (Key×Value)}(z:az.length<=sizeLine)(hd:(a == sysModules)=false)(rel:KV az vs)(dd:h'.DictOf (eN P w) a vs) :
  bK P w H' h' a (.dK az):=⟨z,hd,vs,rel,dd⟩
theorem DI{H':Hp}{Q:Unit->Shared->Prop}(hu:A.units+1<cLine)(I:Inv X pins σ H s)(g:kU H a y v H')(ry:RelV y u)(rv:RelV v r)(h:∀s',Inv X pins σ H' s'->Q () s') :
  wpAny (model X.prog X.w) A (setItem (.ref a) u r) Q E s:=by
 rcases g with⟨az,k,e,ey,l,eH⟩ | ⟨az,k,b,e,ey,eb,l,eH⟩
 ·subst ey eH;obtain⟨z,hd,vs,rel,dd⟩:=DE I.aD e;have hz:vs.length<=sizeLine:=by rw[← rel.length];exact z
  have hl:(putK az k v).length<=sizeLine:=by have:=sf az k v;lia
  refine wpAny_setItem_pairs (hsz:=hz) (xY ry) dd λh' nB hs=>h _ ?_;have he:∃q,h'.get? a=some q:=let ⟨q,_,_,hq,_⟩:=nB;⟨q,hq⟩
  exact x9 I (by rw[e];exact True.intro) hs he (DH hl hd (rel.put k rv) nB)
 ·subst ey eH;cases (show u=Value.ref b from ry);obtain⟨z,hd,xs,rel,dd⟩:=DG I.aD e;have hz:xs.length<=sizeLine:=by rw[← Paired.length rel];exact z
  have hl:(putK az k v).length<=sizeLine:=by have:=sf az k v;lia
  refine wpAny_setItem_heap (hsz:=hz) (tupleKind_room_in1 hu) (x8 I.aD eb) dd λh' nB hs=>h _ ?_;obtain⟨q,es,ep,hq,h2,h3,h4,_,h5⟩:=nB;refine x9 I (by rw[e];exact True.intro) hs ⟨q,hq⟩ ⟨hl,hd,_,(rel.put k eb rv).keeps λc ys ec=>?_,q,es,ep,hq,h2,h3,h4,h5⟩
  rw[aL (mK ec e (λz=>nomatch z))];exact ec
end
section
variable{X:Cx}{pins:List (Addr×Obj)}{σ:St}{H:Hp}{s:Shared}{a:Addr}{az:List (Key×V)}{k:Key}{u:Value}{A:Around}{E:Value->Shared->Prop}
end
noncomputable def Lv(td ty:TE):TE:=λσ H Q=>td σ H λx H1=>ty σ H1 λy H2=>∃a v,x = .ref a/\nA H2 a y (some v)/\Q v H2
noncomputable def Lw(ty td:TE):TE:=λσ H Q=>ty σ H λy H1=>td σ H1 λx H2=>∃a o,x = .ref a/\nA H2 a y o/\Q (.bl o.isSome) H2
noncomputable def Lx(ty td:TE):TE:=λσ H Q=>ty σ H λy H1=>td σ H1 λx H2=>∃a o,x = .ref a/\nA H2 a y o/\Q (.bl (!o.isSome)) H2
noncomputable def DJ(td ty tv:TE):TS:=λD σ H=>tv σ H λv H1=>td σ H1 λx H2=>ty σ H2 λy H3=>∃a H4,x = .ref a/\kU H3 a y v H4/\D.nx σ H4
section
variable{X:Cx}{o i e value:Expr}{pos pos' CH:Pos}{td ty tv:TE}
theorem DK(hu:X.A.units+1<cLine)(ho:PE X o td)(hi:PE X i ty)(hv:PE X value tv)(hs:swapsWith value (some (.Subscript o i pos')) pos.line X.env=pure false) :
  PS X (.Assign [.Subscript o i pos'] value pos) (DJ td ty tv):=by
 intro pins s σ H D I h;refine wpAny_Assign_Subscript (aJ (hv pins s σ H _ I h) λr s1 ⟨v,H1,I1,rv,q1⟩=>aJ (ho pins s1 σ H1 _ I1 q1) λu s2 ⟨x,H2,I2,rx,q2⟩=>aJ (hi pins s2 σ H2 _ I2 q2) λiv s3 ⟨y,H3,I3,ry,a,H4,ex,g,q3⟩=>?_) hs;subst ex;obtain rfl:u=Value.ref a:=rx;exact DI hu I3 g ry rv λs4 I4=>⟨σ,H4,I4,q3⟩
end
theorem DL{P:Program}{w:World}{H:Hp}(h:Heap)(hb:sysModules<h.objs.size):bK P w H (h.push { cls:=.type "dict",data:=.dict #[] }) h.objs.size (.dT []) :=
 ⟨Nat.zero_le _,beq_eq_false_iff_ne.mpr (Ne.symm (Nat.ne_of_lt hb)),[],.nil,_,#[],0,Heap.get?_push_size _ rfl,⟨rfl,rfl,rfl⟩,rfl,rfl,List.nodup_nil⟩
noncomputable def Ly:TE:=λ_ H Q=>∀p,H p=none->Q (.ref p) (upd H p (.dK []))
noncomputable def DM:TE:=λ_ H Q=>∀p,H p=none->Q (.ref p) (upd H p (.dT []))
section
variable{X:Cx}{pos:Pos}
theorem DN:PE X (.Dict [] [] pos) DM:=λpins s σ H Q I h =>
 wpAny_Dict_empty ⟨.ref s.heap.objs.size,_,I.laid (a:=s.heap.objs.size) (o:=.dT []) (t':=s.toks) (λ_ _ q=>Heap.get?_push_of_some _ q) (Nat.le_refl _) (DL s.heap I.big),rfl,h _ (I.aD.fresh (Nat.le_refl _))⟩
end
noncomputable def DO(H:Hp)(a:Addr):Prop:=(∃az,Rd H a (.dK az))\/∃az,Rd H a (.dT az)
section
variable{X:Cx}{pins:List (Addr×Obj)}{σ:St}{H:Hp}{s:Shared}{a:Addr}{y d:V}{u r:Value}{o:Option V}{A:Around}{E:Value->Shared->Prop}
end
noncomputable def Lz(td ty:TE):TE:=λσ H Q=>td σ H λx H1=>∃a,x = .ref a/\DO H1 a/\ty σ H1 λy H2=>∃o,nA H2 a y o/\Q (o.getD .aG) H2
section
variable{X:Cx}{o e f:Expr}{apos dG:Pos}{td ty tx:TE}
end
section
variable{X:Cx}{pins:List (Addr×Obj)}{σ:St}{H:Hp}{s:Shared}{a:Addr}{az:List (Key×V)}{A:Around}{E:Value->Shared->Prop}
end
section
variable{X:Cx}{pins:List (Addr×Obj)}{σ:St}{H:Hp}{s:Shared}{a:Addr}{y:V}{u:Value}{A:Around}{E:Value->Shared->Prop}
end
end _L
namespace x_
open PySem PySem.W PySem.Calls PyProof.Rows
theorem DP{P:Params}{h:Heap}:∀(ns:List Int) (vs:List Value),WellAll P h vs (ns.map WData.int)->IntsAre vs ns:=by
 intro ns
 induction ns with
 | nil =>
  intro vs w;rw[List.map_nil] at w;cases w;exact .nil
 | cons n ns ih =>
  intro vs w;rw[List.map_cons] at w;cases w with
  | cons a b =>
   cases a;exact .cons _ _ (ih _ b)
theorem DQ{l:OpenLaw}{n:Nat}(hn:l.most=some n){P:Params}{h:Heap}{args:List WData}{vals:List Value}
  (nC:l.row.toRowW.claim.pre args=true) (su:WellAll P h vals args) :
  ∃a vs ns,vals = [Value.ref a]/\args = [WData.list (ns.map WData.int)]/\h.get? a=some { cls:=.type "list",data:=.seq vs.toArray }/\IntsAre vs ns/\ns.length<=n:=by
 have DR:WShape.hasAll [] args [.list .int] = true:=(pre_splitW nC).1;have hc:l.pre.holds [] { args:=args }=true:=(pre_splitW nC).2;obtain⟨d,r,rfl,h1,h2⟩:=hasAllW_cons DR;obtain rfl:=hasAllW_nil h2;obtain⟨xs,rfl,h3⟩:=hasW_list h1;obtain⟨ns,rfl⟩:=items_int h3;have hlen:ns.length<=n:=by
  unfold OpenLaw.pre at hc;have h4:(WTm.not (.lt (.lit (.int (n:Int))) (.len (.arg 0)))).holds [] { args:=[.list (ns.map .int)] }=true:=by
   have h4:=(holds_andW hc).1;rw[hn] at h4;exact h4
  have h5:=condW_of h4 (w_not (w_lt w_lit (w_len_list (w_arg rfl))));rw[List.length_map] at h5;refine Nat.le_of_not_lt λq=>?_
  have q':(n:Int)<((ns.length:Nat):Int):=by lia
  first
   | (rw[decide_eq_true q'] at h5;exact absurd h5 (by decide))
   | (simp at h5;lia)
 cases su with
 | cons w1 w2 =>
  cases w2;cases w1 with
  | list ho eY=>exact⟨_,_,ns,rfl,rfl,ho,DP ns _ eY,hlen⟩
theorem DS(l:OpenLaw)(args:List WData):l.row.toRowW.claim.post args (.bool true) args=true :=
 postW_of (r:=l.row.toRowW) (X:=(true == true))
  (show WShape.has [] (.bool true) .bool=true by first | rfl | decide | simp[WShape.has,WShape.arms,WShape.armsAll])
  (show (WTm.eq .res (.lit (.bool true))).value [] { args:=args,res:=some (.bool true),after:=args }=some (.bool (true == true)) from w_eq_bool (w_res rfl) w_lit) rfl
theorem DT{l:OpenLaw}{n:Nat}{q:Program}{loose:List Str}{XP:(Str->Option Value)->Heap->Prop}{YP:World->Heap->Prop}{d:DefRec}
  (hn:l.most=some n) (kW:d.params.defaults = [])
  (call:∀(w:World) (aR bf:Shared) (mg mb:Str->Option Value) (fa:Addr) (o:Obj) (pm cd doc:Value) (a:Addr) (vs:List Value) (ns:List Int),
   Ground q loose [] XP w aR mg mb bf.heap->YP w bf.heap->
   bf.heap.get? fa=some o->o.data = .func (docDef d.name d.params d.body d.scope pm cd doc)->bf.heap.CodeRec cd d.name->mg d.name=some (.ref fa)->
   bf.heap.get? a=some { cls:=.type "list",data:=.seq vs.toArray }->IntsAre vs ns->ns.length<=n->bf.gens = #[]->
   codeAny (model l.prog w) callerA (.call (.ref fa) ⟨[.ref a],[]⟩) (λr s'=>r = .ok (.ret (.bool true))/\OldK bf.heap s'.heap/\s'.os=bf.os/\AllBare s'.gens) bf) :
  WalkO q loose XP YP l.row.toRowW d [] (λf vs=>PySem.call f vs):=by
 intro w aR bf mg mb G Y fa o pm cd doc dV kV ho hd cL hD hmg hg args vals as nC LA LB su jq;obtain rfl:dV = .none:=Dflts.none hD kW;obtain rfl:kV = .none:=Dflts.noKw hD;obtain⟨a,vs,ns,rfl,rfl,sC,hints,hlen⟩:=DQ hn nC su;refine enter_call (codeAny_mono (call w aR bf mg mb fa o pm cd doc a vs ns G Y ho (fd_plain hd) cL hmg sC hints hlen hg) λr s' hq=>?_);obtain⟨rfl,h2,h3,h4⟩:=hq;exact⟨.inl ⟨.bool true,.bool true,[],rfl,λ_=>rfl,.bool true,DS l _,λ_=>⟨List.Pairwise.nil,λ_ hm=>(nomatch hm)⟩⟩,h2,h3,h4⟩
section
variable{prog:Program}{w:World}{A:Around}{E:Value->Shared->Prop}{s:Shared}{K:Frag}
noncomputable def ledger(h:Heap)(L d:Addr):List (Addr×Obj):=(List.range h.objs.size).filterMap λa=>if a=L\/a=d then none else(h.get? a).map λo=>(a,o)
end
end x_
namespace _L
open PySem PySem.Spec PyProof.Rows
theorem sD:∀ {vs:List Value} {ns:List Int},IntsAre vs ns->Vals (ns.map V.int) vs
 | _,_,.nil=>.nil
 | _,_,.cons n t h=>.cons ⟨t,rfl⟩ (sD h)
noncomputable def sE(H:Hp):Prop:=∀b,H b=none\/∃o xs,H b=some (.dg o (.lst xs))
theorem DU{P:Program}{w:World}{K:PySem.W.Frag}{mg mb:Str->Option Value}{CX:dj}{k:Nat}{fa a:Addr}{fd:FuncData}{x:Str}{sp:Sp}{bf:Shared}{vs:List Value}{ns:List Int}
  (KX:K.In bf.heap) (nF:bf.heap.Ns mainGlobals mg) (hb:bf.heap.Ns builtinsNs mb) (DV:∀x:Str,x≠"__name__"->mb x=bootBuiltins x) (DW:bf.heap.NoLimit) (hg:bf.gens = #[])
  (ha:bf.heap.get? a=some { cls:=.type "list",data:=.seq vs.toArray }) (hi:IntsAre vs ns) (hl:ns.length<=sizeLine) (hr:bU k callerA)
  (F:∀base:Heap,K.In base->base.Ns mainGlobals mg->bC P w K mg base CX k fa fd [x] sp) (DX:∀(s:Shared) (u:Value),BindsTo s fd ⟨[u],[]⟩ [(x,u)])
  (gA:∀H:Hp,sE H->aB K H a (ns.map V.int)->sp [.ref a] H (λv _=>v = .bl true) λ_ _ _=>False)
  (sG:∀H e s',CX [] H bf (λ_ _ _=>False) e s'->False) :
  codeAny (model P w) callerA (.call (.ref fa) ⟨[.ref a],[]⟩) (λr s'=>r = .ok (.ret (.bool true))/\OldK bf.heap s'.heap/\s'.os=bf.os/\AllBare s'.gens) bf:=by
 have rv:=sD hi;have DY:=hi.length
 -- from an abstract heap in which nothing but the script may be tracked
 have core:∀H:Hp,sE H->aB K H a (ns.map V.int)->bD P w H bf.heap->(∀b,H b≠none->b=a)->(H a≠none->K.lookup a=none)->
   codeAny (model P w) callerA (.call (.ref fa) ⟨[.ref a],[]⟩) (λr s'=>r = .ok (.ret (.bool true))/\OldK bf.heap s'.heap/\s'.os=bf.os/\AllBare s'.gens) bf:=by
  intro H hO hS aD hA hK;have ya:∀ {b:Addr} {o:Obj},bf.heap.get? b=some o->H b=none->(gR bf.heap H).get? b=some o:=λe n=>BO e n;have kN:∀ {b:Addr} {o:Obj} {es:Array DictEntry} {ep:Nat},bf.heap.get? b=some o->o.data = .dict es ep->H b=none:=λ{b o es ep} e d=>by
   cases q:H b with
   | none=>rfl
   | some u =>
    have e':b=a:=hA b (by rw[q];simp)
    subst e';rw[ha] at e;cases e;have d':Data.seq vs.toArray _=Data.dict es ep:=d;cases d'
  have nG:∀ {b:Addr} {m:Str->Option Value},bf.heap.Ns b m->(gR bf.heap H).Ns b m:=λ{b m} ⟨o,es,ep,e,d,r⟩=>⟨o,es,ep,ya e (kN e d),d,r⟩;have yc:K.In (gR bf.heap H):=λb o e=>ya (KX b o e) (by
   cases q:H b with
   | none=>rfl
   | some u =>
    have e':b=a:=hA b (by rw[q];simp)
    subst e';rw[hK (by rw[q];simp)] at e;cases e)
  have hM:Mod K mg (gR bf.heap H):=⟨yc,nG nF,⟨mb,nG hb,DV⟩,let ⟨mc,h1,h2⟩:=DW;⟨mc,nG h1,h2⟩⟩
  have e0:jm P w K mg (gR bf.heap H) callerA [] bf H:=⟨rfl,hM,λb o e=>BP e,Nat.le_of_eq (BN _ _),trivial,λb hb=>absurd (show b∈([]:List Addr) from hb) (by simp),aD,.of_eq hg⟩
  refine codeAny_mono ((F _ yc (nG nF)).run callerA [] bf H ⟨[.ref a],[]⟩ [.ref a] [.ref a] _ _ hr e0 (DX bf (.ref a)) (.cons rfl .nil) (gA H hO hS)) λr s' h=>?_;cases r with
  | error e=>exact(sG H e s' h).elim
  | ok fl =>
   cases fl with
   | next=>exact False.elim h
   | brk=>exact False.elim h
   | cont=>exact False.elim h
   | ret u =>
    obtain⟨v,H',os,bare,un,DZ,r',q⟩:=h;have q':v = .bl true:=q;subst q';obtain rfl:u=Value.bool true:=r';refine⟨rfl,OldK.of_keep λb o e=>?_,os,bare⟩;cases q:H b with
    | none=>exact un.keep b o e q (by intro z;exact absurd (show b∈([]:List Addr) from z) (by simp)) (by simp)
    | some u =>
     rcases hO b with z | ⟨ob,xs,z⟩
     ·rw[q] at z;cases z
     ·have z2:=un.eT b ob _ z;obtain⟨e1,_⟩:=aD b _ z;obtain⟨e2,_⟩:=DZ b _ z2;rw[e] at e1;cases e1;exact e2
 cases hk:K.lookup a with
 | some o =>
  -- the script is one of the module's own objects
  have e:=KX a o hk;rw[ha] at e;cases e;refine core (λ_=>none) (λ_=>.inl rfl) (.inr ⟨_,vs.toArray,_,hk,rfl,rfl,rfl,by rw[List.size_toArray,DY];exact hl,by simpa using rv⟩) (λb u z=>by have z':(none:Option HO)=some u:=z;cases z') (λb z=>absurd rfl z) λz=>absurd rfl z
 | none =>
  refine core (λb=>if b=a then some (.dg { cls:=.type "list",data:=.seq vs.toArray } (.lst (ns.map V.int))) else none) (λb=>?_) (.inl (.inr ⟨{ cls:=.type "list",data:=.seq vs.toArray },if_pos rfl⟩)) (λb u z=>?_) (λb z=>?_) λ_=>hk
  ·by_cases hb:b=a
   ·exact .inr ⟨_,_,if_pos hb⟩
   ·exact .inl (if_neg hb)
  ·by_cases hb:b=a
   ·have z':=(if_pos hb).symm.trans z;cases z';subst hb;exact⟨ha,by rw[List.length_map];exact hl,vs,_,rv,ha⟩
   ·have z':=(if_neg hb).symm.trans z;cases z'
  ·by_cases hb:b=a
   ·exact hb
   ·exact absurd (if_neg hb) z
noncomputable abbrev LC{K:PySem.W.Frag}{h:Heap}(_:K.In h):PySem.W.Frag:=K
theorem D0{l:PySem.W.OpenLaw}{n k:Nat}{q:Program}{loose:List Str}{XP:(Str->Option Value)->Heap->Prop}{YP:World->Heap->Prop}{d:DefRec}{K:Params->PySem.W.Frag}{CX:World->dj}{sp:World->Sp}{x:Str}
  (hn:l.most=some n) (ng:n<=sizeLine) (kW:d.params.defaults = []) (hr:bU k callerA)
  (hY:∀(w:World) (h:Heap),YP w h->(K w.params).In h)
  (F:∀(w:World) (mg:Str->Option Value) (fa:Addr) (h:Heap),(K w.params).In h->h.Ns mainGlobals mg->mg d.name=some (.ref fa)->
   ∃fd:FuncData,(∀(s:Shared) (u:Value),BindsTo s fd ⟨[u],[]⟩ [(x,u)])/\
    ∀base:Heap,(K w.params).In base->base.Ns mainGlobals mg->bC l.prog w (K w.params) mg base (CX w) k fa fd [x] (sp w))
  (gA:∀(w:World) (H:Hp) (a:Addr) (ns:List Int),ns.length<=n->sE H->aB (K w.params) H a (ns.map V.int)->sp w [.ref a] H (λv _=>v = .bl true) λ_ _ _=>False)
  (sG:∀(w:World) (H:Hp) (s:Shared) (e:Value) (s':Shared),CX w [] H s (λ_ _ _=>False) e s'->False) :
  PySem.W.WalkO q loose XP YP l.row.toRowW d [] (λf vs=>PySem.call f vs):=by
 refine x_.DT hn kW λw aR bf mg mb fa o pm cd doc a vs ns G Y ho hd cL hmg sC hints hlen hg=>?_;have KX:=hY w _ Y;obtain⟨fd,hb,hF⟩:=F w mg fa _ KX G.T.g hmg;exact DU KX G.T.g G.T.b G.T.builtins G.T.nolimit hg sC hints (Nat.le_trans hlen ng) hr hF hb (λH hO hS=>gA w H a ns hlen hO hS) λH e s'=>sG w H bf e s'
noncomputable def inClass(s:Stmt)(j:Nat):Stmt:=match s with
 | .ClassDef _ _ _ body _ _ _ _ _ _ _=>body.getD j (.Pass ⟨0,0,0,0⟩)
 | _=>.Pass ⟨0,0,0,0⟩
noncomputable def iH(s:Stmt):Arguments:=match s with
 | .FunctionDef _ a _ _ _ _ _ _ _ _=>a
 | _=>{ posonlyargs:=[],args:=[],vararg:=none,kwonlyargs:=[],kw_defaults:=[],kwarg:=none,defaults:=[] }
noncomputable def gC(s:Stmt):List Stmt:=match s with
 | .FunctionDef _ _ b _ _ _ _ _ _ _=>b
 | _=>[]
noncomputable def bI(s:Stmt):Scope:=match s with
 | .FunctionDef _ _ _ _ _ _ sc _ _ _=>sc
 | _=>{ kind:=.function,names:=[],isGenerator:=false,isCoroutine:=false }
noncomputable abbrev cJ:dj:=λ_ _ _ _ _ _=>False
noncomputable abbrev E0:XK:=λ_ _ _=>False
theorem aZ{X:Cx}:Passes cJ X E0:=λ_ _ _ _ _ _ _ h=>h.elim
structure bq(K:PySem.W.Frag)(x qual:Str)(st:Stmt)(f:Addr)(fd:FuncData):Prop where
 ex:∃(oc:Value) (od:Option Addr) (kV doc pm:Value) (an:Option Addr) (aW ct:Value) (fW:Array (Option Value)),
  fd=PySem.W.fnOf x qual (iH st) (gC st) (bI st) .none kV doc pm an aW ct/\K.lookup f=some ⟨oc,od,.func fd,fW⟩/\PySem.W.codeIn K aW qual=true
 kp:PySem.W.keepIn K (.ref f)=true
section
variable{P:Program}{w:World}{K:PySem.W.Frag}{mg:Str->Option Value}{base:Heap}
theorem bq.ok{x qual:Str}{st:Stmt}{f:Addr}{fd:FuncData}{N ps:List Str}{k:Nat}{sp:Sp}(F:bq K x qual st f fd)(S:cC N ps (bI st))(len:∀vs H Q E,sp vs H Q E->vs.length=ps.length)
  (kO:∀(aW:Value) (A:Around) (outer:List Env) (s:Shared) (H:Hp) (vs:List V) (Q:VK) (E:XK),bU k (A.deeper (envOfC qual (bI st) s.heap.objs.size f aW))->sp vs H Q E->
   ∃t,dN (eB cJ P w K mg base N qual (bI st) f aW A outer s H E).kC (gC st) t/\t { nx:=λ_ H'=>Q .aG H',rt:=Q } (start N vs) H):bC P w K mg base cJ (k+1) f fd ps sp:=by
 obtain⟨oc,od,kV,doc,pm,an,aW,ct,fW,rfl,lk,cL⟩:=F.ex;refine xG lk cL S len λA outer s H vs Q E hr gA=>?_;obtain⟨t,h,q⟩:=kO aW A outer s H vs Q E hr gA;exact⟨t,h.kC,q⟩
theorem bq.binds{x qual:Str}{st:Stmt}{f:Addr}{fd:FuncData}{ps:List Str}(F:bq K x qual st f fd)
  (h:∀(kV doc pm:Value) (an:Option Addr) (aW ct:Value) (us:List Value),us.length=ps.length->bindArgs (PySem.W.fnOf x qual (iH st) (gC st) (bI st) .none kV doc pm an aW ct) ⟨us,[]⟩=pure (ps.zip us)):Binds K fd ps []:=by
 obtain⟨oc,od,kV,doc,pm,an,aW,ct,fW,rfl,lk,cL⟩:=F.ex;exact .all (h kV doc pm an aW ct)
theorem fun_mk{x qual:Str}{st:Stmt}{f:Addr}{oc:Value}{od an:Option Addr}{fW:Array (Option Value)}{kV doc pm aW ct:Value}(l:K.lookup f=some ⟨oc,od,.func (PySem.W.fnOf x qual (iH st) (gC st) (bI st) .none kV doc pm an aW ct),fW⟩)
  (c:PySem.W.codeIn K aW qual=true) (k:PySem.W.keepIn K (.ref f)=true):bq K x qual st f (PySem.W.fnOf x qual (iH st) (gC st) (bI st) .none kV doc pm an aW ct):=⟨⟨oc,od,kV,doc,pm,an,aW,ct,fW,rfl,l,c⟩,k⟩
end
theorem yd{A:Around}{k:Nat}(hr:bU k A):A.units+1<cLine:=Nat.lt_of_le_of_lt (Nat.add_le_add_left (by decide:1<=64) _) hr.units
theorem nH{n:Nat}(h:n<=1000):n<sizeLine:=Nat.lt_of_le_of_lt h (by decide)
section
variable{X:Cx}
theorem pv(i:Nat){x:Str}{pos:Pos}(hN:X.N[i]? = some x:=by rfl)(hv:qV X.env.scope x:=by first | exact Or.inl rfl | exact Or.inr (Or.inl rfl) | exact Or.inr (Or.inr rfl))(hd:(x == ("__debug__" : Str))=false:=by decide)
  (cL:(x == ("__classdict__" : Str))=false:=by decide):PE X (.Name x pos) (wH i):=BZ hN hv hd cL
end
theorem aX{c A B:Prop}[Decidable c](h1:c->A)(h2:¬ c->B):if c then A else B:=by
 by_cases h:c
 ·rw[if_pos h];exact h1 h
 ·rw[if_neg h];exact h2 h
noncomputable def aj(H H':Hp):Prop:=∀b o,H b=some o->H' b=some o
theorem aj.refl(H:Hp):aj H H:=λ_ _ h=>h
theorem aj.trans{H H1 H2:Hp}(a:aj H H1)(b:aj H1 H2):aj H H2:=λc o h=>b c o (a c o h)
theorem aj.free{H H':Hp}(e:aj H H'){l:Addr}(h:H' l=Option.none):H l=Option.none:=by
 cases q:H l with
 | none=>rfl
 | some o =>
  rw[e l o q] at h;cases h
theorem aj.seq{K:PySem.W.Frag}{H H':Hp}{a:Addr}{xs:List V}(e:aj H H')(h:aB K H a xs):aB K H' a xs:=by
 rcases h with(h | ⟨o,h⟩) | h
 ·exact .inl (.inl (e _ _ h))
 ·exact .inl (.inr ⟨o,e _ _ h⟩)
 ·exact .inr h
section
variable{κ:Type}[DecidableEq κ]
end
end _L
set_option maxHeartbeats 4000000
namespace _L
open PySem PySem.Spec PyProof.Rows
section
variable{prog:Program}{w:World}{A:Around}{R:Result->Shared->Prop}{s:Shared}
theorem D3{elt target iter:Expr}{ifs:List Expr}{scope:Scope}{pos:Pos}{it acc:Value}{env:Env}(I:Nat->Shared->Prop)
  (turn:∀n s,I n s->wpAny (model prog w) A (pyNext it) (λr bf=>match r with
   | none=>R (.ok .next) bf
   | some v=>wpAny (model prog w) A (letOwnedTupleGo target it v) (λ_ yf=>wpAny (model prog w) A (assign target env v) (λ_ iD =>
     wpAny (model prog w) A (forIn ifs true λc r=>if r=true then do let ok ← isTrue c env (eval c env);pure (ForInStep.yield ok) else pure (ForInStep.yield r)) (λok g_ =>
      if ok=true then wpAny (model prog w) A (eval elt env) (λx nI =>
       wpAny (model prog w) A (call (.builtin "list.append") [acc,x]) (λ_ yg=>∃m,m<n/\I m yg) (λ_ _=>False) nI) (λ_ _=>False) g_
      else ∃m,m<n/\I m g_) (λ_ _=>False) iD) (λ_ _=>False) yf) (λ_ _=>False) bf) (λ_ _=>False) s)
  (n:Nat) (h:I n s):codeAny (model prog w) A (.compLoop (.ListComp elt [⟨target,iter,ifs,0⟩] scope pos) 0 it acc env) R s:=by
 refine codeAny_loop rfl I (λn s hI=>?_) n h
 show wpAny _ A ((compTurn (.ListComp elt [⟨target,iter,ifs,0⟩] scope pos) 0 it acc env).onRaise (λx=>do noteFrame x env;theTreesLotGoes x)) _ _ s
 refine wpAny_noted ?_;rw[compTurn_list];refine wpAny_bind (wpAny_standAt (wpAny_bind (wpAny_mono (turn n s hI) (λr bf iI=>?_) λ_ _ h'=>h'.elim)));cases r with
 | none=>exact wpAny_pure iI
 | some v =>
  refine wpAny_bind (wpAny_mono iI (λ_ yf D4=>?_) λ_ _ h'=>h'.elim);refine wpAny_bind (wpAny_mono D4 (λ_ iD sI=>wpAny_bind (wpAny_mono sI (λok g_ yh=>?_) λ_ _ h'=>h'.elim)) λ_ _ h'=>h'.elim);cases ok with
  | false=>exact wpAny_pure ⟨rfl,yh⟩
  | true =>
   exact wpAny_bind (wpAny_bind (wpAny_mono yh (λx nI D5=>wpAny_bind (wpAny_mono D5 (λ_ yg D6=>wpAny_pure (wpAny_pure ⟨rfl,D6⟩)) λ_ _ h'=>h'.elim)) λ_ _ h'=>h'.elim))
end
noncomputable def dP(X:Cx)(scope:Scope)(cl:List (Str×Addr))(N:List Str)(C:Addr)(s:Shared)(H:Hp)(fp:List Addr):Cx where
 prog:=X.prog
 w:=X.w
 K:=X.K
 mg:=X.mg
 base:=X.base
 A:=X.A
 N:=N
 aR:=s
 cZ:=H
 env:=compEnvC scope cl C X.env
 outer:=X.stack
 stack:=X.stack
 ex:=fp
 fn:=λ_=>false
 calm:=X.calm
 pn:=[]
 xe:=λ_ _=>False
structure dH(X:Cx)(scope:Scope)(cl:List (Str×Addr))(N:List Str)(nt:Nat)(fv:List Nat):Prop where
 nJ:closureFor scope X.env=pure cl
 kind:scope.kind = .function
 kX:∀y∈scope.names,y.2≠.cell
 names:∀y∈scope.names,y.2 = .local->scope.names.lookup y.1=some .local
 sub:∀p∈cl,X.env.cells.lookup p.1=some p.2
 has:∀y∈scope.names,y.2 = .free->∃c,cl.lookup y.1=some c
 free:fv.map (λj=>X.N[j]?)=(N.drop nt).map some
 fk:∀y∈N.drop nt,scope.names.lookup y=some .free/\X.env.scope.names.lookup y=some .cell
 le:nt<=N.length
 nd:N.Nodup
theorem nK{env:Env}:∀ {names:List (Str×NameKind)} {x:Str} {k:NameKind},
  (names.map λ(n,k)=>if (k == NameKind.free && env.scope.kind == .function && env.kindOf n == some .cell) then(n,NameKind.cell) else(n,k)).lookup x=some k->
  ∃k0,names.lookup x=some k0/\(k=k0\/(k0 = .free/\k = .cell))
 | [],_,_,h=>by simp at h
 | (n,k0)::r,x,k,h=>by
  have ih:=@nK env r x k;have h:List.lookup x ((if (k0 == NameKind.free && env.scope.kind == .function && env.kindOf n == some .cell)=true then(n,NameKind.cell) else(n,k0))::_)=_:=h
  cases hx:x == n with
  | true =>
   by_cases hc:(k0 == NameKind.free && env.scope.kind == .function && env.kindOf n == some .cell)=true
   ·rw[if_pos hc] at h;simp only[List.lookup_cons,hx,Option.some.injEq] at h;simp only[Bool.and_eq_true,beq_iff_eq] at hc;exact⟨k0,by simp[List.lookup_cons,hx],.inr ⟨hc.1.1,h.symm⟩⟩
   ·rw[if_neg hc] at h;simp only[List.lookup_cons,hx,Option.some.injEq] at h;exact⟨k0,by simp[List.lookup_cons,hx],.inl h.symm⟩
  | false =>
   have h':List.lookup x (r.map λ(n,k)=>if (k == NameKind.free && env.scope.kind == .function && env.kindOf n == some .cell) then(n,NameKind.cell) else(n,k))=some k:=by
    by_cases hc:(k0 == NameKind.free && env.scope.kind == .function && env.kindOf n == some .cell)=true
    ·rw[if_pos hc] at h;simpa only[List.lookup_cons,hx] using h
    ·rw[if_neg hc] at h;simpa only[List.lookup_cons,hx] using h
   obtain⟨q,e,z⟩:=ih h';exact⟨q,by simp only[List.lookup_cons,hx];exact e,z⟩
theorem nM{α:Type}{x:Str}{v:α}:∀ {l:List (Str×α)},l.lookup x=some v->(x,v)∈l:=λh=>PySem.mem_of_lookup h
section
variable{X:Cx}{pins:List (Addr×Obj)}{σ:St}{H:Hp}{s:Shared}{scope:Scope}{cl:List (Str×Addr)}{N:List Str}{nt:Nat}{fv:List Nat}{fp:List Addr}
theorem dH.cell(S:dH X scope cl N nt fv){x:Str}{c:Addr}(e:cl.lookup x=some c):X.env.cells.lookup x=some c:=S.sub (x,c) (nM e)
theorem dH.D7(S:dH X scope cl N nt fv){C:Addr}{x:Str}(h:(compEnvC scope cl C X.env).kindOf x=some .cell\/(compEnvC scope cl C X.env).kindOf x=some .free):scope.names.lookup x=some .free:=by
 have h:(scope.names.map λ(n,k)=>if (k == NameKind.free && X.env.scope.kind == .function && X.env.kindOf n == some .cell) then(n,NameKind.cell) else(n,k)).lookup x=some .cell\/
  (scope.names.map λ(n,k)=>if (k == NameKind.free && X.env.scope.kind == .function && X.env.kindOf n == some .cell) then(n,NameKind.cell) else(n,k)).lookup x=some .free:=h
 rcases h with h | h
 ·obtain⟨k0,e,z | ⟨z,_⟩⟩:=nK h
  ·exact absurd z.symm (S.kX _ (nM e))
  ·rw[z] at e;exact e
 ·obtain⟨k0,e,z | ⟨z,_⟩⟩:=nK h
  ·rw[← z] at e;exact e
  ·rw[z] at e;exact e
theorem dH.ok(S:dH X scope cl N nt fv)(I:Inv X pins σ H s)(hf:∀b∈fp,gn X pins H b)(aY:∀b∈fp,b<s.heap.objs.size){C:Addr}(hC:s.heap.objs.size<=C) :
  (dP X scope cl N C s H fp).Ok where
 mod:=I.ok.mod
 kind:=S.kind
 glob:=I.ok.glob
 blt:=I.ok.blt
 above:=hC
 inj:=λx y c h1 h2=>I.ok.inj x y c (S.cell h1) (S.cell h2)
 has:=λx h=>by
  have e:=S.D7 h;exact S.has _ (nM e) rfl
 iX:=λx c h _=>by cases (show false=true from h)
 hd:=I.ok.hd
 frames:=I.ok.frames
 jM:=.inl rfl
 jN:=λb hb=>⟨λz=>absurd (Nat.lt_of_lt_of_le (aY b hb) (by rw[z];exact hC)) (Nat.lt_irrefl _),λx c h=>(hf b hb).2.2.2.2.1 x c (S.cell h)⟩
 bs:=I.bs
 fE:=Nat.le_trans I.ok.fE I.sz
 iY:=λb o e hb=>by
  rcases(hf b hb).2.2.2.1 with z | z
  ·exact I.ok.iY b o e z
  ·exact absurd (Nat.lt_of_lt_of_le (Heap.lt_size e) (Nat.le_trans I.ok.fE z)) (Nat.lt_irrefl _)
 iZ:=λb hb hm=>by
  rcases List.mem_cons.mp (I.qX b hm) with z | z
  ·exact(hf b hb).2.1 z
  ·exact(hf b hb).2.2.1 z
 dz:=I.stack
 fU:=I.qY
noncomputable def gD(σ:St)(nt:Nat)(fv:List Nat):St:=List.replicate nt none++fv.map λj=>(σ[j]?).getD none
theorem dH.inv(S:dH X scope cl N nt fv)(I:Inv X pins σ H s)(hf:∀b∈fp,gn X pins H b)(aY:∀b∈fp,b<s.heap.objs.size){h1:Heap}{tk:Nat}{D C:Addr}
  (hD:s.heap.objs.size<=D) (hC:s.heap.objs.size<=C) (nN:D≠C) (old:∀b o,s.heap.get? b=some o->h1.get? b=some o) (sJ:h1.get? D=some { cls:=.type "list",data:=.seq #[] }) (nF:h1.Ns C λ_=>none) :
  Inv (dP X scope cl N C s H fp) [] (gD σ nt fv) (upd H D (.lst [])) { s with heap:=h1,toks:=tk }:=by
 have I1:Inv X pins σ (upd H D (.lst [])) { s with heap:=h1,toks:=tk }:=I.laid old hD ⟨Nat.zero_le _,[],0,.nil,sJ⟩;have hlen:fv.length=(N.drop nt).length:=by simpa using congrArg List.length S.free
 refine⟨S.ok I hf aY hC,rfl,I.bare,Un.laid old hD (I.aD.fresh hD),⟨_,nF,λi x v e1 e2 e3=>?_⟩,λx c e=>?_,?_,λx c e=>?_,λp hp=>absurd (show p∈([]:List (Addr×Obj)) from hp) (by simp),I1.aD,?_⟩
 ·unfold gD at e2;have hi:nt<=i:=by
   by_cases h:nt<=i
   ·exact h
   ·rw[List.getElem?_append_left (by simp;lia),List.getElem?_replicate] at e2
    split at e2 <;> cases e2
  rw[List.getElem?_append_right (by simpa using hi)] at e2
  simp only[List.length_replicate,List.getElem?_map] at e2;cases hj:fv[i - nt]? with
  | none=>rw[hj] at e2;simp at e2
  | some j =>
   rw[hj] at e2;simp only[Option.map_some,Option.some.injEq] at e2;have hN:X.N[j]? = some x:=by
    have q:=congrArg (λl=>l[i - nt]?) S.free;simp only[List.getElem?_map,hj,Option.map_some,List.getElem?_drop] at q;rw[show nt+(i - nt)=i by lia] at q
    have yi:N[i]? = some x:=e1;rw[yi] at q;exact(Option.some.inj q)
   have D8:σ[j]? = some (some v):=by
    cases z:σ[j]? with
    | none=>rw[z] at e2;simp at e2
    | some y=>rw[z] at e2;simp at e2;rw[e2]
   have D9:x∈N.drop nt:=by
    refine List.mem_of_getElem? (i:=i - nt) ?_;rw[List.getElem?_drop,show nt+(i - nt)=i by lia];exact e1
   obtain⟨f1,f2⟩:=S.fk x D9;obtain⟨m,hn,hl⟩:=I1.loc;obtain⟨u,ru,lk⟩:=hl j x v hN D8 (.inr (.inl f2));refine⟨u,ru,?_⟩;rcases lk with⟨k,_⟩ | ⟨_,c,ec,hc⟩
   ·have k:X.env.scope.names.lookup x=some .local:=k;rw[f2] at k;cases k
   ·obtain⟨c',e'⟩:=S.has _ (nM f1) rfl;have:=S.cell e';rw[ec] at this;cases this;refine .inr ⟨?_,c,e',hc⟩;rcases e3 with z | z | z
    ·obtain⟨k0,ek,q | ⟨_,q⟩⟩:=nK (show (scope.names.map λ(n,k)=>if (k == NameKind.free && X.env.scope.kind == .function && X.env.kindOf n == some .cell) then(n,NameKind.cell) else(n,k)).lookup x=some .local from z)
     ·rw[f1] at ek;cases ek;cases q
     ·cases q
    ·exact .inl z
    ·exact .inr z
 ·obtain⟨v,z⟩:=I1.cell x c (S.cell e);exact⟨v,z⟩
 ·show upd H D (.lst []) C=none;rw[aL (Ne.symm nN)];exact I.aD.fresh hC
 ·exact I1.d8 x c (S.cell e)
 ·unfold gD
  show _=N.length;have:=S.le;simp only[List.length_append,List.length_replicate,List.length_map,List.length_drop] at hlen ⊢;lia
end
noncomputable def nO(X:Cx)(ifs:List Expr)(t:TT):Prop :=
 ∀(pins:List (Addr×Obj)) (s:Shared) (σ:St) (H:Hp) (Q:Bool->Hp->Prop),Inv X pins σ H s->t σ H Q->
  wpAny (model X.prog X.w) X.A (forIn ifs true λc r=>if r=true then do let ok ← isTrue c X.env (eval c X.env);pure (ForInStep.yield ok) else pure (ForInStep.yield r)) (TP X pins σ Q) X.xe s
noncomputable def D_:TT:=λ_ H Q=>Q true H
theorem nP{X:Cx}:nO X [] D_:=λpins s σ H Q I h=>wpAny_tests_nil ⟨H,I,h⟩
noncomputable def iJ(wi:TI)(g:TG)(tt:TT)(te:TE)(nt:Nat)(fv:List Nat):TE:=λσ H Q=>wi σ H λJ H1=>∀D,H1 D=none->∃W:Nat->Nat->List V->St->Hp->Prop,
 (∃m,W 0 m [] (gD σ nt fv) (upd H1 D (.lst [])))/\∀i m ys aC H2,W i m ys aC H2->H2 D=some (.lst ys)/\ys.length<sizeLine/\
  ((J.stop i H2/\Q (.ref D) H2)\/(J.go i H2/\∀x H3,J.jd i H2 x H3->g x aC H3 λbJ H4=>tt bJ H4 λb H5=>if b=true then te bJ H5 λv H6=>H6 D=some (.lst ys)/\∃m',m' < m/\W (i+1) m' (ys++[v]) bJ (upd H6 D (.lst (ys++[v])))
   else ∃m',m' < m/\W (i+1) m' ys bJ H5))
section
variable{X:Cx}{tg iter elt:Expr}{ifs:List Expr}{scope:Scope}{cl:List (Str×Addr)}{N:List Str}{nt:Nat}{fv:List Nat}{pos:Pos}{wi:TI}{g:TG}{tt:TT}{te:TE}
theorem Ea{pins:List (Addr×Obj)}{σ:St}{s2:Shared}{H2:Hp}{it:Addr}{fp:List Addr}{tn:Nat->Heap->Prop}{J:It}{Q:VK}{RR:Value->Addr->Result->Shared->Prop}{E:Value->Shared->Prop}
  (S:dH X scope cl N nt fv) (hc:X.calm=true)
  (hg:∀C s H fp,PG (dP X scope cl N C s H fp) tg g) (ht:∀C s H fp,nO (dP X scope cl N C s H fp) ifs tt) (he:∀C s H fp,PE (dP X scope cl N C s H fp) elt te)
  (I2:Inv X pins σ H2 s2) (T:Turn X.prog X.w X.K tg J fp it tn) (aK:tn 0 s2.heap) (f2:∀b∈fp,gn X pins H2 b)
  (hq:∀D,H2 D=none->∃W:Nat->Nat->List V->St->Hp->Prop,
   (∃m,W 0 m [] (gD σ nt fv) (upd H2 D (.lst [])))/\∀i m ys aC H2,W i m ys aC H2->H2 D=some (.lst ys)/\ys.length<sizeLine/\
    ((J.stop i H2/\Q (.ref D) H2)\/(J.go i H2/\∀x H3,J.jd i H2 x H3->g x aC H3 λbJ H4=>tt bJ H4 λb H5=>if b=true then te bJ H5 λv H6=>H6 D=some (.lst ys)/\∃m',m' < m/\W (i+1) m' (ys++[v]) bJ (upd H6 D (.lst (ys++[v])))
     else ∃m',m' < m/\W (i+1) m' ys bJ H5)))
  (Eb:∀(D C:Addr) (s':Shared) (H':Hp) (m':Str->Option Value),Inv X pins σ H' s'->s'.heap.Ns C m'->s2.heap.objs.size<=C->H' C=none->Q (.ref D) H'->RR (.ref D) C (.ok .next) s') :
  wpAny (model X.prog X.w) X.A (newList []) (λacc g_=>wpAny (model X.prog X.w) X.A (newFunctionEnv scope X.env.globals cl [] X.env.qual none .none (some X.env)) (λyj nI =>
   codeAny (model X.prog X.w) X.A (.compStart (.ListComp elt [⟨tg,iter,ifs,0⟩] scope pos) 0 (.ref it) acc { yj with scope:=relabel scope X.env }) (RR acc yj.locals) nI) E g_) E s2:=by
 refine wpAny_newObj_type (wpAny_newFunctionEnv S.kX (by intro y hy;simp at hy) (λiI sL nQ=>?_) S.kind)
 dsimp only at sL nQ ⊢;generalize sM:s2.heap.push { cls:=.type "list",dict:=none,data:=.seq ([]:List Value).toArray }=HH at sL nQ ⊢;have hC:HH.objs.size=s2.heap.objs.size+1:=by rw[← sM,Heap.size_push]
 have nN:s2.heap.objs.size≠HH.objs.size:=by rw[hC];exact Nat.ne_of_lt (Nat.lt_succ_self _)
 have sN:s2.heap.objs.size<=HH.objs.size:=by rw[hC];exact Nat.le_succ _
 have old:∀b o,s2.heap.get? b=some o->iI.get? b=some o:=λb o e=>by
  have hb:b<s2.heap.objs.size:=Heap.lt_size e;exact nQ.extBut b o (by rw[hC];exact Nat.ne_of_lt (Nat.lt_succ_of_lt hb)) (Heap.get?_push_of_some _ (sM▸Heap.get?_push_of_some _ e))
 have sJ:iI.get? s2.heap.objs.size=some { cls:=.type "list",data:=.seq #[] }:=nQ.extBut _ _ nN (Heap.get?_push_of_some _ (sM▸Heap.get?_push_size _ rfl));have aY:∀b∈fp,b<s2.heap.objs.size:=λb hb=>by
  obtain⟨o,e,_⟩:=T.obj 0 _ aK b hb;exact Heap.lt_size e
 have hD:H2 s2.heap.objs.size=none:=I2.aD.fresh (Nat.le_refl _);obtain⟨W,⟨m0,w0⟩,turn⟩:=hq _ hD;have bT:tn 0 iI:=T.keep _ _ _ aK λb _ o e=>old b o e;have I3:=S.inv I2 f2 aY (h1:=iI) (tk:=s2.toks+([]:List (Str×Value)).length) (D:=s2.heap.objs.size) (C:=HH.objs.size) (Nat.le_refl _) sN nN old sJ (by simpa using sL)
 -- what stays true of the iterator's objects
 have nD:∀b∈fp,b≠s2.heap.objs.size:=λb hb=>Nat.ne_of_lt (aY b hb);have jh:∀ {H':Hp},(∀b∈fp,H' b=none)->∀b∈fp,gn (dP X scope cl N HH.objs.size s2 H2 fp) [] H' b:=λ{H'} hn b hb=>by
  have ok:=S.ok I2 f2 aY sN;refine⟨hn b hb,(ok.jN b hb).1,ok.iZ b hb,.inl hb,(ok.jN b hb).2,λp hp=>absurd (show p∈([]:List (Addr×Obj)) from hp) (by simp)⟩
 have loop:∀g_:Shared,g_ = { s2 with heap:=iI,toks:=s2.toks+([]:List (Str×Value)).length }->
   codeAny (model X.prog X.w) X.A (.compLoop (.ListComp elt [⟨tg,iter,ifs,0⟩] scope pos) 0 (.ref it) (.ref s2.heap.objs.size) (compEnvC scope cl HH.objs.size X.env)) (RR (.ref s2.heap.objs.size) HH.objs.size) g_:=by
  rintro g_ rfl;refine D3 (λn s'=>∃i ys aN H',Inv (dP X scope cl N HH.objs.size s2 H2 fp) [] aN H' s'/\tn i s'.heap/\(∀b∈fp,H' b=none)/\W i n ys aN H') ?_ m0
   ⟨0,[],_,_,I3,bT,λb hb=>by rw[aL (nD b hb)];exact(f2 b hb).1,w0⟩
  rintro n s3 ⟨i,ys,gu,H3,J3,t3,ji,w3⟩;obtain⟨eD,Ec,Ed⟩:=turn i n ys gu H3 w3;rcases Ed with⟨stop,qn⟩ | ⟨go,step⟩
  ·refine aJ (T.done (dP X scope cl N HH.objs.size s2 H2 fp) rfl rfl rfl hc i [] s3 gu H3 (λ_ _=>False) J3 (jh ji) t3 stop) λr s4 ⟨hr,I4⟩=>?_;subst hr;have I5:Inv X pins σ H3 s4:=I2.rz (ch:=fp) I4.os I4.base I4.aD I4.bare λb hb=>⟨(f2 b hb).2.2.2.1,(f2 b hb).2.1,(f2 b hb).2.2.2.2.1,(f2 b hb).2.2.2.2.2⟩;obtain⟨m,hn,_⟩:=I4.loc;exact Eb _ _ s4 H3 m I5 hn sN I4.free qn
  ·refine aJ (T.item (dP X scope cl N HH.objs.size s2 H2 fp) rfl rfl rfl hc i [] s3 gu H3 (λ_ _=>False) J3 (jh ji) t3 go) λr s4 ⟨u,hr,h4⟩=>?_;subst hr;refine aJ h4 λ_ s5 ⟨x,H5,I5,r5,y5,jj,rF⟩=>?_;have rG:=I5.pinned (jh rF) (T.obj _ _ jj);refine aJ (hg _ _ _ _ _ s5 gu H5 x u _ rG r5 (step x H5 y5)) λ_ s6 ⟨iE,H6,I6,q6⟩=>?_;have yl:∀ {eg:St} {H7:Hp} {s7:Shared},Inv (dP X scope cl N HH.objs.size s2 H2 fp) ([]++kJ fp s5.heap) eg H7 s7->tn (i+1) s7.heap/\∀b∈fp,H7 b=none:=λ{eg H7 s7} I7=>by
    refine⟨T.keep _ _ _ jj λb hb o e=>(I7.pin (b,o) (List.mem_append_right _ (List.mem_append_right _ (mV hb e)))).1,λb hb=>?_⟩;obtain⟨o,e,d⟩:=T.obj _ _ jj b hb;exact(I7.pin (b,o) (List.mem_append_right _ (List.mem_append_right _ (mV hb e)))).2.1
   refine aJ (ht _ _ _ _ _ s6 iE H6 _ I6 q6) λb s7 ⟨H7,I7,q7⟩=>?_;cases b with
   | false =>
    obtain⟨m',hm,w7⟩:=q7;obtain⟨t7,n7⟩:=yl I7;exact⟨m',hm,i+1,ys,iE,H7,I7.kK,t7,n7,w7⟩
   | true =>
    refine aJ (he _ _ _ _ _ s7 iE H7 _ I7 q7) λu8 s8 ⟨v8,H8,I8,r8,Ef,m',hm,w8⟩=>?_;refine aJ (nv (X:=dP X scope cl N HH.objs.size s2 H2 fp) _ s8 iE H8 (.ref s2.heap.objs.size) [v8] (.ref s2.heap.objs.size) [u8] (λ_ H9=>∃m',m' < n/\W (i+1) m' (ys++[v8]) iE H9) I8 rfl (.cons r8 .nil)
     ⟨s2.heap.objs.size,ys,v8,rfl,rfl,Ef,Ec,m',hm,w8⟩) λ_ s9 ⟨_,H9,I9,_,m9,Eg,w9⟩=>?_
    obtain⟨t9,n9⟩:=yl I9;exact⟨m9,Eg,i+1,ys++[v8],iE,H9,I9.kK,t9,n9,w9⟩
 exact codeAny_compStart_list (loop _ rfl) (T.self _ 0 _ _ _ bT (loop _ rfl))
theorem nR(S:dH X scope cl N nt fv)(hc:X.calm=true)(hi:PI X tg iter wi)
  (hg:∀C s H fp,PG (dP X scope cl N C s H fp) tg g) (ht:∀C s H fp,nO (dP X scope cl N C s H fp) ifs tt) (he:∀C s H fp,PE (dP X scope cl N C s H fp) elt te)
  (hs:∀x,foldedSetIterable iter X.env x=pure x:=by intro _;rfl):PE X (.ListComp elt [⟨tg,iter,ifs,0⟩] scope pos) (iJ wi g tt te nt fv):=by
 intro pins s σ H Q I h;rw[eval_ListComp];refine wpAny_comprehension_free (use:=none) rfl hs S.nJ S.kind S.names (aJ (hi pins s σ H _ I h) λxv s1 h1=>aJ h1 λrD s2 h2=>?_);obtain⟨it,fp,tn,J,H2,rfl,I2,T,aK,f2,hq⟩:=h2;refine Ea (RR:=λacc C=>compPost (model X.prog X.w) X.A X.xe none (EP X pins σ Q) acc C) S hc hg ht he I2 T aK f2 hq λD C s' H' m' I' hn hC fC q=>?_;refine⟨m',hn,λh' aT=>⟨.ref D,H',?_,rfl,q⟩⟩;have nT:=I2.kF hC fC;exact I'.turned (t':=s'.toks) (it:=C) (λb o hb e=>aT.extBut b o hb e) fC nT.2.1 nT.2.2.2.1 nT.2.2.2.2.1 nT.2.2.2.2.2
end
noncomputable def kY(K:PySem.W.Frag)(a:Addr):It :=
 ⟨λi H=>∃xs x,aB K H a xs/\xs[i]? = some x,λi H v H'=>∃T x,H T=none/\v = .ref T/\(∀xs,aB K H a xs->xs[i]? = some x)/\H' = upd H T (.tup [.int i,x]),λi H=>∃xs,aB K H a xs/\xs.length<=i⟩
theorem Eh{P:Program}{w:World}{K:PySem.W.Frag}{elts:List Expr}{x1}{tp:Pos}(a e it:Addr)(sO:e≠it) :
  Turn P w K (.Tuple elts x1 tp) (kY K a) [e,it] e (λi h=>(∃old,IsEnum h e it (i:Nat) old)/\h.IsListIter it a i) where
 mem:=by simp
 obj:=λi h st b hb=>by
  obtain⟨⟨old,he⟩,o,e1,c,d⟩:=st;rcases List.mem_cons.mp hb with z | hb
  ·rw[z];exact⟨_,he,λv z=>by
    have z':Data.fields _=Data.cell v:=z;cases z'⟩
  ·have e2:b=it:=by simpa using hb
   rw[e2];exact⟨o,e1,λv z=>by rw[d] at z;cases z⟩
 keep:=λi h h' st k=>by
  obtain⟨⟨old,he⟩,hi⟩:=st;exact⟨⟨old,k e (by simp) _ he⟩,hi.at λo q=>k it (by simp) o q⟩
 item:=by
  intro X hP hw hK hc i pins s σ H E I hf st hg;subst hP hw hK;obtain⟨xs,x,hq,hx⟩:=hg;obtain⟨aq,rv,p,hz⟩:=I.list hq;obtain⟨u,hu,ru⟩:=rv.get hx;obtain⟨⟨old,he⟩,hit⟩:=st;obtain⟨f0,f1,f2,f3,f4,f5⟩:=hf e (by simp)
  obtain⟨g0,g1,g2,g3,g4,g5⟩:=hf it (by simp)
  have ym:e<s.heap.objs.size:=Heap.lt_size he;have Ei:it<s.heap.objs.size:=by obtain⟨_,z,_⟩:=hit;exact Heap.lt_size z
  refine wpAny_pyNext_enum_item he hit p.isList (x:=u) (by simpa using hu) sO λh' ho yp hT hsz hk=>?_
  refine⟨_,rfl,?_⟩;refine wpAny_letOwnedTupleGo_enum ho λjY yq aT=>?_
  replace aT:Heap.SameBut e h' jY:=aT
  -- two records have turned,a tuple is new
  have I1:Inv X pins σ H { s with heap:=(s.heap),toks:=s.toks+1 }:=I.tok _;have kk:∀b o,b∉[e,it]->s.heap.get? b=some o->jY.get? b=some o:=λb o hb q=>by
   have h1:b≠e:=λz=>hb (by simp[z])
   have h2:b≠it:=λz=>hb (by simp[z])
   exact aT.extBut b o h1 (hk b o h1 h2 q)
  have kr:∀b v,H b=some v->b∉[e,it]:=λb v q hb=>by
   rcases List.mem_cons.mp hb with z | hb
   ·rw[z,f0] at q;cases q
   ·have e2:b=it:=by simpa using hb
    rw[e2,g0] at q;cases q
  have yr:H s.heap.objs.size=none:=I.aD.fresh (Nat.le_refl _);have kZ:∀b v,H b=some v->b≠s.heap.objs.size:=λb v q z=>by rw[z,yr] at q;cases q
  have Ej:jY.get? s.heap.objs.size=some { cls:=.type "tuple",data:=.seq #[.int (i:Nat) s.toks,u] }:=aT.extBut _ _ (Nat.ne_of_gt ym) hT;have LD:∃o,jY.get? e=some o:=⟨_,yq⟩;have LF:∃o,jY.get? it=some o:=by
   obtain⟨o,q,_⟩:=yp;exact⟨o,aT.extBut _ _ (Ne.symm sO) q⟩
  have I2:Inv X pins σ (upd H s.heap.objs.size (.tup [.int i,x])) { s with heap:=jY,toks:=s.toks+1 }:=by
   refine I.step (g':=s.gens) (d':=s.drawn) (ch:=[e,it]) (λb hb=>?_) (λb o _ _ hc q _=>kk b o hc q) (λb o _ _ hc q _=>⟨o.slots,kk b o hc q⟩) (λb o _ q n=>?_) (λb o hc q=>⟨o,kk b o hc q⟩)
    (λb ys q=>by rw[aL (kZ b _ q)];exact q) (λb o v q=>by rw[aL (kZ b _ q)];exact q) (λb ps q=>⟨#[],by rw[aL (kZ b _ q),q];simp⟩) (λm hm=>?_) (λb v q=>?_) I.bare
   ·rcases List.mem_cons.mp hb with z | hb
    ·rw[z];exact⟨f3,f1,f4,f5⟩
    ·have e2:b=it:=by simpa using hb
     rw[e2];exact⟨g3,g1,g4,g5⟩
   ·rw[aL (Nat.ne_of_lt (Heap.lt_size q))];exact n
   ·obtain⟨o,es,ep,q,r⟩:=hm;exact⟨o,es,ep,kk _ o (by
     intro hb;rcases List.mem_cons.mp hb with z | hb
     ·exact f1 z.symm
     ·exact g1 (by simpa using hb:X.env.locals=it).symm) q,r⟩
   ·by_cases hb:b=s.heap.objs.size
    ·subst hb;rw[aE] at q;cases q;refine⟨by show 2<=sizeLine;decide,[.int (i:Nat) s.toks,u],.cons ⟨_,rfl⟩ (.cons ru .nil),_,Ej,rfl,_,rfl⟩
    ·rw[aL hb] at q;refine(I.aD b v q).fT (λc o mQ z=>kk c o ?_ z) (λc z=>by rw[aL (kZ c _ z)];exact z) (λc ys z=>by rw[aL (kZ c _ z)];exact z)
     rcases mQ with z2 | z2
     ·rw[z2];exact kr b v q
     ·exact kr c _ z2
  refine⟨.ref s.heap.objs.size,_,I2,rfl,⟨_,x,yr,rfl,λys hy=>by rw[I.wN hy hq];exact hx,rfl⟩,⟨⟨u,?_⟩,?_⟩,λb hb=>?_⟩
  ·have z:((i+1:Nat):Int)=(i:Int)+1:=by lia
   rw[z];exact yq
  ·exact yp.at λo q=>aT.extBut _ _ (Ne.symm sO) q
  ·have aY:b<s.heap.objs.size:=by
    rcases List.mem_cons.mp hb with z | hb
    ·rw[z];exact ym
    ·rw[show b=it by simpa using hb];exact Ei
   rw[aL (Nat.ne_of_lt aY)];exact(hf b hb).1
 done:=by
  intro X hP hw hK hc i pins s σ H E I hf st hg;subst hP hw hK;obtain⟨xs,hq,hx⟩:=hg;obtain⟨aq,rv,p,hz⟩:=I.list hq;obtain⟨⟨old,he⟩,hit⟩:=st;obtain⟨g0,g1,g2,g3,g4,g5⟩:=hf it (by simp)
  have hl:=rv.length;exact wpAny_pyNext_enum_end (I.ok.hd hc) he hit p.isList (by simp;lia) λh' eb=>⟨rfl,I.turned (t':=s.toks) (λb o hb e=>eb b o hb e) g0 g1 g3 g4 g5⟩
 self:=λ_ _ _ _ _ st h=>by
  obtain⟨⟨old,he⟩,_⟩:=st;exact wpAny_pyIter_enum he h
section
variable{X:Cx}
noncomputable def sP(K:PySem.W.Frag)(ta:TA):TI:=λσ H R=>ta σ H λvs H1=>∃a,vs = [.ref a]/\(∃xs,aB K H1 a xs)/\R (kY K a) H1
theorem yt{l:Expr}{ta:TA}{p pos tp:Pos}{elts:List Expr}{x1}(hg:Gl X "enumerate")(hm:X.mg "enumerate" = none)(hl:PA X [l] ta)(hs:starEach [l] X.env = [(false,eval l X.env)]:=by rfl) :
  PI X (.Tuple elts x1 tp) (.Call (.Name "enumerate" p) [l] [] pos) (sP X.K ta):=by
 intro pins s σ H R I h;refine Call_ (jQ I hg hm boot_enumerate (PyProof.Rows.callWith_type1 (aJ (hl pos pins s σ H _ I h) λus s1 ⟨vs,H1,I1,r1,q1⟩=>?_) hs rfl));obtain⟨a,e,⟨xs,hq⟩,q⟩:=q1;subst e;obtain⟨u,rfl,ru⟩:=vals1 r1;cases ru;obtain⟨aq,rv,p,hz⟩:=I1.list hq;refine call_enumerate_list p.isList λh' he hit hsz hk=>?_;have I2:Inv X pins σ H1 { s1 with heap:=h' }:=I1.kept (t':=s1.toks) hk;refine wpAny_pyIter_enum he ?_;have n1:H1 (s1.heap.objs.size+1)=none:=I1.aD.fresh (Nat.le_succ _);have n0:H1 s1.heap.objs.size=none:=I1.aD.fresh (Nat.le_refl _);refine⟨s1.heap.objs.size+1,[s1.heap.objs.size+1,s1.heap.objs.size],_,_,H1,rfl,I2,Eh a _ _ (Nat.succ_ne_self _),⟨⟨_,he⟩,hit⟩,λb hb=>?_,q⟩;rcases List.mem_cons.mp hb with z | hb
 ·rw[z];exact I1.kF (Nat.le_succ _) n1
 ·rw[show b=s1.heap.objs.size by simpa using hb];exact I1.kF (Nat.le_refl _) n0
theorem Ek{K:PySem.W.Frag}{a:Addr}{xs:List V}{g:TG}{tb:TS}{D:Ends}{σ:St}{H:Hp}(Pv:Nat->St->Hp->Prop)(h0:Pv 0 σ H)(hl:∀i σ H,i<=xs.length->Pv i σ H->aB K H a xs)
  (hs:∀i x σ H T,xs[i]? = some x->Pv i σ H->H T=none->g (.ref T) σ (upd H T (.tup [.int i,x])) λaC H2=>tb { D with nx:=Pv (i+1),ct:=Pv (i+1),bk:=D.nx } aC H2) (hd:∀σ H,Pv xs.length σ H->D.nx σ H) :
  ∃W:Nat->Nat->St->Hp->Prop,(∃m,W 0 m σ H)/\∀i m σ H,W i m σ H->
   ((kY K a).stop i H/\D.nx σ H)\/((kY K a).go i H/\∃N:St->Hp->Prop,(∀aN H',N aN H'->∃m',m' < m/\W (i+1) m' aN H')/\∀x H',(kY K a).jd i H x H'->g x σ H' λaC H2=>tb { D with nx:=N,ct:=N,bk:=D.nx } aC H2):=by
 refine⟨λi m σ H=>m=xs.length - i/\i<=xs.length/\Pv i σ H,⟨xs.length,by simp,Nat.zero_le _,h0⟩,?_⟩
 rintro i m σ H ⟨rfl,hi,p⟩;have q:=hl i σ H hi p;by_cases aY:i<xs.length
 ·refine .inr ⟨⟨xs,xs[i],q,by simp[aY]⟩,Pv (i+1),λaN H' p'=>⟨xs.length - (i+1),by lia,rfl,aY,p'⟩,λx H' y=>?_⟩
  obtain⟨T,z,hT,e,y,e2⟩:=y;subst e e2;exact hs i z σ H T (y xs q) p hT
 ·have e:i=xs.length:=by lia
  subst e;exact .inl ⟨⟨xs,q,Nat.le_refl _⟩,hd σ H p⟩
theorem El(hc:X.calm=true):fH X (.builtin "sum") (λxs H Q=>∃(p:Addr) (ns:List Int),xs = [.ref p]/\aB X.K H p (ns.map V.int)/\Q (.int ns.sum) H):=by
 intro pins s σ H xs us Q I r h;obtain⟨p,ns,rfl,hq,q⟩:=h;obtain⟨u,rfl,ru⟩:=vals1 r;cases ru;obtain⟨aq,rv,pl,hz⟩:=I.list hq;have hi:IntsAre aq ns:=intsAre_of rv;obtain⟨xs,hx⟩:=hi.allInts.items;have eE:s.heap.IsList p (intItems xs):=hx▸pl.isList;refine sum_intListG (I.ok.hd hc) eE λh' tk t' hk=>?_;have e1:ns=xs.toList.map (·.1):=by
  rw[← nums_intItems,← hx];exact(show numsOf aq.toArray.toList=ns from hi.numsOf).symm
 have e2:preSum (numAt xs) xs.size=ns.sum:=by
  rw[preSum_eq,List.take_of_length_le (by simp),e1]
 rw[e2];exact⟨.int ns.sum,H,I.kept hk,⟨t',rfl⟩,q⟩
theorem dh.Em{pins:List (Addr×Obj)}{σ:St}{H:Hp}{s:Shared}{x:V}{u t:Value}(I:Inv X pins σ H s)(rx:RelV x u)(ty:dh X.K H x t):∃Hh:Heap->Prop,PySem.W.KitX X.K u t Hh/\Hh s.heap/\u≠.builtin "__main__.__loader__#opaque" := by
 cases ty with
 | aG=>cases (show u=Value.none from rx);exact⟨_,PySem.W.kitx_none,True.intro,λz=>nomatch z⟩
 | bl y=>cases (show u=Value.bool y from rx);exact⟨_,PySem.W.kitx_bool,True.intro,λz=>nomatch z⟩
 | int i=>obtain⟨t,q⟩:=(show ∃t,u=Value.int i t from rx);cases q;exact⟨_,PySem.W.kitx_int,True.intro,λz=>nomatch z⟩
 | str y=>obtain⟨t,q⟩:=(show ∃t,u=Value.str y t from rx);cases q;exact⟨_,PySem.W.kitx_str,True.intro,λz=>nomatch z⟩
 | fS y=>obtain⟨t,q⟩:=(show ∃t,u=Value.float y t from rx);cases q;exact⟨_,PySem.W.kitx_float,True.intro,λz=>nomatch z⟩
 | @lst a xs ea =>
  cases (show u=Value.ref a from rx);obtain⟨_,_,n,_,h1⟩:=(show bK X.prog X.w H s.heap a (.lst xs) from I.aD a _ ea);exact⟨_,PySem.W.kitx_list,⟨_,h1,rfl⟩,λz=>nomatch z⟩
 | @dg a ob xs ea =>
  cases (show u=Value.ref a from rx);obtain⟨_,_,_,n,_,h1⟩:=(show bK X.prog X.w H s.heap a (.dg ob (.lst xs)) from I.aD a _ ea);exact⟨_,PySem.W.kitx_list,⟨_,h1,rfl⟩,λz=>nomatch z⟩
 | @tup a xs ea =>
  cases (show u=Value.ref a from rx);obtain⟨_,_,_,p⟩:=(show bK X.prog X.w H s.heap a (.tup xs) from I.aD a _ ea);obtain⟨o,h1,h2,_⟩:=p;exact⟨_,PySem.W.kitx_tuple,⟨o,h1,h2⟩,λz=>nomatch z⟩
 | @dK a az ea =>
  cases (show u=Value.ref a from rx);obtain⟨_,_,vs,_,p⟩:=(show bK X.prog X.w H s.heap a (.dK az) from I.aD a _ ea);obtain⟨o,es,ep,h1,h2,_⟩:=p;exact⟨_,PySem.W.kitx_dict,⟨o,h1,h2.1⟩,λz=>nomatch z⟩
 | @dT a az ea =>
  cases (show u=Value.ref a from rx);obtain⟨_,_,xs,_,o,es,ep,h1,h2,_⟩:=(show bK X.prog X.w H s.heap a (.dT az) from I.aD a _ ea);exact⟨_,PySem.W.kitx_dict,⟨o,h1,h2.1⟩,λz=>nomatch z⟩
 | @ins a C dx fs ea cl ha hn nj hm =>
  cases (show u=Value.ref a from rx);obtain⟨mA,O,_⟩:=kM I.aD ea;obtain⟨od,J,_⟩:=O.look;exact⟨_,PySem.W.kitx_own (cl.get _) cl.hd ha hn nj hm,J,λz=>nomatch z⟩
theorem gF:fH X (.builtin "isinstance") (λxs H Q=>∃x T t b,xs = [x,.ty T]/\dh X.K H x t/\PySem.W.kitOne X.K t (.type T)=some b/\Q (.bl b) H):=by
 intro pins s σ H xs us Q I r h;obtain⟨x,T,t,b,rfl,ty,e,q⟩:=h;obtain⟨u,v,rfl,ru,rv⟩:=vals2 r;cases (show v=Value.type T from rv);exact CI I ru ty e λtk=>⟨.bl b,H,I.tok _,rfl,q⟩
theorem yu:∀ {Ts:List String} {us:List Value},Vals (Ts.map V.ty) us->us=Ts.map Value.type
 | [],_,.nil=>rfl
 | _::_,_,.cons r t=>by
  have r:_=Value.type _:=r;rw[r,yu t];rfl
theorem En:fH X (.builtin "isinstance") (λxs H Q=>∃(x:V) (p:Addr) (Ts:List String) (t:Value) (b:Bool),xs = [x,.ref p]/\H p=some (.tup (Ts.map V.ty))/\dh X.K H x t/\PySem.W.kitAny X.K t (Ts.map Value.type)=some b/\Q (.bl b) H):=by
 intro pins s σ H xs us Q I r h;obtain⟨x,p,Ts,t,b,rfl,hp,ty,e,q⟩:=h;obtain⟨u,v,rfl,ru,rv⟩:=vals2 r;cases (show v=Value.ref p from rv);obtain⟨Hh,Z,hh,ne⟩:=dh.Em I ru ty;obtain⟨_,aq,rt,o,ho,hc,n,hd⟩:=I.aD p _ hp;have ei:=yu rt;obtain⟨oc,od,dt,sl⟩:=o;simp only at hc hd;subst hc hd ei;exact PySem.W.kia_tup Z I.bR hh ho e ne λtk=>⟨.bl b,H,I.tok _,rfl,q⟩
theorem Eo{A:Around}{s:Shared}{x:V}{u v:Value}(ru:RelV x u)(rv:RelV x v)(hx:∀b,x≠.fS b)(hb:∀b,x≠.dM b):SeqAt.EqAt A s u v true:=by
 cases x with
 | aG=>cases ru;cases rv;exact SeqAt.EqAt.same _
 | bl b=>cases ru;cases rv;exact SeqAt.EqAt.same _
 | ref a=>cases ru;cases rv;exact SeqAt.EqAt.same _
 | ty n=>cases ru;cases rv;exact SeqAt.EqAt.same _
 | fS b=>exact absurd rfl (hx b)
 | int i =>
  have:=xO (A:=A) (s:=s) ru rv rfl rfl;rwa [show jW (V.int i) (V.int i)=true by simp[jW]] at this
 | str z =>
  have:=xO (A:=A) (s:=s) ru rv rfl rfl;rwa [show jW (V.str z) (V.str z)=true by simp[jW]] at this
 | dM z=>exact absurd rfl (hb z)
end
noncomputable def AllP{α:Type}(P:α->Prop):List α->Prop
 | []=>True
 | a::r=>P a/\AllP P r
theorem AllP.mem{α:Type}{P:α->Prop}:∀ {l:List α},AllP P l->∀a∈l,P a
 | _::_,h,a,hm=>by
  rcases List.mem_cons.mp hm with rfl | hm
  ·exact h.1
  ·exact AllP.mem h.2 a hm
theorem dH.of{X:Cx}{scope:Scope}{cl:List (Str×Addr)}{N:List Str}{nt:Nat}{fv:List Nat}(nJ:closureFor scope X.env=pure cl)(kind:scope.kind = .function)
  (kX:(scope.names.all λy=>y.2 != .cell)=true) (names:(scope.names.all λy=>y.2 != .local || scope.names.lookup y.1 == some .local)=true)
  (sub:AllP (λp:Str×Addr=>X.env.cells.lookup p.1=some p.2) cl) (has:(scope.names.all λy=>y.2 != .free || (cl.lookup y.1).isSome)=true)
  (free:fv.map (λj=>X.N[j]?)=(N.drop nt).map some) (fk:((N.drop nt).all λy=>scope.names.lookup y == some .free && X.env.scope.names.lookup y == some .cell)=true) (le:nt<=N.length) (nd:N.Nodup) :
  dH X scope cl N nt fv where
 nJ:=nJ
 kind:=kind
 kX:=λy hy=>by have:=List.all_eq_true.mp kX y hy;simpa using this
 names:=λy hy hl=>by have:=List.all_eq_true.mp names y hy;simp[hl] at this;exact this
 sub:=sub.mem
 has:=λy hy hl=>by
  have:=List.all_eq_true.mp has y hy;rw[hl] at this;exact Option.isSome_iff_exists.mp (by simpa only[bne_self_eq_false,Bool.false_or] using this)
 free:=free
 fk:=λy hy=>by have:=List.all_eq_true.mp fk y hy;simpa using this
 le:=le
 nd:=nd
theorem LG{CX:dj}{P:Program}{w:World}{K:PySem.W.Frag}{mg:Str->Option Value}{base:Heap}{N:List Str}{qual:Str}{scope:Scope}{f:Addr}{cd:Value}{A:Around}{outer:List Env}{s:Shared}{H:Hp}{E:XK} :
  (eB CX P w K mg base N qual scope f cd A outer s H E).K=K:=rfl
theorem LH{X:Cx}{E:Value->Shared->Prop}:(X.fG E).K=X.K:=rfl
theorem LI{X:Cx}{scope:Scope}{cl:List (Str×Addr)}{N:List Str}{C:Addr}{s:Shared}{H:Hp}{fp:List Addr}:(dP X scope cl N C s H fp).K=X.K:=rfl
structure Zn(H:Hp)(a:Addr)(ts:List Addr)(z:List (Int×Int)):Prop where
 l:H a=some (.lst (ts.map V.ref))
 n:ts.length=z.length
 t:∀(i:Nat) (t:Addr) (p:Int×Int),ts[i]? = some t->z[i]? = some p->H t=some (.tup [.int p.1,.int p.2])
theorem Zn.same{H H':Hp}{a:Addr}{ts:List Addr}{z:List (Int×Int)}(h:Zn H a ts z)(e:aj H H'):Zn H' a ts z:=⟨e _ _ h.l,h.n,λi t p h1 h2=>e _ _ (h.t i t p h1 h2)⟩
theorem Zn.at{H:Hp}{a:Addr}{ts:List Addr}{z:List (Int×Int)}(h:Zn H a ts z){i:Nat}{x:V}(e:(ts.map V.ref)[i]? = some x):∃t p,x = .ref t/\z[i]? = some p/\H t=some (.tup [.int p.1,.int p.2]):=by
 rw[List.getElem?_map] at e;cases q:ts[i]? with
 | none=>rw[q] at e;cases e
 | some t =>
  rw[q] at e;have hi:i<z.length:=by rw[← h.n];exact(List.getElem?_eq_some_iff.mp q).1
  exact⟨t,z[i],(Option.some.inj e).symm,List.getElem?_eq_getElem hi,h.t i t _ q (List.getElem?_eq_getElem hi)⟩
noncomputable def mix(c k:Int):Int:=((c % 1000000000000000+1)*48271+k*k*16807+k*7919) % 2147483647*69621 % 2147483629
theorem Ep(c k:Int):0<=mix c k:=Int.emod_nonneg _ (by decide)
theorem Er(c k:Int):mix c k<2147483629:=Int.emod_lt_of_pos _ (by decide)
noncomputable def eF(ns:List Int)(k:Int):Int:=ns.getD k.toNat 0
noncomputable def dI:Sp:=λvs H Q _=>∃c k:Int,vs = [.int c,.int k]/\0<=k/\k<100000/\Q (.int (mix c k)) H
noncomputable def jZ(K:PySem.W.Frag):Sp:=λvs H Q _=>∃(a:Addr) (ns:List Int) (k:Int),vs = [.ref a,.int k]/\aB K H a (ns.map V.int)/\ns.length<=63/\0<=k/\Q (.int (eF ns k)) H
section
variable{K:PySem.W.Frag}{ta:TA}{tl:TE}{g:TG}{tb:TS}{D:Ends}{σ:St}{H:Hp}
theorem Es(n:Nat)(cW:∀Q:List V->Hp->Prop,Q [.int (n:Int)] H->ta σ H Q)(hn:n<1000000000)(Pv:Nat->St->Hp->Prop)(h0:Pv 0 σ H)
  (hs:∀i σ H,i<n->Pv i σ H->g (.int (i:Int)) σ H λaC H2=>tb { D with nx:=Pv (i+1),ct:=Pv (i+1),bk:=D.nx } aC H2) (hd:∀σ H,Pv n σ H->D.nx σ H):gr (kH ta) g tb D σ H:=by
 refine cW _ ⟨n,rfl,by lia,by lia,?_⟩
 have e:((n:Int)).toNat=n:=by lia
 rw[e];refine rH Pv h0 (λi σ H hi p=>?_) hd;have e2:(0:Int)+(i:Int)=i:=by lia
 rw[e2];exact hs i σ H hi p
theorem Et(lo hi:Int)(cW:∀Q:List V->Hp->Prop,Q [.int lo,.int hi] H->ta σ H Q)(b1 : -1000000000000<lo)(b2:lo<1000000000000)(b3 : -1000000000000<hi)(b4:hi<1000000000000)(Pv:Nat->St->Hp->Prop)(h0:Pv 0 σ H)
  (hs:∀i σ H,i<(hi - lo).toNat->Pv i σ H->g (.int (lo+(i:Int))) σ H λaC H2=>tb { D with nx:=Pv (i+1),ct:=Pv (i+1),bk:=D.nx } aC H2) (hd:∀σ H,Pv (hi - lo).toNat σ H->D.nx σ H):gr (kI ta) g tb D σ H :=
 cW _ ⟨lo,hi,rfl,⟨by lia,by lia,by lia,by lia⟩,rH Pv h0 hs hd⟩
theorem Eu(a:Addr)(xs:List V)(h_:∀Q:VK,Q (.ref a) H->tl σ H Q)(c8:aB K H a xs)(Pv:Nat->St->Hp->Prop)(h0:Pv 0 σ H)(hl:∀i σ H,i<=xs.length->Pv i σ H->aB K H a xs)
  (hs:∀i x σ H,xs[i]? = some x->Pv i σ H->g x σ H λaC H2=>tb { D with nx:=Pv (i+1),ct:=Pv (i+1),bk:=D.nx } aC H2) (hd:∀σ H,Pv xs.length σ H->D.nx σ H):gr (jf K tl) g tb D σ H :=
 h_ _ ⟨a,rfl,⟨xs,c8⟩,Ce Pv h0 hl hs hd⟩
theorem Ew(a:Addr)(xs:List V)(cW:∀Q:List V->Hp->Prop,Q [.ref a] H->ta σ H Q)(c8:aB K H a xs)(Pv:Nat->St->Hp->Prop)(h0:Pv 0 σ H)(hl:∀i σ H,i<=xs.length->Pv i σ H->aB K H a xs)
  (hs:∀i x σ H T,xs[i]? = some x->Pv i σ H->H T=none->g (.ref T) σ (upd H T (.tup [.int i,x])) λaC H2=>tb { D with nx:=Pv (i+1),ct:=Pv (i+1),bk:=D.nx } aC H2) (hd:∀σ H,Pv xs.length σ H->D.nx σ H):gr (sP K ta) g tb D σ H :=
 cW _ ⟨a,rfl,⟨xs,c8⟩,Ek Pv h0 hl hs hd⟩
variable{tt:TT}{te:TE}{nt:Nat}{fv:List Nat}{Q:VK}
noncomputable def NX(n i:Nat)(P:Prop):Prop:=∃m',m' < n - i/\m' = n - (i+1)/\i+1<=n/\P
theorem NX.of{n i:Nat}{P:Prop}(hi:i<n)(p:P):NX n i P:=⟨n - (i+1),by lia,rfl,hi,p⟩
theorem Ex(lo hi:Int)(cW:∀Q:List V->Hp->Prop,Q [.int lo,.int hi] H->ta σ H Q)(b1 : -1000000000000<lo)(b2:lo<1000000000000)(b3 : -1000000000000<hi)(b4:hi<1000000000000)
  (Pv:Addr->Nat->List V->St->Hp->Prop) (h0:∀D,H D=none->Pv D 0 [] (gD σ nt fv) (upd H D (.lst []))) (hD:∀D i ys σ H,Pv D i ys σ H->H D=some (.lst ys)/\ys.length<sizeLine)
  (hs:∀D i ys aC H2,i<(hi - lo).toNat->Pv D i ys aC H2->g (.int (lo+(i:Int))) aC H2 λbJ H4=>tt bJ H4 λb H5=>if b=true then te bJ H5 λv H6=>H6 D=some (.lst ys)/\NX (hi - lo).toNat i (Pv D (i+1) (ys++[v]) bJ (upd H6 D (.lst (ys++[v])))) else NX (hi - lo).toNat i (Pv D (i+1) ys bJ H5))
  (hd:∀D ys aC H2,Pv D (hi - lo).toNat ys aC H2->Q (.ref D) H2):iJ (kI ta) g tt te nt fv σ H Q:=by
 refine cW _ ⟨lo,hi,rfl,⟨by lia,by lia,by lia,by lia⟩,λD k6=>?_⟩
 refine⟨λi m ys aC H2=>m=(hi - lo).toNat - i/\i<=(hi - lo).toNat/\Pv D i ys aC H2,⟨_,rfl,Nat.zero_le _,h0 D k6⟩,?_⟩;rintro i m ys aC H2 ⟨rfl,fZ,p⟩;obtain⟨d1,d2⟩:=hD D i ys aC H2 p;refine⟨d1,d2,?_⟩;by_cases aY:i<(hi - lo).toNat
 ·refine .inr ⟨aY,λx H3 y=>?_⟩;obtain⟨e1,e2⟩:=y;subst e1 e2;exact hs D i ys aC _ aY p
 ·have e:i=(hi - lo).toNat:=by lia
  subst e;exact .inl ⟨Nat.le_refl _,hd D ys aC H2 p⟩
theorem Ey(a:Addr)(xs:List V)(h_:∀Q:VK,Q (.ref a) H->tl σ H Q)(c8:aB K H a xs)
  (Pv:Addr->Nat->List V->St->Hp->Prop) (h0:∀D,H D=none->Pv D 0 [] (gD σ nt fv) (upd H D (.lst []))) (hD:∀D i ys σ H,Pv D i ys σ H->H D=some (.lst ys)/\ys.length<sizeLine/\aB K H a xs)
  (hs:∀D i x ys aC H2,xs[i]? = some x->Pv D i ys aC H2->g x aC H2 λbJ H4=>tt bJ H4 λb H5=>if b=true then te bJ H5 λv H6=>H6 D=some (.lst ys)/\NX xs.length i (Pv D (i+1) (ys++[v]) bJ (upd H6 D (.lst (ys++[v])))) else NX xs.length i (Pv D (i+1) ys bJ H5))
  (hd:∀D ys aC H2,Pv D xs.length ys aC H2->Q (.ref D) H2):iJ (jf K tl) g tt te nt fv σ H Q:=by
 refine h_ _ ⟨a,rfl,⟨xs,c8⟩,λD k6=>?_⟩;refine⟨λi m ys aC H2=>m=xs.length - i/\i<=xs.length/\Pv D i ys aC H2,⟨_,rfl,Nat.zero_le _,h0 D k6⟩,?_⟩;rintro i m ys aC H2 ⟨rfl,fZ,p⟩;obtain⟨d1,d2,d3⟩:=hD D i ys aC H2 p;refine⟨d1,d2,?_⟩;by_cases aY:i<xs.length
 ·refine .inr ⟨⟨xs,xs[i],d3,by simp[aY]⟩,λx H3 y=>?_⟩
  obtain⟨e1,e2⟩:=y;subst e1;exact hs D i x ys aC _ (e2 xs d3) p
 ·have e:i=xs.length:=by lia
  subst e;exact .inl ⟨⟨xs,d3,Nat.le_refl _⟩,hd D ys aC H2 p⟩
end
theorem eZ{ns:List Int}{k:Int}(h0:0<=k)(h:k<(ns.length:Int)):dO (ns.map V.int) k=some (.int (ns.getD k.toNat 0)):=by
 have hk:k.toNat<ns.length:=by lia
 unfold dO fX;rw[if_pos h0,if_pos (by simpa using h)]
 simp[List.getD_eq_getElem?_getD,List.getElem?_eq_getElem hk]
theorem sQ{ns:List Int}(h:0<ns.length):dO (ns.map V.int) (-1)=some (.int (ns.getD (ns.length - 1) 0)):=by
 have hk:ns.length - 1<ns.length:=by lia
 unfold dO fX;rw[if_neg (by decide),if_pos (by simp;lia)]
 have e:(-1+((ns.map V.int).length:Int)).toNat=ns.length - 1:=by simp;lia
 rw[e];simp[List.getD_eq_getElem?_getD,List.getElem?_eq_getElem hk]
theorem Ez(a b:String):(Str.ofString a=Str.ofString b)=(a=b):=by
 refine propext ⟨λh=>?_,λh=>by rw[h]⟩
 rw[Str.ofString_eq_toList,Str.ofString_eq_toList] at h;have h:a.toList.map Char.toNat=b.toList.map Char.toNat:=by
  injection h with h;exact Array.toList_inj.mpr h |> λz=>by simpa using h
 have inj:∀(x y:List Char),x.map Char.toNat=y.map Char.toNat->x=y:=by
  intro x
  induction x with
  | nil=>intro y h;cases y with | nil=>rfl | cons c r=>simp at h
  | cons c r ih =>
   intro y h;cases y with
   | nil=>simp at h
   | cons d q =>
    simp only[List.map_cons,List.cons.injEq] at h;rw[ih q h.2,Char.toNat_inj.mp h.1]
 exact String.ext (inj _ _ h)
theorem EA(a b:String):(Str.ofString a == Str.ofString b)=(a == b):=by
 by_cases h:a=b
 ·subst h;simp
 ·have h2:¬ Str.ofString a=Str.ofString b:=by rw[Ez];exact h
  rw[beq_eq_false_iff_ne.mpr h,beq_eq_false_iff_ne.mpr h2]
structure e7(z:List (Int×Int)):Prop where
 l1:1<=z.length
 l5:z.length<=5
 r:∀p∈z,1<=p.1/\p.1<=40/\1<=p.2/\p.2<=60
 s2:2<=(z.map (·.1)).sum
 k7:(z.map (·.1)).sum<=120
noncomputable def counts(z:List (Int×Int)):List Int:=z.flatMap λp=>List.replicate p.1.toNat p.2
structure SwOk(sw:List Int)(n:Int):Prop where
 len:(sw.length:Int)=n
 two:2<=n
 z:sw.getD 0 0=0
 pos:∀i:Nat,1<=i->i<sw.length->1<=sw.getD i 0/\sw.getD i 0<=1000000000
 up:∀i:Nat,1<=i->i<sw.length->sw.getD (i - 1) 0<=sw.getD i 0
 no:∀a b:Nat,1<=a->1<=b->a+b<sw.length->sw.getD (a+b) 0<=sw.getD a 0+sw.getD b 0
noncomputable def dQ(s:Int):Nat->List Int->List (Int×Int)
 | _,[]=>[]
 | r,c::cs=>(List.range (c - s).toNat).map (λ(k:Nat)=>((r:Int),(k:Int)))++dQ s (r+1) cs
noncomputable def nU(rc:List Int)(s:Int):List (Int×Int):=dQ s 0 rc
noncomputable def kT(p:Int×Int):List Key:=[.inl p.1,.inl p.2]
noncomputable def e8:Nat->List (Int×Int)->List (List Key×V)->List (List Key×V)
 | _,[],acc=>acc
 | i,p::r,acc=>e8 (i+1) r (putK acc (kT p) (.int i))
noncomputable def sR(z:List (Int×Int)):List (List Key×V):=e8 0 z []
theorem yw(s:Int):∀(xs ys:List Int) (r:Nat),dQ s r (xs++ys)=dQ s r xs++dQ s (r+xs.length) ys
 | [],ys,r=>by simp[dQ]
 | x::xs,ys,r=>by
  rw[List.cons_append,dQ,dQ,yw s xs ys (r+1),List.append_assoc,List.length_cons];congr 3;lia
theorem yx:∀(xs ys:List (Int×Int)) (i:Nat) (acc:List (List Key×V)),e8 i (xs++ys) acc=e8 (i+xs.length) ys (e8 i xs acc)
 | [],ys,i,acc=>by simp[e8]
 | x::xs,ys,i,acc=>by
  rw[List.cons_append,e8,e8,yx xs ys (i+1),List.length_cons];congr 1;lia
theorem yy:∀(xs:List (Int×Int)) (i:Nat) (acc:List (List Key×V)),(e8 i xs acc).length<=acc.length+xs.length
 | [],i,acc=>by simp[e8]
 | x::xs,i,acc=>by
  rw[e8];have h1:=yy xs (i+1) (putK acc (kT x) (.int i));have h2:=sf acc (kT x) (.int i);rw[List.length_cons];lia
theorem sS(x y:List (Int×Int)):counts (x++y)=counts x++counts y:=by simp[counts]
theorem nW:∀(z:List (Int×Int)),(∀p∈z,1<=p.1)->((counts z).length:Int)=(z.map (·.1)).sum
 | [],_=>rfl
 | p::z,h=>by
  have ih:=nW z λp hp=>h p (List.mem_cons_of_mem _ hp);have h1:=h p List.mem_cons_self;simp only[counts,List.flatMap_cons,List.length_append,List.length_replicate,List.map_cons,List.sum_cons] at ih ⊢;lia
theorem EB{z:List (Int×Int)}(ok:e7 z)(i:Nat):(counts (z.take i)).length<=120:=by
 have h0:=nW z λp hp=>(ok.r p hp).1;have e:z=z.take i++z.drop i:=(List.take_append_drop i z).symm;have e2:(counts z).length=(counts (z.take i)).length+(counts (z.drop i)).length:=by
  rw[← List.length_append,← sS,List.take_append_drop]
 have:=ok.k7;lia
theorem yz{z:List (Int×Int)}{c:Int}(h:c∈counts z):∃p∈z,c=p.2:=by
 obtain⟨p,hp,hc⟩:=List.mem_flatMap.mp h;exact⟨p,hp,(List.mem_replicate.mp hc).2⟩
theorem sU{s:Int}(hs:0<=s):∀(rc:List Int) (r:Nat),(∀c∈rc,0<=c/\c<=1000)->(dQ s r rc).length<=1000*rc.length
 | [],_,_=>by simp[dQ]
 | c::rc,r,h=>by
  have ih:=sU hs rc (r+1) λc hc=>h c (List.mem_cons_of_mem _ hc);have h1:=h c List.mem_cons_self;simp only[dQ,List.length_append,List.length_map,List.length_range,List.length_cons];lia
theorem EC{s:Int}(hs:0<=s){rc:List Int}(h:∀c∈rc,0<=c/\c<=1000)(i:Nat):(dQ s 0 (rc.take i)).length<=1000*rc.length:=by
 have h1:=sU hs (rc.take i) 0 λc hc=>h c (List.mem_of_mem_take hc);rw[List.length_take] at h1;have h2:1000*min i rc.length<=1000*rc.length:=Nat.mul_le_mul_left _ (Nat.min_le_right _ _);exact Nat.le_trans h1 h2
theorem ED:sizeLine=16777216:=by decide
theorem nX(n:Nat)(c:Int):(List.replicate n [V.int c]).flatten=(List.replicate n c).map V.int:=by
 induction n with
 | zero=>rfl
 | succ n ih=>rw[List.replicate_succ,List.flatten_cons,ih,List.replicate_succ,List.map_cons];rfl
theorem EE{α:Type}{l:List α}{i:Nat}{x:α}(h:l[i]? = some x):i<l.length:=(List.getElem?_eq_some_iff.mp h).1
theorem take_succ_get{α:Type}{l:List α}{i:Nat}{x:α}(h:l[i]? = some x):l.take (i+1)=l.take i++[x]:=by
 rw[List.take_add_one,h];rfl
theorem EF{α β:Type}{f:α->β}{l:List α}{i:Nat}{y:β}(h:(l.map f)[i]? = some y):∃x,l[i]? = some x/\y=f x:=by
 rw[List.getElem?_map] at h;cases e:l[i]? with
 | none=>rw[e] at h;cases h
 | some x=>rw[e] at h;exact⟨x,rfl,(Option.some.inj h).symm⟩
theorem get_mem{α:Type}{l:List α}{i:Nat}{x:α}(h:l[i]? = some x):x∈l:=List.mem_of_getElem? h
theorem sV{α:Type}{l:List α}{i:Nat}{x:α}(h:l[i]? = some x):i<l.length:=(List.getElem?_eq_some_iff.mp h).1
theorem aj.put{H:Hp}{a:Addr}{o:HO}(h:H a=none):aj H (upd H a o):=λb u e=>by rw[aL (cI e h)];exact e
theorem aj.put2{H H':Hp}{a:Addr}{o:HO}(s:aj H H')(h:H a=none):aj H (upd H' a o):=λb u e=>by rw[aL (cI e h)];exact s b u e
theorem Zn.sq{K:PySem.W.Frag}{H:Hp}{a:Addr}{ts:List Addr}{z:List (Int×Int)}(h:Zn H a ts z):aB K H a (ts.map V.ref):=aB.of h.l
section
variable{X:Cx}{K:PySem.W.Frag}
theorem EG(h:X.K=K):fY X (nq K):=h▸kP
theorem EH(h:X.K=K):fY X (nk K):=h▸cN
end
section
variable{K:PySem.W.Frag}{ta:TA}{tl:TE}{g:TG}{tb:TS}{D:Ends}{σ:St}{H:Hp}
theorem rl(a:Addr)(xs:List V)(Pv:Nat->St->Hp->Prop)(h_:∀Q:VK,Q (.ref a) H->tl σ H Q)(c8:aB K H a xs)(h0:Pv 0 σ H)(hl:∀i σ H,i<=xs.length->Pv i σ H->aB K H a xs)
  (hs:∀i x σ H (N:St->Hp->Prop),(∀σ H,Pv (i+1) σ H->N σ H)->xs[i]? = some x->Pv i σ H->g x σ H λaC H2=>tb { D with nx:=N,ct:=N,bk:=D.nx } aC H2) (hd:∀σ H,Pv xs.length σ H->D.nx σ H):gr (jf K tl) g tb D σ H :=
 Eu a xs h_ c8 Pv h0 hl (λi x σ H hx p=>hs i x σ H _ (λ_ _ z=>z) hx p) hd
theorem yC(n:Nat)(Pv:Nat->St->Hp->Prop)(cW:∀Q:List V->Hp->Prop,Q [.int (n:Int)] H->ta σ H Q)(hn:n<1000000000)(h0:Pv 0 σ H)
  (hs:∀i σ H (N:St->Hp->Prop),(∀σ H,Pv (i+1) σ H->N σ H)->i<n->Pv i σ H->g (.int (i:Int)) σ H λaC H2=>tb { D with nx:=N,ct:=N,bk:=D.nx } aC H2) (hd:∀σ H,Pv n σ H->D.nx σ H):gr (kH ta) g tb D σ H :=
 Es n cW hn Pv h0 (λi σ H hx p=>hs i σ H _ (λ_ _ z=>z) hx p) hd
theorem jr(lo hi:Int)(Pv:Nat->St->Hp->Prop)(cW:∀Q:List V->Hp->Prop,Q [.int lo,.int hi] H->ta σ H Q)(b1 : -1000000000000<lo)(b2:lo<1000000000000)(b3 : -1000000000000<hi)(b4:hi<1000000000000)(h0:Pv 0 σ H)
  (hs:∀i σ H (N:St->Hp->Prop),(∀σ H,Pv (i+1) σ H->N σ H)->i<(hi - lo).toNat->Pv i σ H->g (.int (lo+(i:Int))) σ H λaC H2=>tb { D with nx:=N,ct:=N,bk:=D.nx } aC H2) (hd:∀σ H,Pv (hi - lo).toNat σ H->D.nx σ H):gr (kI ta) g tb D σ H :=
 Et lo hi cW b1 b2 b3 b4 Pv h0 (λi σ H hx p=>hs i σ H _ (λ_ _ z=>z) hx p) hd
theorem EI(n:Int)(Pv:Nat->St->Hp->Prop)(cW:∀Q:List V->Hp->Prop,Q [.int n] H->ta σ H Q)(LJ : -1000000000000<n)(hn:n<1000000000000)(h0:Pv 0 σ H)
  (hs:∀i σ H (N:St->Hp->Prop),(∀σ H,Pv (i+1) σ H->N σ H)->i<n.toNat->Pv i σ H->g (.int (i:Int)) σ H λaC H2=>tb { D with nx:=N,ct:=N,bk:=D.nx } aC H2) (hd:∀σ H,Pv n.toNat σ H->D.nx σ H):gr (kH ta) g tb D σ H:=by
 refine cW _ ⟨n,rfl,by lia,by lia,?_⟩
 refine rH Pv h0 (λi σ H hi p=>?_) hd;have e2:(0:Int)+(i:Int)=i:=by lia
 rw[e2];exact hs i σ H _ (λ_ _ z=>z) hi p
theorem re(a:Addr)(xs:List V)(Pv:Nat->St->Hp->Prop)(cW:∀Q:List V->Hp->Prop,Q [.ref a] H->ta σ H Q)(c8:aB K H a xs)(h0:Pv 0 σ H)(hl:∀i σ H,i<=xs.length->Pv i σ H->aB K H a xs)
  (hs:∀i x σ H T (N:St->Hp->Prop),(∀σ H,Pv (i+1) σ H->N σ H)->xs[i]? = some x->Pv i σ H->H T=none->g (.ref T) σ (upd H T (.tup [.int i,x])) λaC H2=>tb { D with nx:=N,ct:=N,bk:=D.nx } aC H2) (hd:∀σ H,Pv xs.length σ H->D.nx σ H):gr (sP K ta) g tb D σ H :=
 Ew a xs cW c8 Pv h0 hl (λi x σ H T hx p hT=>hs i x σ H T _ (λ_ _ z=>z) hx p hT) hd
variable{tt:TT}{te:TE}{nt:Nat}{fv:List Nat}{Q:VK}
theorem EJ(lo hi:Int)(Pv:Addr->Nat->List V->St->Hp->Prop)(cW:∀Q:List V->Hp->Prop,Q [.int lo,.int hi] H->ta σ H Q)(b1 : -1000000000000<lo)(b2:lo<1000000000000)(b3 : -1000000000000<hi)(b4:hi<1000000000000)
  (h0:∀D,H D=none->Pv D 0 [] (gD σ nt fv) (upd H D (.lst []))) (hD:∀D i ys σ H,Pv D i ys σ H->H D=some (.lst ys)/\ys.length<sizeLine)
  (hs:∀D i ys aC H2 (N:List V->St->Hp->Prop),(∀ys σ H,Pv D (i+1) ys σ H->N ys σ H)->i<(hi - lo).toNat->Pv D i ys aC H2->g (.int (lo+(i:Int))) aC H2 λbJ H4=>tt bJ H4 λb H5=>if b=true then te bJ H5 λv H6=>H6 D=some (.lst ys)/\N (ys++[v]) bJ (upd H6 D (.lst (ys++[v]))) else N ys bJ H5)
  (hd:∀D ys aC H2,Pv D (hi - lo).toNat ys aC H2->Q (.ref D) H2):iJ (kI ta) g tt te nt fv σ H Q :=
 Ex lo hi cW b1 b2 b3 b4 Pv h0 hD (λD i ys aC H2 hi p=>hs D i ys aC H2 _ (λ_ _ _ z=>NX.of hi z) hi p) hd
theorem yD(a:Addr)(xs:List V)(Pv:Addr->Nat->List V->St->Hp->Prop)(h_:∀Q:VK,Q (.ref a) H->tl σ H Q)(c8:aB K H a xs)
  (h0:∀D,H D=none->Pv D 0 [] (gD σ nt fv) (upd H D (.lst []))) (hD:∀D i ys σ H,Pv D i ys σ H->H D=some (.lst ys)/\ys.length<sizeLine/\aB K H a xs)
  (hs:∀D i x ys aC H2 (N:List V->St->Hp->Prop),(∀ys σ H,Pv D (i+1) ys σ H->N ys σ H)->xs[i]? = some x->Pv D i ys aC H2->g x aC H2 λbJ H4=>tt bJ H4 λb H5=>if b=true then te bJ H5 λv H6=>H6 D=some (.lst ys)/\N (ys++[v]) bJ (upd H6 D (.lst (ys++[v]))) else N ys bJ H5)
  (hd:∀D ys aC H2,Pv D xs.length ys aC H2->Q (.ref D) H2):iJ (jf K tl) g tt te nt fv σ H Q :=
 Ey a xs h_ c8 Pv h0 hD (λD i x ys aC H2 hx p=>hs D i x ys aC H2 _ (λ_ _ _ z=>NX.of (List.getElem?_eq_some_iff.mp hx).1 z) hx p) hd
end
theorem jt{K:PySem.W.Frag}{H:Hp}{σ:St}{t:Addr}{x y:V}{n i j:Nat}{Q:St->Hp->Prop}(h:bW K H t [x,y])(hn:2=n)(q:Q ((σ.set i (some x)).set j (some y)) H):wV K n (rC (mU i) (rC (mU j) wU)) (.ref t) σ H Q :=
 ⟨t,[x,y],rfl,h,hn,x,[y],rfl,y,[],rfl,rfl,q⟩
theorem lenZ{ts:List Addr}{z:List (Int×Int)}(h:ts.length=z.length):(ts.map V.ref).length=z.length:=by simpa using h
theorem Zn.snoc{H:Hp}{l p:Addr}{ts:List Addr}{z:List (Int×Int)}(h:Zn H l ts z)(hp:H p=none)(a b:Int):Zn (upd (upd H p (.tup [.int a,.int b])) l (.lst (ts.map V.ref++[V.ref p]))) l (ts++[p]) (z++[(a,b)]):=by
 have gG:l≠p:=cI h.l hp;refine⟨by rw[aE,List.map_append];rfl,by simp[h.n],λi t q e1 e2=>?_⟩
 have hn:=h.n;by_cases hi:i<ts.length
 ·rw[List.getElem?_append_left hi] at e1;rw[List.getElem?_append_left (by lia)] at e2
  have ht:=h.t i t q e1 e2;rw[aL (mK ht h.l (by intro z;cases z)),aL (cI ht hp)]
  exact ht
 ·rw[List.getElem?_append_right (by lia)] at e1
  rw[List.getElem?_append_right (by lia)] at e2
  have iK:i - ts.length=0:=by
   have:=EE e1;simp at this;lia
  rw[iK] at e1;rw[← hn,iK] at e2;simp at e1 e2;subst e1 e2;rw[aL gG.symm,aE]
noncomputable def EK(t:TS):TS:=λD σ H=>∃M:St->Hp->Prop,t { D with nx:=M } σ H/\∀jR H1,M jR H1->D.nx jR H1
theorem ie{X:Cx}{st:Stmt}{t:TS}(h:PS X st t):PS X st (EK t):=by
 rintro pins s σ H D I ⟨M,hM,k⟩;refine aJ (h pins s σ H _ I hM) λf s1 q=>?_;cases f with
 | next=>obtain⟨jR,H1,I1,q⟩:=q;exact⟨jR,H1,I1,k _ _ q⟩
 | brk=>exact q
 | cont=>exact q
 | ret u=>exact q
noncomputable def EL(K:PySem.W.Frag):Sp:=λvs H Q _=>∃(a:Addr) (ts:List Addr) (z:List (Int×Int)),vs = [.ref a]/\Zn H a ts z/\e7 z/\
 ∀l H',aj H H'->H l=none->H' l=some (.lst ((counts z).map V.int))->Q (.ref l) H'
noncomputable def EM(K:PySem.W.Frag):Sp:=λvs H Q _=>∃(a:Addr) (rc:List Int) (s:Int),vs = [.ref a,.int s]/\aB K H a (rc.map V.int)/\rc.length<=1000/\(∀c∈rc,0<=c/\c<=1000)/\0<=s/\s<=1000/\
 ∀l ts H',aj H H'->H l=none->(∀t∈ts,H t=none)->Zn H' l ts (nU rc s)->Q (.ref l) H'
noncomputable def EN(K:PySem.W.Frag):Sp:=λvs H Q _=>∃(a:Addr) (ts:List Addr) (z:List (Int×Int)),vs = [.ref a]/\Zn H a ts z/\z.length<=1000000/\
 ∀d H',aj H H'->H d=none->H' d=some (.dT (sR z))->Q (.ref d) H'
structure Pl where
 rc:List Int
 a_:Int
 bF:Int
 sw:List Int
 nc:List (Int×Int)
structure CP(K:PySem.W.Frag)(C:Addr):Prop where
 cl:fJ K C
 n1:c7 K C "ring_cells"
 n2:c7 K C "lap"
 n3:c7 K C "skew"
 n4:c7 K C "swing"
 n5:c7 K C "number_cells"
 n6:c7 K C "cell_numbers"
noncomputable def k8(a1:Addr)(a_ bF:Int)(a2 a3 a4:Addr):List (Str×V):=[("ring_cells",.ref a1),("lap",.int a_),("skew",.int bF),("swing",.ref a2),("number_cells",.ref a3),("cell_numbers",.ref a4)]
structure k9(K:PySem.W.Frag)(C:Addr)(H:Hp)(p:Addr)(P:Pl)(dx a1 a2 a3 a4:Addr)(ts:List Addr)(fs:List (Str×V)):Prop where
 cp:CP K C
 o:H p=some (.ins C dx fs)
 f1:fs.lookup ("ring_cells" : Str)=some (.ref a1)
 f2:fs.lookup ("lap" : Str)=some (.int P.a_)
 f3:fs.lookup ("skew" : Str)=some (.int P.bF)
 f4:fs.lookup ("swing" : Str)=some (.ref a2)
 f5:fs.lookup ("number_cells" : Str)=some (.ref a3)
 f6:fs.lookup ("cell_numbers" : Str)=some (.ref a4)
 m1:fs.lookup ("rings" : Str)=none
 m2:fs.lookup ("total" : Str)=none
 m3:fs.lookup ("cells_of" : Str)=none
 m4:fs.lookup ("beats_of" : Str)=none
 m5:fs.lookup ("lap_beats" : Str)=none
 m6:fs.lookup ("begins" : Str)=none
 m7:fs.lookup ("swing_of" : Str)=none
 m8:fs.lookup ("has_cell" : Str)=none
 m9:fs.lookup ("cell_at" : Str)=none
 EO:fs.lookup ("number_of" : Str)=none
 ER:fs.lookup ("laid" : Str)=none
 rc:H a1=some (.lst (P.rc.map V.int))
 sw:H a2=some (.lst (P.sw.map V.int))
 nc:Zn H a3 ts P.nc
 cn:H a4=some (.dT (sR P.nc))
theorem k9.lit{K:PySem.W.Frag}{C:Addr}{H:Hp}{p:Addr}{P:Pl}{dx a1 a2 a3 a4:Addr}{ts:List Addr}(cp:CP K C)(o:H p=some (.ins C dx (k8 a1 P.a_ P.bF a2 a3 a4)))(rc:H a1=some (.lst (P.rc.map V.int)))(sw:H a2=some (.lst (P.sw.map V.int)))
  (nc:Zn H a3 ts P.nc) (cn:H a4=some (.dT (sR P.nc))):k9 K C H p P dx a1 a2 a3 a4 ts (k8 a1 P.a_ P.bF a2 a3 a4):=by
 refine⟨cp,o,?_,?_,?_,?_,?_,?_,?_,?_,?_,?_,?_,?_,?_,?_,?_,?_,?_,rc,sw,nc,cn⟩ <;> simp[k8,List.lookup_cons,EA]
noncomputable def yE(K:PySem.W.Frag)(C:Addr)(H:Hp)(p:Addr)(P:Pl)(fp:List Addr):Prop:=∃dx a1 a2 a3 a4 ts fs,fp=a1::a2::a3::a4::ts/\k9 K C H p P dx a1 a2 a3 a4 ts fs
theorem Zn.keep{H H':Hp}{a:Addr}{ts:List Addr}{z:List (Int×Int)}(h:Zn H a ts z)(ha:H' a=H a)(ht:∀t∈ts,H' t=H t):Zn H' a ts z :=
 ⟨ha.trans h.l,h.n,λi t p e1 e2=>(ht t (List.mem_of_getElem? e1)).trans (h.t i t p e1 e2)⟩
section
variable{K:PySem.W.Frag}{C:Addr}{H H':Hp}{p x:Addr}{P:Pl}{fp:List Addr}
noncomputable def SameBut(x:Addr)(H H':Hp):Prop:=∀b o,H b=some o->b≠x->H' b=some o
theorem SameBut.put{o:HO}(s:SameBut x H H'):SameBut x H (upd H' x o):=λb u e h=>by rw[aL h];exact s b u e h
theorem SameBut.step{H1 H2:Hp}(s:SameBut x H H1)(t:aj H1 H2):SameBut x H H2:=λb u e h=>t _ _ (s b u e h)
theorem SameBut.of(s:aj H H'):SameBut x H H':=λb u e _=>s _ _ e
end
theorem ES(ns:List Int)(lo hi:Option Int):∃ms:List Int,gY (ns.map V.int) lo hi=ms.map V.int/\ms.length<=ns.length:=by
 refine⟨(ns.drop (_H.cT (ns.map V.int).length 0 lo)).take (_H.cT (ns.map V.int).length (ns.map V.int).length hi - _H.cT (ns.map V.int).length 0 lo),?_,?_⟩
 ·unfold gY;rw[List.map_take,List.map_drop]
 ·rw[List.length_take,List.length_drop];lia
noncomputable def ET(K:PySem.W.Frag):Sp:=λvs H Q _=>∃(C p:Addr) (P:Pl) (fp:List Addr),vs = [.ref p]/\yE K C H p P fp/\Q (.int P.rc.length) H
inductive Dt where
 | aG | bl (b:Bool) | int (i:Int) | str (s:Str) | tup (xs:List Dt) | lst (xs:List Dt)
inductive Rep (H:Hp):Nat->V->Dt->Prop where
 | aG {n:Nat}:Rep H n .aG .aG
 | bl {n:Nat} (b:Bool):Rep H n (.bl b) (.bl b)
 | int {n:Nat} (i:Int):Rep H n (.int i) (.int i)
 | str {n:Nat} (s:Str):Rep H n (.str s) (.str s)
 | tup {n:Nat} {a:Addr} {xs:List V} {ds:List Dt} (h:H a=some (.tup xs)) (l:xs.length=ds.length) (hl:ds.length<=1000000) (r:∀(i:Nat) (x:V) (d:Dt),xs[i]? = some x->ds[i]? = some d->Rep H n x d):Rep H (n+1) (.ref a) (.tup ds)
 | lst {n:Nat} {a:Addr} {xs:List V} {ds:List Dt} (h:H a=some (.lst xs)) (l:xs.length=ds.length) (hl:ds.length<=1000000) (r:∀(i:Nat) (x:V) (d:Dt),xs[i]? = some x->ds[i]? = some d->Rep H n x d):Rep H (n+1) (.ref a) (.lst ds)
theorem Rep.same{H H':Hp}(s:aj H H'){n:Nat}{v:V}{d:Dt}(h:Rep H n v d):Rep H' n v d:=by
 induction h with
 | aG=>exact .aG
 | bl b=>exact .bl b
 | int i=>exact .int i
 | str x=>exact .str x
 | tup h l hl _ ih=>exact .tup (s _ _ h) l hl ih
 | lst h l hl _ ih=>exact .lst (s _ _ h) l hl ih
noncomputable def yF:Nat->Sp
 | 0=>λ_ _ _ _=>False
 | n+1=>λvs H Q _=>∃(v1 v2:V) (d:Dt),vs = [v1,v2]/\Rep H n v1 d/\Rep H n v2 d/\∀H',aj H H'->Q (.bl true) H'
noncomputable def EU(K:PySem.W.Frag):Sp:=yF 5
noncomputable def iL(a b:Int):List (Int×Int) :=
 if mix b 9 % 8=0 then [(2+mix a 9 % 2,1+mix b 8 % 60)]
 else(2+mix a 2 % 2,1+mix b 0 % 8)::(List.range ((if mix a 1 % 9=0 then 5 else 1+mix a 0 % 3) - 1).toNat).map λ(k:Nat)=>(1+mix a (2+(1+(k:Int))) % 3,1+mix b (1+(k:Int)) % 8)
noncomputable def bX(z:List (Int×Int)):Int:=z.foldl (λp x=>p*x.2) 1
noncomputable def ju(z:List (Int×Int))(c:Int):Int:=bX z*(1+mix c 1 % (if mix c 0 % 9=0 then 1000000000 / bX z else 900))
noncomputable def cg(c s0:Int):Nat->Int
 | 0=>s0
 | i+1=>cg c s0 i - mix c (2+(i:Int)+2) % (cg c s0 i+1) / 2
noncomputable def cU(c s0:Int):Nat->Int
 | 0=>0
 | i+1=>cU c s0 i+cg c s0 i
theorem jv(c:Int){s0:Int}(h:1<=s0):∀i,1<=cg c s0 i/\cg c s0 i<=s0
 | 0=>⟨h,Int.le_refl _⟩
 | i+1=>by
  have ih:=jv c h i;have h1:=Int.emod_nonneg (mix c (2+(i:Int)+2)) (show cg c s0 i+1≠0 by lia)
  have h2:=Int.emod_lt_of_pos (mix c (2+(i:Int)+2)) (show 0<cg c s0 i+1 by lia)
  rw[cg];generalize mix c (2+(i:Int)+2) % (cg c s0 i+1)=m at h1 h2 ⊢;lia
theorem EV(c:Int){s0:Int}(h:1<=s0)(i:Nat):cg c s0 (i+1)<=cg c s0 i:=by
 have ih:=jv c h i;have h1:=Int.emod_nonneg (mix c (2+(i:Int)+2)) (show cg c s0 i+1≠0 by lia)
 rw[cg];generalize mix c (2+(i:Int)+2) % (cg c s0 i+1)=m at h1 ⊢;lia
theorem EW(c:Int){s0:Int}(h:1<=s0)(i:Nat):∀j,cg c s0 (i+j)<=cg c s0 j
 | 0=>by
  rw[Nat.add_zero];exact(jv c h i).2
 | j+1=>by
  have:∀k,cg c s0 (j+1+k)<=cg c s0 (j+1):=by
   intro k
   induction k with
   | zero=>exact Int.le_refl _
   | succ k ih=>exact Int.le_trans (EV c h (j+1+k)) ih
  rw[Nat.add_comm i (j+1)];exact this i
theorem yG(c:Int){s0:Int}(h:1<=s0)(a:Nat):∀b,cU c s0 (a+b)<=cU c s0 a+cU c s0 b
 | 0=>by simp[cU]
 | b+1=>by
  have ih:=yG c h a b;have:=EW c h a b;rw[← Nat.add_assoc,cU,cU];lia
theorem yH(c:Int){s0:Int}(h:1<=s0):∀i:Nat,(i:Int)<=cU c s0 i/\cU c s0 i<=s0*(i:Int)
 | 0=>by simp[cU]
 | i+1=>by
  have ih:=yH c h i;have h2:=jv c h i;have e:s0*((i+1:Nat):Int)=s0*(i:Int)+s0:=by
   rw[show ((i+1:Nat):Int)=(i:Int)+1 by lia,Int.mul_add,Int.mul_one]
  rw[cU,e];lia
theorem range_getD{f:Nat->Int}{n i:Nat}(h:i<n):((List.range n).map f).getD i 0=f i:=by
 simp[List.getD_eq_getElem?_getD,h]
theorem EX{L:Int}(h:1<=L)(h8:L<=100000000){ns:List Int}(hb:∀x∈ns,L<=x/\x<=2*L)(hp:ns.Pairwise (·<=·))(h1:1<=ns.length):SwOk (0::ns) ((ns.length+1:Nat):Int):=by
 have at_:∀i:Nat,1<=i->i<(0::ns).length->∃hi:i - 1<ns.length,(0::ns).getD i 0=ns[i - 1]:=λi h1 hi=>by
  obtain⟨j,rfl⟩:∃j,i=j+1:=⟨i - 1,by lia⟩
  have hj:j<ns.length:=by simpa using hi
  exact⟨hj,by simp[List.getD_eq_getElem?_getD,List.getElem?_eq_getElem hj]⟩
 refine⟨by simp,by lia,rfl,λi h1 hi=>?_,λi h1 hi=>?_,λa b ha EY jw=>?_⟩
 ·obtain⟨hj,e⟩:=at_ i h1 hi;have:=hb _ (List.getElem_mem hj);rw[e];lia
 ·obtain⟨hj,e⟩:=at_ i h1 hi;rw[e];by_cases h2:i=1
  ·subst h2;have:=hb _ (List.getElem_mem hj)
   show (0:Int)<=_;lia
  ·obtain⟨j0,e2⟩:=at_ (i - 1) (by lia) (by lia)
   rw[e2];exact List.pairwise_iff_getElem.mp hp _ _ j0 hj (by lia)
 ·obtain⟨h1,e1⟩:=at_ (a+b) (by lia) jw
  obtain⟨h2,e2⟩:=at_ a ha (by lia)
  obtain⟨h3,e3⟩:=at_ b EY (by lia)
  have:=hb _ (List.getElem_mem h1);have:=hb _ (List.getElem_mem h2);have:=hb _ (List.getElem_mem h3);rw[e1,e2,e3];lia
structure ZL(z:List (Int×Int)):Prop where
 ok:e7 z
 pr:bX z<=32768
 sm:(z.map (·.1)).sum<=15
theorem prodF(z:List (Int×Int)):∀p:Int,z.foldl (λp x=>p*x.2) p=p*bX z:=by
 induction z with
 | nil=>intro p;simp[bX]
 | cons x z ih =>
  intro p;rw[bX,List.foldl_cons,List.foldl_cons,ih,ih (1*x.2),Int.one_mul,Int.mul_assoc]
theorem sW(x:Int×Int)(z:List (Int×Int)):bX (x::z)=x.2*bX z:=by
 rw[bX,List.foldl_cons,prodF,Int.one_mul]
theorem EZ(x:Int×Int)(z:List (Int×Int)):bX (z++[x])=bX z*x.2:=by
 rw[bX,List.foldl_append];rfl
theorem k_{m:Int}(hm:1<=m):∀z:List (Int×Int),(∀p∈z,1<=p.2/\p.2<=m)->1<=bX z/\bX z<=m ^ z.length
 | [],_=>by simp[bX]
 | x::z,h=>by
  have ih:=k_ hm z λp hp=>h p (List.mem_cons_of_mem _ hp);have hx:=h x List.mem_cons_self;rw[sW,List.length_cons,Int.pow_succ,Int.mul_comm (m ^ z.length)];constructor
  ·have:=Int.mul_le_mul hx.1 ih.1 (by decide) (by lia)
   lia
  ·exact Int.mul_le_mul hx.2 ih.2 (by lia) (by lia)
theorem yI{x:Int×Int}:∀ {z:List (Int×Int)},x∈z->x.2 ∣ bX z
 | y::z,h=>by
  rw[sW];rcases List.mem_cons.mp h with rfl | h
  ·exact Int.dvd_mul_right _ _
  ·exact Int.dvd_trans (yI h) (Int.dvd_mul_left _ _)
theorem yJ{m:Int}(hm:1<=m){a b:Nat}(h:a<=b):m ^ a<=m ^ b:=by
 induction h with
 | refl=>exact Int.le_refl _
 | @step b h ih =>
  rw[Int.pow_succ];have h1:1<=m ^ b:=by
   clear ih h
   induction b with
   | zero=>simp
   | succ b ih =>
    rw[Int.pow_succ];have:=Int.mul_le_mul ih hm (by decide) (by lia)
    lia
  have:=Int.mul_le_mul (Int.le_refl (m ^ b)) hm (by decide) (by lia)
  lia
theorem yK{f:Nat->Int}{lo hi:Int}(h:∀k,lo<=f k/\f k<=hi):∀n:Nat,lo*n<=((List.range n).map f).sum/\((List.range n).map f).sum<=hi*n
 | 0=>by simp
 | n+1=>by
  have ih:=yK h n;have:=h n;rw[List.range_succ,List.map_append,List.sum_append];simp only[List.map_cons,List.map_nil,List.sum_cons,List.sum_nil];have e1:lo*((n+1:Nat):Int)=lo*n+lo:=by rw[show ((n+1:Nat):Int)=(n:Int)+1 by lia,Int.mul_add,Int.mul_one]
  have e2:hi*((n+1:Nat):Int)=hi*n+hi:=by rw[show ((n+1:Nat):Int)=(n:Int)+1 by lia,Int.mul_add,Int.mul_one]
  rw[e1,e2];lia
theorem sX(a b:Int):ZL (iL a b):=by
 unfold iL;by_cases h:mix b 9 % 8=0
 ·rw[if_pos h];have h1:0<=mix a 9 % 2/\mix a 9 % 2<2:=⟨Int.emod_nonneg _ (by decide),Int.emod_lt_of_pos _ (by decide)⟩
  have h2:0<=mix b 8 % 60/\mix b 8 % 60<60:=⟨Int.emod_nonneg _ (by decide),Int.emod_lt_of_pos _ (by decide)⟩
  refine⟨⟨by simp,by simp,?_,?_,?_⟩,?_,?_⟩
  ·intro p hp;rw[List.mem_singleton.mp hp];dsimp only;lia
  ·simp;lia
  ·simp;lia
  ·rw[sW];simp[bX];lia
  ·simp;lia
 ·rw[if_neg h];generalize hm:(if mix a 1 % 9=0 then(5:Int) else 1+mix a 0 % 3)=m
  have E3:1<=m/\m<=5:=by
   have h1:0<=mix a 0 % 3/\mix a 0 % 3<3:=⟨Int.emod_nonneg _ (by decide),Int.emod_lt_of_pos _ (by decide)⟩
   rw[← hm];split <;> lia
  have h1:0<=mix a 2 % 2/\mix a 2 % 2<2:=⟨Int.emod_nonneg _ (by decide),Int.emod_lt_of_pos _ (by decide)⟩
  have h2:0<=mix b 0 % 8/\mix b 0 % 8<8:=⟨Int.emod_nonneg _ (by decide),Int.emod_lt_of_pos _ (by decide)⟩
  have h3:∀k:Nat,0<=mix a (2+(1+(k:Int))) % 3/\mix a (2+(1+(k:Int))) % 3<3:=λk=>⟨Int.emod_nonneg _ (by decide),Int.emod_lt_of_pos _ (by decide)⟩
  have h4:∀k:Nat,0<=mix b (1+(k:Int)) % 8/\mix b (1+(k:Int)) % 8<8:=λk=>⟨Int.emod_nonneg _ (by decide),Int.emod_lt_of_pos _ (by decide)⟩
  have eY:∀p∈((2+mix a 2 % 2,1+mix b 0 % 8)::(List.range (m - 1).toNat).map λ(k:Nat)=>(1+mix a (2+(1+(k:Int))) % 3,1+mix b (1+(k:Int)) % 8)),1<=p.1/\p.1<=3/\1<=p.2/\p.2<=8:=by
   intro p hp;rcases List.mem_cons.mp hp with rfl | hp
   ·dsimp only;lia
   ·obtain⟨k,_,rfl⟩:=List.mem_map.mp hp;have:=h3 k;have:=h4 k;dsimp only;lia
  have hlen:((2+mix a 2 % 2,1+mix b 0 % 8)::(List.range (m - 1).toNat).map λ(k:Nat)=>(1+mix a (2+(1+(k:Int))) % 3,1+mix b (1+(k:Int)) % 8)).length=m.toNat:=by
   simp;lia
  have LK:=yK (f:=λ(k:Nat)=>1+mix a (2+(1+(k:Int))) % 3) (lo:=1) (hi:=3) (λk=>by have:=h3 k;lia) (m - 1).toNat
  have hs:(((2+mix a 2 % 2,1+mix b 0 % 8)::(List.range (m - 1).toNat).map λ(k:Nat)=>(1+mix a (2+(1+(k:Int))) % 3,1+mix b (1+(k:Int)) % 8)).map (·.1)).sum=2+mix a 2 % 2+((List.range (m - 1).toNat).map λ(k:Nat)=>1+mix a (2+(1+(k:Int))) % 3).sum:=by
   rw[List.map_cons,List.sum_cons,List.map_map];rfl
  refine⟨⟨by rw[hlen];lia,by rw[hlen];lia,λp hp=>?_,?_,?_⟩,?_,?_⟩
  ·have:=eY p hp;lia
  ·rw[hs];lia
  ·rw[hs];lia
  ·have hb:=(k_ (m:=8) (by decide) _ λp hp=>(eY p hp).2.2).2
   rw[hlen] at hb;have:=yJ (m:=8) (by decide) (show m.toNat<=5 by lia)
   have e:(8:Int) ^ 5=32768:=by decide
   lia
  ·rw[hs];lia
noncomputable def E4(K:PySem.W.Frag):Sp:=λvs H Q _=>∃(a:Addr) (ts:List Addr) (z:List (Int×Int)) (c:Int),vs = [.ref a,.int c]/\Zn H a ts z/\e7 z/\Q (.int (ju z c)) H
noncomputable def nY(K:PySem.W.Frag):Sp:=λvs H Q _=>∃(a:Addr) (ns:List Int),vs = [.ref a]/\aB K H a (ns.map V.int)/\ns.length<=63/\∀H',Q (.bl true) H'
theorem ite_no{c A B:Prop}[Decidable c](h:¬ c)(b:B):if c then A else B:=by rw[if_neg h];exact b
theorem ite_yes{c A B:Prop}[Decidable c](h:c)(a:A):if c then A else B:=by rw[if_pos h];exact a
theorem yL{K:PySem.W.Frag}{x y:V}{H:Hp}{Q:VK}(h:nk K x y H Q):rY K x y H Q:=.inl h
theorem yM{K:PySem.W.Frag}{x y:V}{H:Hp}{Q:VK}(h:nq K x y H Q):rY K x y H Q:=.inr (.inl h)
section
variable{X:Cx}{CX:dj}{k:Nat}{f C:Addr}{fd:FuncData}{ps:List Str}{sp:Sp}{bO:List V}{ds:List Value}{E:XK}{x m:Str}{p pos apos:Pos}{e:Expr}{es:List Expr}{t:TA}
end
section
variable{X:Cx}
end
section
variable{X:Cx}{pins:List (Addr×Obj)}{σ:St}{H:Hp}{s:Shared}
end
section
variable{X:Cx}
end
section
variable{K:PySem.W.Frag}{ta:TA}{g:TG}{D:Ends}{σ:St}{H:Hp}{tt:TT}{te:TE}{nt:Nat}{fv:List Nat}{Q:VK}
end
noncomputable def LL(cs:List Addr)(m:Str)(sp:Sp)(bO:List V)(E:XK)(ta:TE)(t:TA):TE:=λσ H Q=>ta σ H λx H1=>∃C a dx fs,x = .ref a/\H1 a=some (.ins C dx fs)/\C∈cs/\fs.lookup m=none/\t σ H1 λvs H2=>sp (x::(vs++bO)) H2 Q E
section
variable{X:Cx}{CX:dj}{k:Nat}{f:Addr}{cs:List Addr}{fd:FuncData}{ps:List Str}{sp:Sp}{bO:List V}{ds:List Value}{E:XK}{m:Str}{pos apos:Pos}{o e:Expr}{es:List Expr}{ta:TE}{t:TA}
end
section
variable{K:PySem.W.Frag}{C:Addr}{H H':Hp}{p:Addr}{P:Pl}{fp:List Addr}{mv:Addr}{ms:List V}
end
noncomputable def f2(o:Obj):Option Value:=match o.data with
 | .fields vs=>vs[2]?
 | _=>none
noncomputable def Dk(h h':Heap):Prop:=∀(b:Nat) (o:Obj),h.objs[b]? = some o->∃o':Obj,h'.objs[b]? = some o'/\o'.dict=o.dict/\f2 o' = f2 o
theorem Dk.refl(h:Heap):Dk h h:=λ_ o e=>⟨o,e,rfl,rfl⟩
theorem Dk.push{h h':Heap}(k:Dk h h')(o:Obj):Dk h (h'.push o):=λb ob e=>by
 obtain⟨o',e',d⟩:=k b ob e;refine⟨o',?_,d⟩
 show (h'.objs.push o)[b]? = some o';rw[Array.getElem?_push];have:b<h'.objs.size:=(Array.getElem?_eq_some_iff.mp e').1;rw[if_neg (by lia)];exact e'
theorem Dk.upd{h h':Heap}(k:Dk h h'){a:Addr}{f:Obj->Obj}(hf:∀o,(f o).dict=o.dict/\f2 (f o)=f2 o):Dk h (h'.update a f):=λb ob e=>by
 obtain⟨o',e',d⟩:=k b ob e;by_cases hb:a=b
 ·subst hb;exact⟨f o',by show (h'.objs.modify a f)[a]? = _;rw[Array.getElem?_modify,if_pos rfl,e'];rfl,(hf o').1.trans d.1,(hf o').2.trans d.2⟩
 ·exact⟨o',by show (h'.objs.modify a f)[b]? = _;rw[Array.getElem?_modify,if_neg hb];exact e',d⟩
theorem yN{h:Heap}{a:Addr}{o:Obj}(e:h.get? a=some o):h.objs[a]? = some o:=by
 unfold Heap.get? at e;split at e
 ·cases e
 ·exact e
theorem Dk.at{h h':Heap}(k:Dk h h'){a:Addr}{o o':Obj}(e:h.get? a=some o)(e':h'.get? a=some o'):o'.dict=o.dict/\f2 o' = f2 o:=by
 obtain⟨o2,q,d⟩:=k a o (yN e);have:=yN e';rw[q] at this;cases this;exact d
noncomputable def KD{α:Type}:Sem α->Prop
 | .pure _=>True
 | .raise _=>True
 | .unsupported _=>True
 | .finish _=>True
 | .rule _ k=>KD (k ())
 | .at _ k=>KD (k ())
 | .load _ _ k=>∀o,KD (k o)
 | .update _ _ f k=>(∀o,(f o).dict=o.dict/\f2 (f o)=f2 o)/\KD (k ())
 | .alloc _ k=>∀a,KD (k a)
 | .loadIfAlive _ k=>∀o,KD (k o)
 | .point _ k=>KD (k ())
 | .register _ _=>True
 | .fresh k=>∀t,KD (k t)
 | .ask k=>∀x,KD (k x)
 | .choose _ _ k=>∀n,KD (k n)
 | .os _ _ k=>∀r,KD (k r)
 | .call .. => False
 | .handled _ k=>∀x,KD (k x)
 | .newGen _ k=>∀n,KD (k n)
 | .genState _ k=>∀x,KD (k x)
 | .resume .. => False
 | .yield .. => True
 | .stack k=>∀x,KD (k x)
 | .fork .. => True
 | .thread k=>∀n,KD (k n)
 | .await .. => True
theorem KD.wp{α:Type}{M:Model}{Γ:PySem.Ctx}{Q:α->Pos->Shared->Prop}{E:Value->Pos->Shared->Prop}{h0:Heap}(t:Sem α):KD t->∀p (s:Shared),Dk h0 s.heap->Sem.wp M Γ t Q E p s->
  Sem.wp M Γ t (λa p s'=>Q a p s'/\Dk h0 s'.heap) (λe p s'=>E e p s'/\Dk h0 s'.heap) p s:=by
 induction t with
 | pure a=>exact λ_ p s d h=>by rw[Sem.wp] at h ⊢;exact⟨h,d⟩
 | raise e=>exact λ_ p s d h=>by rw[Sem.wp] at h ⊢;exact⟨h,d⟩
 | unsupported _=>exact λ_ p s d h=>by rw[Sem.wp] at h;exact h.elim
 | finish _=>exact λ_ p s d h=>by rw[Sem.wp] at h;exact h.elim
 | rule _ k ih=>exact λq p s d h=>by rw[Sem.wp] at h ⊢;exact ih () q p s d h
 | «at» _ k ih=>exact λq p s d h=>by rw[Sem.wp] at h ⊢;exact ih () q _ s d h
 | load a _ k ih=>exact λq p s d h=>by rw[Sem.wp] at h ⊢;obtain⟨o,e,h⟩:=h;exact⟨o,e,ih o (q o) p s d h⟩
 | update a _ f k ih=>exact λq p s d h=>by rw[Sem.wp] at h ⊢;exact⟨h.1,ih () q.2 p _ (d.upd q.1) h.2⟩
 | alloc o k ih=>exact λq p s d h=>by rw[Sem.wp] at h ⊢;exact ih _ (q _) p _ (d.push o) h
 | loadIfAlive a k ih=>exact λq p s d h=>by rw[Sem.wp] at h ⊢;exact ih _ (q _) p s d h
 | point _ k ih=>exact λq p s d h=>by rw[Sem.wp] at h ⊢;exact ih () q p s d h
 | register _ k ih=>exact λq p s d h=>by rw[Sem.wp] at h;exact h.elim
 | fresh k ih=>exact λq p s d h=>by rw[Sem.wp] at h ⊢;exact ih _ (q _) p _ d h
 | ask k ih=>exact λq p s d h=>by rw[Sem.wp] at h ⊢;exact ih _ (q _) p _ d h
 | choose src n k ih=>exact λq p s d h=>by rw[Sem.wp] at h ⊢;exact⟨h.1,ih _ (q _) p _ d h.2⟩
 | os r _ k ih=>exact λq p s d h=>by rw[Sem.wp] at h ⊢;exact ih _ (q _) p _ d h
 | call c hd g l k ih=>exact λq p s d h=>False.elim q
 | handled own k ih=>exact λq p s d h=>by rw[Sem.wp] at h ⊢;exact ih _ (q _) p _ d h
 | newGen c k ih=>exact λq p s d h=>by rw[Sem.wp] at h ⊢;exact ih _ (q _) p _ d h
 | genState g k ih=>exact λq p s d h=>by rw[Sem.wp] at h ⊢;obtain⟨o,e,h⟩:=h;exact⟨o,e,ih _ (q _) p s d h⟩
 | resume g r l k ih=>exact λq p s d h=>False.elim q
 | yield v g l k ih=>exact λq p s d h=>by rw[Sem.wp] at h;exact h.elim
 | stack k ih=>exact λq p s d h=>by rw[Sem.wp] at h ⊢;exact ih _ (q _) p _ d h
 | fork c k ih=>exact λq p s d h=>by rw[Sem.wp] at h;exact h.elim
 | thread k ih=>exact λq p s d h=>by rw[Sem.wp] at h ⊢;exact ih _ (q _) p _ d h
 | await a t d l k ih=>exact λq p s d h=>by rw[Sem.wp] at h;exact h.elim
theorem KD.any{α:Type}{M:Model}{A:Around}{t:Sem α}{Q:α->Shared->Prop}{E:Value->Shared->Prop}{s:Shared}(k:KD t)(h:wpAny M A t Q E s):wpAny M A t (λa s'=>Q a s'/\Dk s.heap s'.heap) (λe s'=>E e s'/\Dk s.heap s'.heap) s :=
 λΓ p E5=>k.wp (h0:=s.heap) t p s (Dk.refl _) (h Γ p E5)
theorem KD.bind{α β:Type}{f:α->Sem β}(hf:∀a,KD (f a)):∀(m:Sem α),KD m->KD (m >>= f):=by
 intro m
 show KD m->KD (Sem.bind m f)
 induction m with
 | pure a=>exact λ_=>hf a
 | raise e=>exact λ_=>trivial
 | unsupported _=>exact λ_=>trivial
 | finish _=>exact λ_=>trivial
 | rule _ k ih=>exact λq=>ih () q
 | «at» _ k ih=>exact λq=>ih () q
 | load a _ k ih=>exact λq o=>ih o (q o)
 | update a _ f k ih=>exact λq=>⟨q.1,ih () q.2⟩
 | alloc o k ih=>exact λq a=>ih a (q a)
 | loadIfAlive a k ih=>exact λq o=>ih o (q o)
 | point _ k ih=>exact λq=>ih () q
 | register _ k ih=>exact λq=>trivial
 | fresh k ih=>exact λq a=>ih a (q a)
 | ask k ih=>exact λq a=>ih a (q a)
 | choose src n k ih=>exact λq a=>ih a (q a)
 | os r _ k ih=>exact λq a=>ih a (q a)
 | call c hd g l k ih=>exact λq=>q
 | handled own k ih=>exact λq a=>ih a (q a)
 | newGen c k ih=>exact λq a=>ih a (q a)
 | genState g k ih=>exact λq a=>ih a (q a)
 | resume g r l k ih=>exact λq=>q
 | yield v g l k ih=>exact λq=>trivial
 | stack k ih=>exact λq a=>ih a (q a)
 | fork c k ih=>exact λq=>trivial
 | thread k ih=>exact λq a=>ih a (q a)
 | await a t d l k ih=>exact λq=>trivial
theorem KD.ite{α:Type}{c:Prop}[Decidable c]{a b:Sem α}(ha:KD a)(hb:KD b):KD (if c then a else b):=by split <;> assumption
theorem sY{i:Nat}(hi:i≠2)(v:Value)(o:Obj):(Obj.mapFields (·.setIfInBounds i v) o).dict=o.dict/\f2 (Obj.mapFields (·.setIfInBounds i v) o)=f2 o:=by
 obtain⟨c,d,dt,sl⟩:=o;cases dt <;> first | exact⟨rfl,rfl⟩ | (refine⟨rfl,?_⟩;show (Array.setIfInBounds _ i v)[2]? = _;rw[Array.getElem?_setIfInBounds_ne hi];rfl)
theorem KD.then{α β:Type}{m:Sem α}{f:α->Sem β}(hm:KD m)(hf:∀a,KD (f a)):KD (m >>= f):=KD.bind hf m hm
theorem nZ(v:Value)(i:Nat):KD (field v i):=by
 unfold field fieldsOf load;repeat' first | exact trivial | exact λ_=>trivial | assumption | exact⟨sY (by assumption) _,trivial⟩ | exact⟨λ_=>⟨rfl,rfl⟩,trivial⟩ | refine KD.ite ?_ ?_ | refine KD.then ?_ λ_=>?_ | split
theorem sZ(v:Value){i:Nat}(hi:i≠2)(x:Value):KD (setField v i x):=by
 unfold setField updateField load update;repeat' first | exact trivial | exact λ_=>trivial | assumption | exact⟨sY (by assumption) _,trivial⟩ | exact⟨λ_=>⟨rfl,rfl⟩,trivial⟩ | refine KD.ite ?_ ?_ | refine KD.then ?_ λ_=>?_ | split
theorem s_(e:Value)(f:Option Addr):KD (setFlight e f):=by
 have h1:=nZ e 1;unfold setFlight;refine KD.then h1 λtb=>KD.ite ?_ ?_
 ·exact sZ _ (by decide) _
 ·trivial
theorem yO:∀l,KD (readyFrames l)
 | []=>trivial
 | env::outer=>by
  have ih:=yO outer;have hf:=λv i=>nZ v i;unfold readyFrames;split
  ·refine KD.then (λ_=>trivial) λo=>?_
   refine KD.ite trivial ?_;refine KD.then ?_ λi=>KD.then ?_ λb=>?_
   ·unfold behindIsImport;refine KD.ite trivial (KD.ite trivial ?_);exact KD.then (hf _ _) λ_=>(trivial:KD (.pure _))
   ·unfold keptBack underTheClaimsCaller stack;split
    ·refine KD.ite trivial ?_;refine KD.then ?_ λ_=>(trivial:KD (.pure _));exact λ_=>trivial
    ·trivial
   ·refine KD.then (m:=update _ _) ⟨λ_=>⟨rfl,rfl⟩,trivial⟩ λ_=>?_
    exact ih
  ·trivial
theorem E6(env:Env):KD (PySem.frameOf env):=by
 unfold PySem.frameOf;refine KD.then ?_ λl=>?_
 ·unfold frameEnvs stack;exact λ_=>trivial
 ·refine KD.then ?_ λa=>?_
  ·unfold frameObject;split
   ·trivial
   ·refine KD.then (yO _) λ_=>?_
    trivial
  ·split <;> trivial
theorem E7(ty:String)(vs:List Value):KD (newFields ty vs):=by
 unfold newFields newObj newObjAsIs alloc;repeat' first | exact trivial | exact λ_=>trivial | assumption | exact⟨sY (by assumption) _,trivial⟩ | exact⟨λ_=>⟨rfl,rfl⟩,trivial⟩ | refine KD.ite ?_ ?_ | refine KD.then ?_ λ_=>?_ | split
theorem E8(f:Addr)(b:Bool):KD (entryPlaceOf f b):=by
 unfold entryPlaceOf;refine KD.then (m:=stack) (λ_=>trivial) λl=>?_
 split <;> trivial
theorem yP(e:Value)(env:Env):KD (noteFrame e env):=by
 have last:∀head f,KD (do setField e 1 (← EntryCells.newEntry head (← PySem.frameOf env) .none (rawInt f) .none (← entryPlaceOf f (head != .none)))):=λhead f =>
  KD.then (E6 _) λa=>KD.then (E8 _ _) λp=>KD.then (E7 _ _) λx=>sZ _ (by decide) _
 unfold noteFrame;split
 ·refine KD.then (nZ _ _) λhead=>?_
  refine KD.ite ?_ ?_
  ·refine KD.then (nZ _ _) λx=>?_
   refine KD.ite trivial ?_;refine KD.then (sZ _ (by decide) _) λ_=>?_
   exact last _ _
  ·exact last _ _
 ·trivial
theorem yQ(env:Env)(e:Value):KD (leaving env e):=KD.then (yP _ _) λ_=>s_ _ _
noncomputable def dw(h:Heap)(a:Addr)(od:Option Addr):Prop:=∃oe,h.get? a=some oe/\oe.dict=od.map (· / 2)/\∀k,od=some k->k % 2=0->f2 oe=some .none
theorem dw.dk{h h':Heap}{a:Addr}{od:Option Addr}(x:dw h a od)(k:Dk h h')(th:∃o,h'.get? a=some o):dw h' a od :=
 let ⟨_,e,d,c⟩:=x;let ⟨o',e'⟩:=th;⟨o',e',(k.at e e').1.trans d,λj z y=>(k.at e e').2.trans (c j z y)⟩
section
variable{M:Model}{A:Around}{E:Value->Shared->Prop}{s:Shared}{base:Heap}{env:Env}{l outer:List Env}{L e:Addr}{cls a0:Value}{od:Option Addr}{Q:Unit->Shared->Prop}
theorem E9(lg:A.frames=some (env::outer))(hf:env.frame=some L)(tu:Heap.FlyingW base (env::outer) e cls a0 s.heap)(hd:dw s.heap e od)
  (hQ:∀h',Heap.FlyingW base outer e cls a0 h'->s.heap.UpToSlots h'->dw h' e od->Q () { s with heap:=h' }):wpAny M A (leaving env (.ref e)) Q E s:=by
 refine wpAny_mono ((yQ env (.ref e)).any (wpAny_leaves_onW (E:=E) (Q:=λ_ s2=>∃h',Heap.FlyingW base outer e cls a0 h'/\s.heap.UpToSlots h'/\s2 = { s with heap:=h' }) lg hf tu λh' x1 x2=>⟨h',x1,x2,rfl⟩)) (λu s2 z=>?_) λ_ _ z=>z.1;obtain⟨⟨h',x1,x2,rfl⟩,k⟩:=z;obtain⟨o,q,_⟩:=x1.there;exact hQ h' x1 x2 (hd.dk k ⟨o,q⟩)
theorem E_(lg:A.frames=some (env::outer))(hf:env.frame=some L)(tu:Heap.FlyingW base (env::outer) e cls a0 s.heap)(hd:dw s.heap e od)
  (hQ:∀h',Heap.HeldW base (env::outer) e cls a0 L h'->s.heap.UpToSlots h'->dw h' e od->Q () { s with heap:=h' }):wpAny M A (noteFrame (.ref e) env) Q E s:=by
 refine wpAny_mono ((yP (.ref e) env).any (wpAny_looks_onW (E:=E) (Q:=λ_ s2=>∃h',Heap.HeldW base (env::outer) e cls a0 L h'/\s.heap.UpToSlots h'/\s2 = { s with heap:=h' }) lg hf tu λh' x1 x2=>⟨h',x1,x2,rfl⟩)) (λu s2 z=>?_) λ_ _ z=>z.1;obtain⟨⟨h',x1,x2,rfl⟩,k⟩:=z;obtain⟨o,q,_⟩:=x1.there;exact hQ h' x1 x2 (hd.dk k ⟨o,q⟩)
theorem Fb(hh:Heap.HeldW base l e cls a0 L s.heap)(hd:dw s.heap e od)
  (hQ:∀h',Heap.FlyingW base l e cls a0 h'->s.heap.UpToSlots h'->dw h' e od->Q () { s with heap:=h' }):wpAny M A (setFlight (.ref e) none) Q E s:=by
 refine wpAny_mono ((s_ (.ref e) none).any (wpAny_landsW (E:=E) (Q:=λ_ s2=>∃h',Heap.FlyingW base l e cls a0 h'/\s.heap.UpToSlots h'/\s2 = { s with heap:=h' }) hh λh' x1 x2=>⟨h',x1,x2,rfl⟩)) (λu s2 z=>?_) λ_ _ z=>z.1;obtain⟨⟨h',x1,x2,rfl⟩,k⟩:=z;obtain⟨o,q,_⟩:=x1.there;exact hQ h' x1 x2 (hd.dk k ⟨o,q⟩)
theorem Fc(hh:Heap.FlyingW base l e cls a0 s.heap)(hd:dw s.heap e od)
  (hQ:∀h',Heap.FlyingW base l e cls a0 h'->s.heap.UpToSlots h'->dw h' e od->Q () { s with heap:=h' }):wpAny M A (setFlight (.ref e) none) Q E s:=by
 refine wpAny_mono ((s_ (.ref e) none).any (lands_againW (E:=E) (Q:=λ_ s2=>∃h',Heap.FlyingW base l e cls a0 h'/\s.heap.UpToSlots h'/\s2 = { s with heap:=h' }) hh λh' x1 x2=>⟨h',x1,x2,rfl⟩)) (λu s2 z=>?_) λ_ _ z=>z.1;obtain⟨⟨h',x1,x2,rfl⟩,k⟩:=z;obtain⟨o,q,_⟩:=x1.there;exact hQ h' x1 x2 (hd.dk k ⟨o,q⟩)
theorem Fd{oe:Obj}{vs:Array Value}(lg:A.frames=some (env::outer))(hf:env.frame=some L)(Fe:base.StaysIn s.heap)(hl:s.heap.FunFrames base (env::outer))(he:s.heap.get? e=some oe)(yR:base.get? e=none)
  (Ff:oe.data = .fields vs) (h1:vs[1]? = some .none) (h0:vs[0]? = some a0) (hd:dw s.heap e od)
  (hQ:∀h',Heap.FlyingW base outer e oe.cls a0 h'->s.heap.UpToSlots h'->dw h' e od->Q () { s with heap:=h' }):wpAny M A (leaving env (.ref e)) Q E s:=by
 refine wpAny_mono ((yQ env (.ref e)).any (wpAny_leaving_firstW (E:=E) (Q:=λ_ s2=>∃h',Heap.LeftW base (env::outer) e oe.cls a0 s.heap h'/\s2 = { s with heap:=h' }) lg hl hf he Fe yR Ff h1 h0 λh' x=>⟨h',x,rfl⟩)) (λu s2 z=>?_) λ_ _ z=>z.1;obtain⟨⟨h',⟨k1,⟨_,_,k2⟩,k3,k4⟩,rfl⟩,k⟩:=z;have fl:Heap.FlyingW base outer e oe.cls a0 h':=⟨k1,yR,k2,k3⟩;obtain⟨o,q,_⟩:=fl.there;exact hQ h' fl k4 (hd.dk k ⟨o,q⟩)
end
theorem bD.there{P:Program}{w:World}{H:Hp}{h:Heap}{a:Addr}{o:HO}(x:bD P w H h)(e:H a=some o):∃u,h.get? a=some u:=by
 have x:=x a o e;cases o with
 | lst xs=>obtain⟨_,_,_,_,e⟩:=x;exact⟨_,e⟩
 | tup xs=>obtain⟨_,_,_,ob,e,_⟩:=x;exact⟨_,e⟩
 | dK az=>obtain⟨_,_,_,_,o,_,_,e,_⟩:=x;exact⟨_,e⟩
 | dT az=>obtain⟨_,_,_,_,o,_,_,e,_⟩:=x;exact⟨_,e⟩
 | set S n=>obtain⟨o,_,_,_,e,_⟩:=x;exact⟨_,e⟩
 | ins C dx fs=>obtain⟨_,_,_,e,_⟩:=x;exact⟨_,e⟩
 | own y=>obtain⟨_,e⟩:=x;exact⟨_,e⟩
 | xd fs=>obtain⟨_,⟨_,_,_,e,_⟩,_⟩:=x;exact⟨_,e⟩
 | mJ lo hi=>obtain⟨_,_,_,e⟩:=x;exact⟨_,e⟩
 | dg ob u=>obtain⟨e,_⟩:=x;exact⟨_,e⟩
 | iC ps=>exact⟨_,(show h.get? a=some _ from x)⟩
 | met f y=>exact⟨_,(show h.get? a=some _ from x)⟩
 | ext φ=>obtain⟨_,⟨_,e⟩,_⟩:=x;exact⟨_,e⟩
structure Cut(base B:Heap)(outer:List Env)(H H':Hp)(h:Heap):Prop where
 stays:base.StaysIn B
 k1:∀b o,h.get? b=some o->H b=none->b∉bE outer->B.get? b=some o
 k2:∀b u,H' b=some u->∃o,B.get? b=some o
 k3:∀b o,h.get? b=some o->b∉bE outer->∃o',B.get? b=some o'
noncomputable def c9(P:Program)(w:World)(base:Heap):dj:=λouter H s E e s' =>
 ∃a C a0 H' B od,e = .ref a/\s'.os=s.os/\AllBare s'.gens/\Un (bE outer) [] H H' s.heap s'.heap/\bD P w H' s'.heap/\H' a=none/\s.heap.get? a=none/\
  Cut base B outer H H' s.heap/\Heap.FlyingW B outer a (.ref C) a0 s'.heap/\dw s'.heap a od/\E (.ref C) od H'
section
variable{P:Program}{w:World}{K:PySem.W.Frag}{mg:Str->Option Value}{base B:Heap}{N:List Str}{qual:Str}{scope:Scope}{f:Addr}{cd:Value}{A:Around}{outer:List Env}{aR sc s':Shared}{cZ Hc H':Hp}{E:XK}
 {pins:List (Addr×Obj)} {σ:St} {a C:Addr} {a0:Value} {h':Heap} {od:Option Addr}
theorem yS:bE (envOfC qual scope aR.heap.objs.size f cd::outer)=aR.heap.objs.size::bE outer:=rfl
theorem yT(I:Inv (eB (c9 P w base) P w K mg base N qual scope f cd A outer aR cZ E) pins σ Hc sc)(u:Un (bE (envOfC qual scope aR.heap.objs.size f cd::outer)) [] Hc H' sc.heap s'.heap)(ho:s'.os=sc.os)(hg:AllBare s'.gens)(aD:bD P w H' s'.heap)
  (na:H' a=none) (nh:sc.heap.get? a=none) (c:Cut base B (envOfC qual scope aR.heap.objs.size f cd::outer) Hc H' sc.heap) (kB:B.StaysIn s'.heap) (cP:Heap.FlyingW B outer a (.ref C) a0 h') (up:s'.heap.UpToSlots h') (hd:dw h' a od) (hE:E (.ref C) od H') :
  c9 P w base outer cZ aR E (.ref a) { s' with heap:=h' }:=by
 have J:=I.rz ho u aD hg (λ_ z=>nomatch z);have bs:Un (bE outer) [] cZ Hc aR.heap sc.heap:=I.base;have lq:Un (bE outer) [] cZ H' aR.heap s'.heap:=J.base;have nl:∀b o,aR.heap.get? b=some o->b∉bE outer->b∉bE (envOfC qual scope aR.heap.objs.size f cd::outer):=λb o q n z=>by
  rw[yS] at z;rcases List.mem_cons.mp z with e | z
  ·exact absurd (Heap.lt_size q) (by rw[e];exact Nat.lt_irrefl _)
  ·exact n z
 have k1:∀b o,aR.heap.get? b=some o->cZ b=none->b∉bE outer->B.get? b=some o:=λb o q n hb =>
  c.k1 b o (bs.keep b o q n hb (by simp)) (bs.free b o q n (by simp)) (nl b o q hb)
 have k3:∀b o,aR.heap.get? b=some o->b∉bE outer->∃o',B.get? b=some o':=λb o q hb =>
  let ⟨o1,q1⟩:=bs.there b o q (by simp);c.k3 b o1 q1 (nl b o q hb)
 have sl:∀b o,aR.heap.get? b=some o->cZ b=none->b∈bE outer->∃sl,h'.get? b=some { o with slots:=sl }:=λb o q n hb=>by
  obtain⟨sl,q1⟩:=lq.slot b o q n hb (by simp)
  obtain⟨_,o2,q2,nf⟩:=I.ok.dz.mem hb;have q2:aR.heap.get? b=some o2:=q2;rw[q] at q2;cases q2;obtain⟨tw,q3⟩:=up b _ q1 nf;exact⟨tw,q3⟩
 refine⟨a,C,a0,H',B,od,rfl,J.os,hg,⟨λb o q n hb _=>cP.1 _ _ (k1 b o q n hb),λb o q n hb _=>sl b o q n hb,lq.free,λb o q _=>?_,lq.fB,lq.eT,lq.fD⟩,λb v e=>?_,na,?_,⟨c.stays,k1,c.k2,k3⟩,cP,hd,hE⟩
 ·by_cases hb:b∈bE outer
  ·obtain⟨sl,q1⟩:=sl b o q (I.ok.fU b hb) hb;exact⟨_,q1⟩
  ·obtain⟨o',q1⟩:=k3 b o q hb;exact⟨o',cP.1 _ _ q1⟩
 ·refine(aD b v e).fT (λd z hd q=>?_) (λ_ q=>q) λ_ _ q=>q;have tr:∃v',H' d=some v':=by
   rcases hd with rfl | hd
   ·exact⟨_,e⟩
   ·exact⟨_,hd⟩
  obtain⟨v',e'⟩:=tr;obtain⟨o,q1⟩:=c.k2 d v' e';have:=kB d o q1;rw[q] at this;cases this;exact cP.1 _ _ q1
 ·cases q:aR.heap.get? a with
  | none=>rfl
  | some o =>
   obtain⟨o1,q1⟩:=bs.there a o q (by simp)
   rw[nh] at q1;cases q1
theorem n_:Passes (c9 P w base) (eB (c9 P w base) P w K mg base N qual scope f cd A outer aR cZ E) E:=by
 intro pins σ H s e s' I hx;obtain⟨a,C,a0,H',B,od,rfl,ho,hg,u,aD,na,nh,c,cP,hd,hE⟩:=hx
 show wpAny _ _ (leaving _ _) _ _ _;exact E9 I.ok.frames rfl cP hd λh' x1 x2 x3=>yT I u ho hg aD na nh c cP.1 x1 x2 x3 hE
theorem Fg{h1:Heap}{vs:List Value}(I:Inv (eB (c9 P w base) P w K mg base N qual scope f cd A outer aR cZ E) pins σ Hc sc)(hx:Heap.MadeExcOf sc.heap h1 a (.ref C) vs)(hE:E (.ref C) none Hc) :
  (eB (c9 P w base) P w K mg base N qual scope f cd A outer aR cZ E).xe (.ref a) { sc with heap:=h1 }:=by
 show wpAny _ _ (leaving _ _) _ _ _;have fr:sc.heap.FunFrames base (envOfC qual scope aR.heap.objs.size f cd::outer):=I.stack;have free:∀b∈bE (envOfC qual scope aR.heap.objs.size f cd::outer),Hc b=none:=λb hb=>by
  rw[yS] at hb;rcases List.mem_cons.mp hb with rfl | hb
  ·exact I.free
  ·obtain⟨_,o,q,_⟩:=I.ok.dz.mem hb;exact I.base.free b o q (I.ok.fU b hb) (by simp[eB])
 have nb:∀b o,base.get? b=some o->b∉bE (envOfC qual scope aR.heap.objs.size f cd::outer):=λb o q hm=>by
  have z:=(fr.mem hm).1;rw[q] at z;cases z
 have c:Cut base (PySem.W.hideAll sc.heap (bE (envOfC qual scope aR.heap.objs.size f cd::outer))) (envOfC qual scope aR.heap.objs.size f cd::outer) Hc Hc sc.heap :=
  ⟨λb o q=>PySem.W.hideAll_get _ (I.bk b o q) (nb b o q),
   λb o q _ hb=>PySem.W.hideAll_get _ q hb,
   λb v e=>let ⟨o,q⟩:=I.aD.there e;⟨o,PySem.W.hideAll_get _ q λhm=>(Option.some_ne_none v (e.symm.trans (free b hm))).elim⟩,
   λb o q hb=>⟨o,PySem.W.hideAll_get _ q hb⟩⟩
 have na:Hc a=none:=by
  cases e:Hc a with
  | none=>rfl
  | some v =>
   obtain⟨o,q⟩:=I.aD.there e;rw[hx.new] at q;cases q
 obtain⟨t,he,LM,ht⟩:=hx.there;refine Fd (s:={ sc with heap:=h1 }) (e:=a) (oe:={ cls:=.ref C,data:=.fields #[.ref t,.none,.none,.none,.bool false,.none] }) (a0:=.ref t) I.ok.frames rfl (base:=PySem.W.hideAll sc.heap (bE (envOfC qual scope aR.heap.objs.size f cd::outer))) (λb o q=>hx.keeps b o (PySem.W.of_hideAll _ q))
  ((PySem.W.funFrames_hide fr λenv he b hb=>List.mem_filterMap.mpr ⟨env,he,hb⟩).of_keeps λb o hb _=>⟨o,hx.keeps b o hb,rfl⟩) he ?_ rfl rfl rfl (od:=none) ⟨_,he,rfl,λ_ z=>nomatch z⟩ λh' x1 x2 x3=>?_
 ·cases q:(PySem.W.hideAll sc.heap (bE (envOfC qual scope aR.heap.objs.size f cd::outer))).get? a with
  | none=>rfl
  | some o=>have:=PySem.W.of_hideAll _ q;rw[hx.new] at this;cases this
 exact yT (s':={ sc with heap:=h1 }) I (Un.kept hx.keeps) rfl I.bare (I.aD.kept hx.keeps) na hx.new c (λb o q=>hx.keeps b o (PySem.W.of_hideAll _ q)) x1 x2 x3 hE
end
theorem Fi{K:PySem.W.Frag}{h₀:Heap}{C:Addr}{e9:List Value}{newId:String}(X:K.In h₀)(q:PySem.W.excIn K C e9 newId=true) :
  ∃bm N nm q bs hdct sn sub ab col dd k0 k1 k2 k3 k5 mN,h₀.get? C=some (excClassObj nm q C N bs bm hdct sn sub ab col dd k0 k1 k2 k3 k5 newId)/\h₀.Ns N mN/\mN "__init__" = none/\OwnTail h₀ e9 bm:=by
 unfold PySem.W.excIn at q;cases e:K.lookup C with
 | none=>rw[e] at q;cases q
 | some o =>
  rw[e] at q;split at q
  ·rename_i dd cd sl ho;cases ho;split at q
   ·rename_i C' bm k0 k1 k2 k3 n k5 hm hs;simp only[Bool.and_eq_true,beq_iff_eq,Bool.not_eq_true'] at q;obtain⟨⟨⟨⟨⟨c1,c2⟩,c3⟩,c4⟩,c5⟩,c6⟩:=q;obtain⟨nm,bs,mro,ns,qn,hd,sn,sub,ab,col,del⟩:=cd;obtain⟨l⟩:=sl;dsimp only at hm hs c3 c5 c6;subst c1 c2 hm c3 hs;exact⟨bm,ns,nm,qn,bs,hd,sn,sub,ab,col,dd,k0,k1,k2,k3,k5,_,X _ _ e,.of_isNs (PySem.W.isNs_of_in X c5),PySem.W.nsMap_none_of_in X c5 c6,PySem.W.tail_of_in X c4⟩
   ·cases q
  ·cases q
noncomputable def Makes(X:Cx)(E:XK):Prop:=∀(pins:List (Addr×Obj)) (σ:St) (H:Hp) (s:Shared) (a C:Addr) (vs:List Value) (h1:Heap),Inv X pins σ H s->Heap.MadeExcOf s.heap h1 a (.ref C) vs->E (.ref C) none H->X.xe (.ref a) { s with heap:=h1 }
noncomputable def Fj(C:Addr)(E:XK)(t:TA):TS:=λ_ σ H=>t σ H λvs H1=>vs.length<=sizeLine/\E (.ref C) none H1
section
variable{X:Cx}{E:XK}{x:Str}{C:Addr}{bm:List Value}{newId gH B:String}{np dG pos:Pos}{jx:Expr}{rest:List Expr}{t:TA}
theorem fK(hx:Makes X E)(hg:Gl X x)(hm:X.mg x=some (.ref C))(q:PySem.W.excIn X.K C bm newId=true)(FB:ExcBaseFacts B newId gH bm)(hc:X.calm=true)(ha:PA X (jx::rest) t)
  (he:starEach (jx::rest) X.env=(false,eval jx X.env)::starEach rest X.env:=by rfl) (eu:(backTo dG (starEach rest X.env)).any (·.1)=false:=by rfl) (eX:(x == ("__debug__" : Str))=false:=by rfl) :
  PS X (.Raise (some (.Call (.Name x np) (jx::rest) [] dG)) none pos) (Fj C E t):=by
 intro pins s σ H D I h;obtain⟨tl,N,nm,q,bs,hdct,sn,sub,ab,col,dd,k0,k1,k2,k3,k5,mN,hC,hN,Fo,T⟩:=Fi I.mod.jL q;refine wpAny_Raise_call_subT (C:=C) (nm:=nm) (q:=q) (N:=N) (bs:=bs) (bm:=tl) (hdct:=hdct) (sn:=sn) (sub:=sub) (ab:=ab) (col:=col) (dd:=dd) (k0:=k0) (k1:=k1) (k2:=k2) (k3:=k3) (k5:=k5)
  FB (mN:=mN) (T.hasType FB.hasBase) (I.ok.hd hc) (by rw[he];show (false || (backTo dG (starEach rest X.env)).any (·.1))=false;rw[eu];rfl) Fo (jP I hg hm ⟨rfl,?_⟩ eX)
 have hA:=ha dG pins s σ H _ I h;rw[he] at hA ⊢;refine Calls.evalArgs_plain (wpAny_mono hA (λus iD sI=>?_) λ_ _ y=>y);obtain⟨vs,H1,J,r,hl,hE⟩:=sI;exact⟨rfl,by show us.length<=_;rw[← r.length];exact hl,J.bk _ _ hC,hN.keeps J.bk,T.keeps J.bk,λh' e mx=>hx pins σ H1 iD e C us h' J mx hE⟩
end
theorem Fp{base B:Heap}{l:List Env}{H H':Hp}{h h1 h':Heap}(u:Un (bE l) [] H H' h h1)(c:Cut base B l H H' h)(kB:B.StaysIn h')(up:h1.UpToSlots h')(ff:∀b∈bE l,H b=none/\∀o,h.get? b=some o->∀vs,o.data≠.fields vs) :
  Un (bE l) [] H H' h h':=by
 have sl:∀b o,h.get? b=some o->H b=none->b∈bE l->∃sl,h'.get? b=some { o with slots:=sl }:=λb o q n hb=>by
  obtain⟨sl,q1⟩:=u.slot b o q n hb (by simp)
  obtain⟨tw,q3⟩:=up b _ q1 ((ff b hb).2 o q);exact⟨tw,q3⟩
 refine⟨λb o q n hb _=>kB _ _ (c.k1 b o q n hb),λb o q n hb _=>sl b o q n hb,u.free,λb o q _=>?_,u.fB,u.eT,u.fD⟩;by_cases hb:b∈bE l
 ·obtain⟨sl,q1⟩:=sl b o q (ff b hb).1 hb;exact⟨_,q1⟩
 ·obtain⟨o',q1⟩:=c.k3 b o q hb;exact⟨o',kB _ _ q1⟩
theorem Fq{P:Program}{w:World}{base B:Heap}{l:List Env}{H H':Hp}{h h1 h':Heap}(aD:bD P w H' h1)(c:Cut base B l H H' h)(k1:B.StaysIn h1)(kB:B.StaysIn h'):bD P w H' h':=λb v e=>by
 refine(aD b v e).fT (λd z hd q=>?_) (λ_ q=>q) λ_ _ q=>q;have tr:∃v',H' d=some v':=by
  rcases hd with rfl | hd
  ·exact⟨_,e⟩
  ·exact⟨_,hd⟩
 obtain⟨v',e'⟩:=tr;obtain⟨o,q1⟩:=c.k2 d v' e';have:=k1 d o q1;rw[q] at this;cases this;exact kB _ _ q1
section
variable{X:Cx}{pins:List (Addr×Obj)}{σ:St}{H H':Hp}{s s':Shared}{a C:Addr}{h':Heap}{E:XK}
theorem Inv.ff(I:Inv X pins σ H s):∀b∈bE X.stack,H b=none/\∀o,s.heap.get? b=some o->∀vs,o.data≠.fields vs:=λb hb =>
 ⟨I.qY b hb,λo q=>by
  obtain⟨_,o2,q2,nf⟩:=I.stack.mem hb;rw[q] at q2;cases q2;exact nf⟩
noncomputable def Cx.within(X:Cx)(e:Value):Cx:={ X with A:=X.A.mark (some e),calm:=false,xe:=λ_ _=>False }
theorem Inv.within(I:Inv X pins σ H s)(e:Value):Inv (X.within e) pins σ H s :=
 ⟨⟨I.ok.mod,I.ok.kind,I.ok.glob,I.ok.blt,I.ok.above,I.ok.inj,I.ok.has,I.ok.iX,(λz=>nomatch z),I.ok.frames,I.ok.jM,I.ok.jN,I.ok.bs,I.ok.fE,I.ok.iY,I.ok.iZ,I.ok.dz,I.ok.fU⟩,
  I.os,I.bare,I.base,I.loc,I.cell,I.free,I.d8,I.pin,I.aD,I.len⟩
theorem Inv.out{e:Value}(I:Inv (X.within e) pins σ H s)(ok:X.Ok):Inv X pins σ H s :=
 ⟨ok,I.os,I.bare,I.base,I.loc,I.cell,I.free,I.d8,I.pin,I.aD,I.len⟩
noncomputable def tD(a C:Addr):HO:=.ext λh=>∃o,h.get? a=some o/\o.cls = .ref C
noncomputable def lu(a C:Addr):Option Addr->HO
 | none=>tD a C
 | some k=>.ext λh=>∃o,h.get? a=some o/\o.cls = .ref C/\o.dict=some (k / 2)/\∃vs,o.data = .fields vs/\(k % 2=0->vs[2]? = some .none)
theorem Inv.Ft{φ:Heap->Prop}(I:Inv X pins σ H s)(n:H a=none)(e0:X.aR.heap.get? a=none)(nL:a≠X.env.locals)(nc:∀x c,X.env.cells.lookup x=some c->c≠a)(np:∀p∈X.pn++pins,p.1≠a)(h:φ s.heap)(th:∃o,s.heap.get? a=some o)
  (st:∀h1 h2:Heap,φ h1->(∀o,h1.get? a=some o->h2.get? a=some o)->φ h2):Inv X pins σ (upd H a (.ext φ)) s:=by
 have ne:∀b v,H b=some v->b≠a:=λb v q z=>by rw[z,n] at q;cases q
 have up:∀b v,H b=some v->upd H a (.ext φ) b=some v:=λb v q=>by rw[aL (ne b v q)];exact q
 have un:∀b,b≠a->H b=none->upd H a (.ext φ) b=none:=λb z q=>by rw[aL z];exact q
 refine⟨I.ok,I.os,I.bare,⟨I.base.keep,I.base.slot,λb o q n' hx=>un b (λz=>by rw[z,e0] at q;cases q) (I.base.free b o q n' hx),I.base.there,λb xs q=>up b _ (I.base.fB b xs q),λb o u q=>up b _ (I.base.eT b o u q),λb ps q=>let ⟨m,z⟩:=I.base.fD b ps q;⟨m,up b _ z⟩⟩,
  I.loc,I.cell,un _ (Ne.symm nL) I.free,λx c q=>un c (nc x c q) (I.d8 x c q),λp hp=>let ⟨q1,q2,q3⟩:=I.pin p hp;⟨q1,un _ (np p hp) q2,q3⟩,λb v q=>?_,I.len⟩
 by_cases z:b=a
 ·subst z;rw[aE] at q;cases q;exact⟨h,th,st⟩
 ·rw[aL z] at q;exact(I.aD b v q).fT (λ_ _ _ e=>e) (λd e=>up d _ e) λd xs e=>up d _ e
end
noncomputable def XP(P:Program)(w:World)(base:Heap)(X:Cx)(pins:List (Addr×Obj))(σ:St)(E:XK)(e:Value)(s':Shared):Prop:=∃H1 s1,Inv X pins σ H1 s1/\c9 P w base X.stack H1 s1 E e s'
noncomputable def yU(X:Cx)(E:XK)(e:Expr)(t:TE):Prop :=
 ∀(pins:List (Addr×Obj)) (s:Shared) (σ:St) (H:Hp) (Q:VK),Inv X pins σ H s->t σ H Q->wpAny (model X.prog X.w) X.A (eval e X.env) (EP X pins σ Q) (XP X.prog X.w X.base X pins σ E) s
section
variable{X:Cx}{k:Nat}{f C:Addr}{fd:FuncData}{ps:List Str}{sp:Sp}{bO:List V}{ds:List Value}{E:XK}{x m:Str}{p pos apos:Pos}{e o:Expr}{es:List Expr}{ta:TE}{t:TA}
theorem Fv{pins:List (Addr×Obj)}{σ:St}{H:Hp}{s:Shared}{Q:VK}{us:List Value}{vs:List V}(M:Mk X.K C f)(F:bC X.prog X.w X.K X.mg X.base (c9 X.prog X.w X.base) k f fd ps sp)(hr:bU (k+1) X.A)(hb:Binds X.K fd ps ds)(hd:Vals bO ds)
  (I:Inv X pins σ H s) (r:Vals vs us) (h:∀x dx,H x=none->H dx=none->dx≠x->sp (.ref x::(vs++bO)) (upd (upd H dx (.own x)) x (.ins C dx [])) (λv H2=>v = .aG/\Q (.ref x) H2) E) :
  wpAny (model X.prog X.w) X.A (call (.ref C) us) (EP X pins σ Q) (XP X.prog X.w X.base X pins σ E) s:=by
 have hq:=h (s.heap.objs.size+1) s.heap.objs.size (I.aD.fresh (Nat.le_succ _)) (I.aD.fresh (Nat.le_refl _)) (Nat.ne_of_lt (Nat.lt_succ_self _));have I2:=Inv.made (C:=C) I;have r2:Vals (V.ref (s.heap.objs.size+1)::(vs++bO)) (Value.ref (s.heap.objs.size+1)::(us++ds)):=.cons rfl (r.append hd);refine wpAny_call (xj (f:=f) I.bR M.makes M.init (beq_iff_eq.mp M.fn) (codeAny_mono (F.run _ X.stack _ _ ⟨Value.ref (s.heap.objs.size+1)::us,[]⟩ (Value.ref (s.heap.objs.size+1)::(us++ds)) _ _ E (hr.make C us [])
  (I2.rO.make C us []) (hb _ (Value.ref (s.heap.objs.size+1)::us) I2.bR (r2.length.symm.trans (F.len _ _ _ _ hq))) r2 hq) λr s' dm=>?_))
 match r,dm with
 | .error e,dm=>exact⟨_,_,I2,dm⟩
 | .ok (.ret u),dm =>
  obtain⟨v,H',I3,rv,ev,q3⟩:=I2.after dm;subst ev;exact⟨rv,⟨V.ref (s.heap.objs.size+1),H',I3,rfl,q3⟩⟩
 | .ok .next,dm=>exact False.elim dm
 | .ok .brk,dm=>exact False.elim dm
 | .ok .cont,dm=>exact False.elim dm
theorem Fw(M:Mk X.K C f)(F:bC X.prog X.w X.K X.mg X.base (c9 X.prog X.w X.base) k f fd ps sp)(hr:bU (k+1) X.A)(hg:Gl X x)(hm:X.mg x=some (.ref C))(hb:Binds X.K fd ps ds)(hd:Vals bO ds)
  (ha:PA X.kC (e::es) t) (eX:(x == ("__debug__" : Str))=false:=by decide) (he:starEach (e::es) X.env=(false,eval e X.env)::starEach es X.env:=by rfl) (eu:(backTo pos (starEach es X.env)).any (·.1)=false:=by rfl) :
  yU X E (.Call (.Name x p) (e::es) [] pos) (xw C sp bO E t):=by
 intro pins s σ H Q I h;refine wpAny_Call_Name_kw (jP I hg hm ?_ eX);refine PySem.W.callWith_K (h₀:=X.base) I.ok.mod.jL M.kp (wpAny_mono (ha pos pins s σ H _ (I.fG _) h) (λus s1 ⟨vs,H1,I1,r,q⟩=>⟨I1.bR,?_⟩) λ_ _ z=>False.elim z) he eu;exact Fv M F hr hb hd I1.gT r q
end
theorem Fx{X:Cx}{P:Program}{w:World}{base:Heap}:Passes (c9 P w base) X E0:=λ_ _ _ _ _ _ _ h=>by
 obtain⟨_,_,_,_,_,_,_,_,_,_,_,_,_,_,_,_,z⟩:=h;exact z.elim
theorem fL{P:Program}{w:World}{K:PySem.W.Frag}{mg:Str->Option Value}{base:Heap}{N:List Str}{qual:Str}{scope:Scope}{f:Addr}{cd:Value}{A:Around}{outer:List Env}{aR:Shared}{cZ:Hp}{E:XK} :
  Makes (eB (c9 P w base) P w K mg base N qual scope f cd A outer aR cZ E) E:=λ_ _ _ _ _ _ _ _ I mx hE=>Fg I mx hE
theorem bq.lz{P:Program}{w:World}{K:PySem.W.Frag}{mg:Str->Option Value}{base:Heap}{x qual:Str}{st:Stmt}{f:Addr}{fd:FuncData}{N ps:List Str}{k:Nat}{sp:Sp}(F:bq K x qual st f fd)(S:cC N ps (bI st))(len:∀vs H Q E,sp vs H Q E->vs.length=ps.length)
  (kO:∀(aW:Value) (A:Around) (outer:List Env) (s:Shared) (H:Hp) (vs:List V) (Q:VK) (E:XK),bU k (A.deeper (envOfC qual (bI st) s.heap.objs.size f aW))->sp vs H Q E->
   ∃t,dN (eB (c9 P w base) P w K mg base N qual (bI st) f aW A outer s H E) (gC st) t/\t { nx:=λ_ H'=>Q .aG H',rt:=Q } (start N vs) H):bC P w K mg base (c9 P w base) (k+1) f fd ps sp:=by
 obtain⟨oc,od,kV,doc,pm,an,aW,ct,fW,rfl,lk,cL⟩:=F.ex;exact xG lk cL S len λA outer s H vs Q E hr gA=>kO aW A outer s H vs Q E hr gA
noncomputable def yV(X:Cx)(E:XK)(st:Stmt)(t:TS):Prop :=
 ∀(pins:List (Addr×Obj)) (s:Shared) (σ:St) (H:Hp) (D:Ends),Inv X pins σ H s->t D σ H->wpAny (model X.prog X.w) X.A (exec st X.env) (SP X pins D) (XP X.prog X.w X.base X pins σ E) s
section
variable{X:Cx}{E:XK}{e:Expr}{te:TE}{pos:Pos}
theorem Fy(he:yU X E e te)(hs:swapsWith e none pos.line X.env=pure false:=by rfl):yV X E (.Expr e pos) (wQ te):=by
 intro pins s σ H D I h;exact wpAny_Expr_any (aJ (he pins s σ H _ I h) λv s1 ⟨x,H1,I1,r1,q1⟩=>⟨σ,H1,I1,q1⟩) I.quiet hs
end
structure Fl(X:Cx)(pins:List (Addr×Obj))(σ:St)(a C:Addr)(a0:Value)(H1:Hp)(s1:Shared)(H':Hp)(B:Heap)(od:Option Addr)(s':Shared):Prop where
 I:Inv X pins σ H1 s1
 ho:s'.os=s1.os
 hg:AllBare s'.gens
 u:Un (bE X.stack) [] H1 H' s1.heap s'.heap
 aD:bD X.prog X.w H' s'.heap
 na:H' a=none
 nh:s1.heap.get? a=none
 c:Cut X.base B X.stack H1 H' s1.heap
 cP:Heap.FlyingW B X.stack a (.ref C) a0 s'.heap
 hd:dw s'.heap a od
section
variable{X:Cx}{pins:List (Addr×Obj)}{σ:St}{a C:Addr}{a0:Value}{H1 H':Hp}{s1 s':Shared}{B h':Heap}{od:Option Addr}
theorem Fl.move(x:Fl X pins σ a C a0 H1 s1 H' B od s')(cP:Heap.FlyingW B X.stack a (.ref C) a0 h')(up:s'.heap.UpToSlots h')(hd:dw h' a od):Fl X pins σ a C a0 H1 s1 H' B od { s' with heap:=h' } :=
 ⟨x.I,x.ho,x.hg,Fp x.u x.c cP.1 up x.I.ff,Fq x.aD x.c x.cP.1 cP.1,x.na,x.nh,x.c,cP,hd⟩
theorem Fl.inv(x:Fl X pins σ a C a0 H1 s1 H' B od s'):Inv X pins σ H' s':=x.I.rz x.ho x.u x.aD x.hg (λ_ z=>nomatch z)
theorem Fl.tracked(x:Fl X pins σ a C a0 H1 s1 H' B od s')(hex:X.ex = []):Inv X pins σ (upd H' a (lu a C od)) s':=by
 have no:∀b o,s1.heap.get? b=some o->b≠a:=λb o q z=>by rw[z,x.nh] at q;cases q
 obtain⟨m,⟨oL,_,_,q_,_⟩,_⟩:=x.I.loc;have f1:X.aR.heap.get? a=none:=by
  cases q:X.aR.heap.get? a with
  | none=>rfl
  | some o =>
   obtain⟨o1,q1⟩:=x.I.base.there a o q (by rw[hex];simp)
   rw[x.nh] at q1;cases q1
 have f2:∀y c,X.env.cells.lookup y=some c->c≠a:=λy c e=>by
  obtain⟨v,o,q,_⟩:=x.I.cell y c e;exact no _ _ q
 have tr:=λφ=>x.inv.Ft (φ:=φ) x.na f1 (Ne.symm (no _ _ q_)) f2 (λp hp=>no _ _ (x.I.pin p hp).1);have th:∃o,s'.heap.get? a=some o:=let ⟨o,q,_⟩:=x.cP.there;⟨o,q⟩
 cases od with
 | none=>exact tr _ x.cP.there th λh1 h2 ⟨o,q,z⟩ k=>⟨o,k o q,z⟩
 | some d =>
  refine tr _ ?_ th λh1 h2 ⟨o,q,z⟩ k=>⟨o,k o q,z⟩;obtain⟨o,vs,q,z,y,_⟩:=x.cP.first;obtain⟨o',q',z',c'⟩:=x.hd;rw[q] at q';cases q';refine⟨o,q,z,z',vs,y,λhk=>?_⟩
  have:=c' _ rfl hk;unfold _L.f2 at this;rw[y] at this;exact this
end
section
variable{X:Cx}{pins:List (Addr×Obj)}{σ:St}{H:Hp}{s:Shared}
theorem oh{M:Model}{A:Around}{E:Value->Shared->Prop}{i:Nat}{n:Str}{pos:Pos}{Q:Unit->Shared->Prop}(I:Inv X pins σ H s)(hN:X.N.Nodup)(hi:X.N[i]? = some n)(hk:X.env.kindOf n=some .local)
  (h:∀s',Inv X pins (σ.set i none) H s'->Q () s'):wpAny M A (do bindName X.env n .none;unbindBehindTheSuite X.env n pos) Q E s:=by
 obtain⟨m,hn,hl⟩:=id I.loc;have ku:(X.env.scope.kind == .class || (X.env.scope.kind == .module && X.env.locals != X.env.globals))=false:=by rw[I.ok.kind];rfl
 have fV:=I.fV;refine wpAny_nameGoes_keeps hk hn ku λh' v jO hs=>?_;have old:∀b o,X.aR.heap.get? b=some o->h'.get? b=s.heap.get? b:=λb o e=>hs.2 b (Nat.ne_of_lt (Nat.lt_of_lt_of_le (Heap.lt_size e) I.ok.above));refine h _ ⟨I.ok,I.os,I.bare,⟨λb o e n hb hx=>?_,λb o e n hb hx=>?_,I.base.free,λb o e hx=>?_,I.base.fB,I.base.eT,I.base.fD⟩,⟨_,jO,λj y v' e1 e2 e3=>?_⟩,λy c e=>?_,I.free,I.d8,λp hp=>?_,λb ob e=>?_,by simpa using I.len⟩
 ·exact(old b o e).trans (I.base.keep b o e n hb hx)
 ·obtain⟨sl,e1⟩:=I.base.slot b o e n hb hx;exact⟨sl,(old b o e).trans e1⟩
 ·obtain⟨o',e1⟩:=I.base.there b o e hx;exact⟨o',(old b o e).trans e1⟩
 ·by_cases hj:j=i
  ·subst hj;rw[List.getElem?_set] at e2;simp only[if_true] at e2;split at e2 <;> cases e2
  ·rw[List.getElem?_set_ne (Ne.symm hj)] at e2;obtain⟨u',r',q⟩:=hl j y v' e1 e2 e3;refine⟨u',r',?_⟩;rcases q with⟨k,e⟩ | ⟨k,c,e,z⟩
   ·refine .inl ⟨k,?_⟩;have:y≠n:=λe=>hj (q9 hN e1 (e▸hi));simp[this,e]
   ·exact .inr ⟨k,c,e,z.sameBut hs (fV y c e)⟩
 ·obtain⟨w',z⟩:=I.cell y c e;exact⟨w',z.sameBut hs (fV y c e)⟩
 ·obtain⟨e,n,ne,nf,d⟩:=I.pin p hp;exact⟨(hs.2 p.1 ne).trans e,n,ne,nf,d⟩
 ·refine(I.aD b ob e).fT (λc w' hc q=>(hs.2 c ?_).trans q) (λ_ q=>q) λ_ _ q=>q;rintro rfl;rcases hc with z | hc
  ·rw[← z,I.free] at e;cases e
  ·rw[I.free] at hc;cases hc
end
noncomputable def mroIn(K:PySem.W.Frag)(C:Addr):List Value:=match K.lookup C with
 | some ⟨_,_,.cls cd,_⟩=>cd.mro
 | _=>[]
noncomputable def subIn(K:PySem.W.Frag)(C:Addr)(c:Value):Bool:=(mroIn K C).contains c
theorem gI{K:PySem.W.Frag}{C:Addr}{c:Value}{b:Bool}(h:PySem.W.mroIn K C c=some b):subIn K C c=b:=by
 unfold PySem.W.mroIn PySem.W.clsIn at h;unfold subIn mroIn;cases e:K.lookup C with
 | none=>rw[e] at h;cases h
 | some o =>
  rw[e] at h;obtain⟨c0,d0,dt,sl⟩:=o;cases dt <;> first | (cases h;done) | skip
  simp only[Option.bind_some] at h;split at h
  ·cases h
  ·exact Option.some.inj h
theorem Fz{K:PySem.W.Frag}{C:Addr}{c:Value}{b:Bool}(h:PySem.W.mroIn K C c=some b):(PySem.W.clsIn K C).isSome=true:=by
 unfold PySem.W.mroIn at h;cases e:PySem.W.clsIn K C with
 | none=>rw[e] at h;cases h
 | some cd=>rfl
noncomputable def oq(K:PySem.W.Frag)(C:Addr)(e9:List Value)(newId:String):Bool:=match K.lookup C with
 | some ⟨.type "type",_,.cls cd,sl⟩=>(match cd.mro,sl.toList with
  | .ref C'::bm,[_,_,_,_,some (.builtin n),_]=>C' == C && n == newId && !cd.hasDel && PySem.W.tailIn K e9 bm && PySem.W.nsOkIn K cd.ns
  | _,_=>false)
 | _=>false
theorem FA{K:PySem.W.Frag}{C:Addr}{e9:List Value}{newId:String}(q:PySem.W.excIn K C e9 newId=true):oq K C e9 newId=true:=by
 unfold PySem.W.excIn at q;unfold oq;cases e:K.lookup C with
 | none=>rw[e] at q;cases q
 | some o =>
  rw[e] at q;split at q
  ·rename_i dd cd sl ho;cases ho;split at q
   ·rename_i C' bm k0 k1 k2 k3 n k5 hm hs;simp only[Bool.and_eq_true] at q;simp only[hm,hs,Bool.and_eq_true];exact q.1
   ·cases q
  ·cases q
structure cK(K:PySem.W.Frag)(C:Addr):Prop where
 ex:∃bm id,oq K C bm id=true/\bm.contains (.type "BaseException")=true
theorem cK.of{K:PySem.W.Frag}{C:Addr}{bm:List Value}{id:String}(q:PySem.W.excIn K C bm id=true)(h:bm.contains (.type "BaseException")=true):cK K C:=⟨bm,id,FA q,h⟩
theorem yW{K:PySem.W.Frag}{h₀:Heap}{C:Addr}(X:K.In h₀)(x:cK K C) :
  ∃bm N nm q bs hdct sn sub ab col dd k0 k1 k2 k3 k5 newId,h₀.get? C=some (excClassObj nm q C N bs bm hdct sn sub ab col dd k0 k1 k2 k3 k5 newId)/\mroIn K C = .ref C::bm/\bm.contains (.type "BaseException")=true:=by
 obtain⟨e9,newId,q,hb⟩:=x.ex;unfold oq at q;unfold mroIn;cases e:K.lookup C with
 | none=>rw[e] at q;cases q
 | some o =>
  rw[e] at q;split at q
  ·rename_i dd cd sl ho;cases ho;split at q
   ·rename_i C' bm k0 k1 k2 k3 n k5 hm hs;simp only[Bool.and_eq_true,beq_iff_eq,Bool.not_eq_true'] at q;obtain⟨⟨⟨⟨c1,c2⟩,c3⟩,c4⟩,c5⟩:=q;obtain⟨nm,bs,mro,ns,qn,hd,sn,sub,ab,col,del⟩:=cd;obtain⟨l⟩:=sl;dsimp only at hm hs c3 c5;subst c1 c2 hm c3 hs;exact⟨bm,ns,nm,qn,bs,hd,sn,sub,ab,col,dd,k0,k1,k2,k3,k5,n,X _ _ e,rfl,(PySem.W.tail_of_in X c4).hasType hb⟩
   ·cases q
  ·cases q
theorem FD{M:Model}{A:Around}{E:Value->Shared->Prop}{K:PySem.W.Frag}{s:Shared}{e C C2:Addr}{oe:Obj}{Q:Bool->Shared->Prop}(X:K.In s.heap)(x:cK K C)(y:cK K C2)(he:s.heap.get? e=some oe)(ku:oe.cls = .ref C)
  (hq:Q (subIn K C (.ref C2)) s):wpAny M A (excMatches (.ref e) (.ref C2)) Q E s:=by
 obtain⟨bm,N,nm,q,bs,hdct,sn,sub,ab,col,dd,k0,k1,k2,k3,k5,newId,hC,hm,_⟩:=yW X x;obtain⟨FE,N2,LN,q2,LO,LP,LQ,LR,LS,LU,LV,LW,LX,LY,LZ,L4,L5,yX,L6,FF⟩:=yW X y;have FG:(Value.ref C2::FE).contains (.type "BaseException")=true:=by rw[List.contains_cons,FF,Bool.or_true]
 unfold subIn at hq;rw[hm] at hq;have f:=tc_notTuple;obtain⟨h,g,d,t,os⟩:=s;unfold excMatches
 repeat (first | (with_reducible refine wpAny_loadPart_at he ?_;rw[ku]) | with_reducible refine wpAny_loadPart_at yX ?_ | (with_reducible refine wpAny_isSubtype_exc yX ?_;rw[FG]) | (with_reducible refine wpAny_isSubtype_exc hC ?_) | wp_step)
 all_goals first | exact hq | (cases hh:(Value.ref C::bm).contains (.ref C2) <;> (rw[hh] at hq;wp_walk;exact hq))
noncomputable abbrev TH:=Option Addr->Addr->Addr->Ends->St->Hp->Prop
noncomputable def PH(X:Cx)(hs:List ExceptHandler)(t:TH):Prop :=
 ∀(pins:List (Addr×Obj)) (σ:St) (a C:Addr) (a0:Value) (H1:Hp) (s1:Shared) (H':Hp) (B:Heap) (od:Option Addr) (s':Shared) (D:Ends) (E:Value->Shared->Prop),Fl X pins σ a C a0 H1 s1 H' B od s'->cK X.K C->t od C a D σ H'->
  wpAny (model X.prog X.w) X.A (handleBy (.ref a) X.env hs) (SP X pins D) E s'
theorem FH{X:Cx}:PH X [] (λ_ _ _ _ _ _=>False):=λ_ _ _ _ _ _ _ _ _ _ _ _ _ _ _ h=>h.elim
noncomputable def yY(i:Nat)(D:Ends):Ends:={ nx:=λσ H=>D.nx (σ.set i none) H,rt:=D.rt,bk:=λσ H=>D.bk (σ.set i none) H,ct:=λσ H=>D.ct (σ.set i none) H }
noncomputable def FI(K:PySem.W.Frag)(C2:Addr)(i:Nat)(ts:Addr->TS)(t:TH):TH:=λod C a D σ H =>
 (subIn K C (.ref C2)=true/\ts a (yY i D) (σ.set i (some (.ref a))) (upd H a (lu a C od)))\/(subIn K C (.ref C2)=false/\t od C a D σ H)
theorem FJ{X:Cx}{x n:Str}{np yZ:Pos}{ou:Stmt}{y9:List Stmt}{rest:List ExceptHandler}{C2:Addr}{i:Nat}{ts:Addr->TS}{t:TH}(hg:Gl X x)(hm:X.mg x=some (.ref C2))(y:cK X.K C2)(hN:X.N.Nodup)(hi:X.N[i]? = some n)
  (hk:X.env.kindOf n=some .local) (hex:X.ex = []) (hs:∀a,dN (X.within (.ref a)) (ou::y9) (ts a)) (hr:PH X rest t) (eX:(x == ("__debug__" : Str))=false:=by decide) :
  PH X (.ExceptHandler (some (.Name x np)) (some n) (ou::y9) yZ::rest) (FI X.K C2 i ts t):=by
 intro pins σ a C a0 H1 s1 H' B od s' D E F xc h;obtain⟨ob,FL,FN⟩:=F.cP.there;refine wpAny_handleBy_cons (codeAny_handlers_test (jP (X:=X.within (.ref a)) (F.inv.within (.ref a)) hg hm (FD F.inv.bR xc y FL FN ?_) eX)) (by intro q;cases q)
 rcases h with⟨hb,h⟩ | ⟨hb,h⟩
 ·rw[hb];refine codeAny_handlers_suite_as (Fc F.cP F.hd λh6 FO FP FQ=>?_);have F6:=F.move FO FP FQ;refine rq (X:=X.within (.ref a)) (i:=i) (v:=V.ref a) ((F6.tracked hex).within (.ref a)) hN hi (.inl hk) rfl (λs2 I2=>?_) (.inr hk);refine wpAny_mono (hs a pins s2 _ _ (yY i D) I2 h) (λf s3 q=>?_) λ_ _ z=>False.elim z;cases f with
  | next=>obtain⟨aN,H2,J,q⟩:=q;exact oh (J.out F.I.ok) hN hi hk λs4 J4=>⟨_,_,J4,q⟩
  | brk=>obtain⟨aN,H2,J,q⟩:=q;exact oh (J.out F.I.ok) hN hi hk λs4 J4=>⟨_,_,J4,q⟩
  | cont=>obtain⟨aN,H2,J,q⟩:=q;exact oh (J.out F.I.ok) hN hi hk λs4 J4=>⟨_,_,J4,q⟩
  | ret u=>obtain⟨v,aN,H2,J,r,q⟩:=q;exact oh (J.out F.I.ok) hN hi hk λs4 J4=>⟨v,_,_,J4,r,q⟩
 ·rw[hb];exact hr pins σ a C a0 H1 s1 H' B od s' D E F xc h
theorem L7{X:Cx}{e:Value}:(X.within e).K=X.K:=rfl
noncomputable def FT(K:PySem.W.Frag)(th:TH)(D:Ends)(σ:St):XK:=λcls od H'=>∃C,cls = .ref C/\cK K C/\∀a,H' a=none->th od C a D σ H'
noncomputable def FU(K:PySem.W.Frag)(tb:XK->TS)(th:TH):TS:=λD σ H=>tb (FT K th D σ) D σ H
theorem FW{X:Cx}{st:Stmt}{h₀:ExceptHandler}{hs:List ExceptHandler}{pos:Pos}{tb:XK->TS}{th:TH}(kE:X.stack=X.env::X.outer)(hf:X.env.frame=some X.env.locals)(hb:∀E,yV X E st (tb E))(hh:PH X (h₀::hs) th) :
  PS X (.Try [st] (h₀::hs) [] [] pos) (FU X.K tb th):=by
 intro pins s σ H D I h;refine wpAny_Try_except (wpAny_execs_cons (wpAny_mono (hb _ pins s σ H D I h) (λf s1 q=>?_) λe s' z=>?_))
 ·cases f with
  | next=>exact wpAny_execs_nil (wpAny_execs_nil q)
  | ret v=>exact q
  | brk=>exact q
  | cont=>exact q
 ·obtain⟨H1,s1,I1,a,C,a0,H',B,od,rfl,ho,hg,u,aD,na,nh,c,cP,hd,C',eC,xc,hE⟩:=z;cases eC;have F:Fl X pins σ a C a0 H1 s1 H' B od s':=⟨I1,ho,hg,u,aD,na,nh,c,cP,hd⟩;have y_:=cP;rw[kE] at y_;refine E_ (by rw[I1.ok.frames,kE]) hf y_ hd λh4 held FY FZ=>?_
  refine Fb held FZ λh5 zc F_ Ga=>?_;rw[← kE] at zc;exact hh pins σ a C a0 H1 s1 H' B _ _ D _ (F.move zc (FY.trans F_) Ga) xc (hE a na)
end _L
namespace _L
open PySem PySem.Spec PyProof.Rows PySem.W PySem.Builtin.ObjectAttr PySem.Builtin.Getset_descriptor
section
variable{prog:Program}{w:World}{A:Around}{E:Value->Shared->Prop}{s:Shared}{K:Frag}{x D:Addr}{ox:Obj}{name:Str}
structure jy(K:Frag)(D:Addr):Prop where
 ga:findIn K (.ref D) "__getattribute__" = some (some (.builtin "BaseException.__getattribute__"))
 gt:findIn K (.ref D) "__getattr__" = some none
 mro:PySem.W.mroIn K D (.type "BaseException")=some true
 obj:PySem.W.mroIn K D (.type "object")=some true
 cl:findIn K (.ref D) "__class__" = some (some (.builtin "object.__class__"))
 sp:specialIn K (.builtin "object.__class__") "__get__" = some (some (.builtin "getset_descriptor.__get__"))
 tk:takesIn K (.builtin "object.__class__")=some true
theorem zd{M:Model}{h:Heap}(hx:h.get? x=some ox)(hc:ox.cls = .ref D):Looks M h (typeOf (.ref x)) (.ref D):=hc▸(Looks.ld hx).andThen .now
theorem Gb{M:Model}{h:Heap}{a g:Value}(X:K.In h)(ha:findIn K (.ref D) name=some (some a))(hg:specialIn K a "__get__" = some (some g))(ht:takesIn K a=some true):Looks M h (find (.ref x) (.ref D) name) (.bind g a):=by
 have L1:=looks_findIn (M:=M) X ha;have _L:Looks M h (getOf (some a)) (some g):=looks_specialIn X hg;have L3:=looks_takesIn (M:=M) X ht;refine L1.andThen (_L.andThen ?_);refine Looks.andThen (a:=some (g,a)) ?_ (Looks.tag .now);unfold dataDescriptor?;refine L3.andThen ?_;exact .now
theorem Gd{g a:Value}{tk:Tok}{Q:Value->Shared->Prop}(T:Looks (model prog w) s.heap (typeOf (.ref x)) (.ref D))(L1:Looks (model prog w) s.heap (find (.ref x) (.ref D) name) (.bind g a))(h:wpAny (model prog w) A (call g [a,.ref x,.ref D]) Q E s) :
  wpAny (model prog w) A (Builtin.«object.__getattribute__» ⟨[.ref x,.str name tk],[]⟩) (λfin s'=>match fin with | .done (.ret v)=>Q v s' | _=>False) E s:=by
 obtain⟨hh,gg,d,t,os⟩:=s;refine wpAny_bind (wpAny_pure (wpAny_bind (wpAny_pure (wpAny_bind (T.at (wpAny_bind (L1.at ?_)))))))
 show wpAny _ _ (holding [a] (call g [a,.ref x,.ref D]) >>= ret) _ _ _;exact wpAny_bind (wpAny_holding (wpAny_mono h (λv s' z=>wpAny_pure z) λ_ _ z=>z))
theorem Ge{nameV:Value}{Q:Unit->Shared->Prop}(X:K.In s.heap)(T:Looks (model prog w) s.heap (typeOf (.ref x)) (.ref D))(G:jy K D)(hq:Q () s):wpAny (model prog w) A (checkBuiltinCall "BaseException.__getattribute__" ⟨[.ref x,nameV],[]⟩) Q E s:=by
 have hk:builtinKind "BaseException.__getattribute__" = some .slot:=by decide +kernel
 have Gf:splitId "BaseException.__getattribute__" = some ("BaseException", "__getattribute__"):=by decide +kernel
 obtain⟨hh,gg,d,t,os⟩:=s;have L1:=looks_mroIn (M:=model prog w) X G.mro;have ha:=F.args_bexc_ga (.ref x) nameV;simp only[checkBuiltinCall,hk,Gf];refine wpAny_bind ?_;unfold isInstance
 repeat (first | lk | wp_step)
 exact hq
theorem Gg{tk:Tok}{fill expr:Bool}{Q:Value->Shared->Prop}(X:K.In s.heap)(T:Looks (model prog w) s.heap (typeOf (.ref x)) (.ref D))(G:jy K D)
  (h:∀A,wpAny (model prog w) A (Builtin.«object.__getattribute__» ⟨[.ref x,.str name tk],[]⟩) (λfin s'=>match fin with | .done (.ret v)=>handedIn v=true/\Q v s' | _=>False) (λ_ _=>False) s) :
  wpAny (model prog w) A (getAttrBy (.ref x) (.str name tk) fill expr) Q E s:=by
 have f3:=F.attr_ValueError.ga.bind (.ref x);have Gh:(expr && onTheHeap (Value.builtin "BaseException.__getattribute__"))=false:=by cases expr <;> rfl
 have Gi:(onTheHeap (Value.ref D) && Value.builtin "BaseException.__getattribute__" == Value.builtin "object.__getattribute__")=false:=by
  rw[show (Value.builtin "BaseException.__getattribute__" == Value.builtin "object.__getattribute__")=false from by decide +kernel];rfl
 have Gj:=λ{A:Around} {E:Value->Shared->Prop} {Q:Unit->Shared->Prop}=>Ge (prog:=prog) (w:=w) (A:=A) (E:=E) (nameV:=.str name tk) (Q:=Q) X T G;obtain⟨hh,gg,d,t,os⟩:=s;have L1:=looks_findIn (M:=model prog w) X G.ga;have _L:=looks_findIn (M:=model prog w) X G.gt;unfold getAttrBy;refine wpAny_holding (wpAny_bind (T.at (wpAny_bind (L1.at ?_))));simp only[Gi,Bool.false_eq_true,if_false];unfold getAttrByItsOwn hookBefore;simp only[onTheHeap,if_true];refine wpAny_bind (_L.at (wpAny_bind (wpAny_attempt (wpAny_holding ?_))));unfold callGetattribute boundAndCalled;simp only[Gh,Bool.false_eq_true,if_false,f3];refine wpAny_bind (wpAny_pure (wpAny_call (codeAny_call_builtin F.attr_ValueError.ga.plain F.entry_bexc_ga (Gj (wpAny_mono (h _) (λfin s' z=>?_) λ_ _ z=>False.elim z)))));rcases fin with(_ | _ | _ | v) | _ <;> first | exact handed_on z.1 z.2 | exact z.elim
theorem Gk{R:Result->Shared->Prop}{tp:Value}(X:K.In s.heap)(L0:Looks (model prog w) s.heap (typeOf (.ref x)) (.ref D))(hm:PySem.W.mroIn K D (.type "object")=some true)
  (h:R (.ok (.ret (.ref D))) s):codeAny (model prog w) A (.call (.builtin "getset_descriptor.__get__") ⟨[.builtin "object.__class__",.ref x,tp],[]⟩) R s:=by
 obtain⟨hh,g,dr,t,os⟩:=s;have L1:=looks_mroIn (M:=model prog w) X hm;refine codeAny_call_builtin KF.slot_gs.plain KF.entry_gs (KF.slot_gs.check _ _ _ _ _ _ _ _ KF.type_class (KF.args_gs _ _ _) ?_);unfold Builtin.«getset_descriptor.__get__» descrGet;rw[dga_obj];refine wpAny_bind (wpAny_pure ?_);unfold descrGetter descrCheckInstance descrNameAndClass isInstance;simp only[KF.owner_class]
 repeat lk
 refine⟨Code.quiet_builtin _ (by decide +kernel),codeAny_builtin KF.entry_class ?_⟩
 unfold Builtin.«object.__class__» shownTypeOf
 repeat lk
 exact h
theorem Gm{Q:Option Value->Shared->Prop}(X:K.In s.heap)(T:∀s':Shared,s'.heap=s.heap->Looks (model prog w) s'.heap (typeOf (.ref x)) (.ref D))(G:jy K D)(h:Q (some (.ref D)) { s with toks:=s.toks+1 }) :
  wpAny (model prog w) A (getAttr? (.ref x) "__class__") Q E s:=by
 unfold getAttr? getAttrBy?;refine wpAny_bind (wpAny_mkText (wpAny_bind (wpAny_attempt ?_)));refine Gg (s:={ s with toks:=s.toks+1 }) X (T _ rfl) G λA=>?_
 refine wpAny_mono (Gd (s:={ s with toks:=s.toks+1 }) (Q:=λv s'=>v = .ref D/\s' = { s with toks:=s.toks+1 }) (T _ rfl) (Gb X G.cl G.sp G.tk) (wpAny_call (Gk (s:={ s with toks:=s.toks+1 }) X (T _ rfl) G.obj ⟨rfl,rfl⟩))) (λfin s' z=>?_) λ_ _ z=>z;rcases fin with(_ | _ | _ | v) | _ <;> first | exact z.elim | (obtain⟨rfl,rfl⟩:=z;exact⟨rfl,wpAny_pure h⟩)
end
theorem Gn{K:Frag}{x D:Addr}(G:jy K D)(hc:(clsIn K D).isSome=true):KitX K (.ref x) (.ref D) (λh=>∃o,h.get? x=some o/\o.cls = .ref D) where
 ty:=λ_ _ _ ⟨o,h1,h2⟩=>zd h1 h2
 it:=λ_ _ X _=>by
  obtain⟨cd,cL⟩:=Option.isSome_iff_exists.mp hc;unfold clsIn at cL;split at cL
  ·rename_i ho;intro A' Q' E' s' k q;unfold isType loadHead;exact wpAny_bind (wpAny_loadPart (k _ _ (X _ _ ho)) (wpAny_pure q))
  ·cases cL
 ne:=λh tp dd aq n sl X Gp=>by
  obtain⟨cd,cL⟩:=Option.isSome_iff_exists.mp hc;refine Bool.eq_false_iff.mpr λq=>?_
  have e:D=tp:=Value.ref.inj (beq_iff_eq.mp q);subst e;unfold clsIn at cL;split at cL
  ·rename_i ho;have z:=(X _ _ ho).symm.trans Gp;cases z
  ·cases cL
 ca:=λ{_ _ _ _ _ s} X ⟨o,h1,h2⟩ k=>Gm X (λs' e=>by rw[e];exact zd h1 h2) G k
section
variable{X:Cx}
theorem Gq{pins:List (Addr×Obj)}{σ:St}{H:Hp}{s:Shared}{a C:Addr}{od:Option Addr}(I:Inv X pins σ H s)(e:H a=some (lu a C od)):∃o,s.heap.get? a=some o/\o.cls = .ref C:=by
 cases od with
 | none =>
  obtain⟨h,_,_⟩:=(show bK X.prog X.w H s.heap a (tD a C) from I.aD a _ e);exact h
 | some d =>
  obtain⟨⟨o,h1,h2,_⟩,_,_⟩:=(show bK X.prog X.w H s.heap a (lu a C (some d)) from I.aD a _ e);exact⟨o,h1,h2⟩
theorem Gr:fH X (.builtin "isinstance") (λxs H Q=>∃a C c v b,xs = [.ref a,v]/\((∃C2,v = .ref C2/\c = .ref C2)\/(∃T,v = .ty T/\c = .type T))/\(∃od,H a=some (lu a C od))/\jy X.K C/\(clsIn X.K C).isSome=true/\kitOne X.K (.ref C) c=some b/\Q (.bl b) H):=by
 intro pins s σ H xs us Q I r h;obtain⟨a,C,c,v,b,rfl,hv,⟨od,ea⟩,G,hc,e,q⟩:=h;obtain⟨u,v',rfl,ru,rv⟩:=vals2 r;cases (show u=Value.ref a from ru);have ev:v' = c:=by
  rcases hv with⟨C2,rfl,rfl⟩ | ⟨T,rfl,rfl⟩
  ·exact rv
  ·exact rv
 subst ev;exact kia_one (Gn G hc) I.bR (Gq I ea) e (λz=>nomatch z) λtk=>⟨.bl b,H,I.tok _,rfl,q⟩
theorem gJ:fH X (.builtin "isinstance") (λxs H Q=>∃a C c v b,xs = [.ref a,v]/\((∃C2,v = .ref C2/\c = .ref C2)\/(∃T,v = .ty T/\c = .type T))/\H a=some (tD a C)/\jy X.K C/\(clsIn X.K C).isSome=true/\kitOne X.K (.ref C) c=some b/\Q (.bl b) H) :=
 λpins s σ H xs us Q I r ⟨a,C,c,v,b,e1,hv,ea,h⟩=>Gr pins s σ H xs us Q I r ⟨a,C,c,v,b,e1,hv,⟨none,ea⟩,h⟩
end
end _L
namespace _L
open PySem PySem.Spec PyProof.Rows PySem.W
section
variable(key:Nat->Int)
noncomputable def kk(p:Array Nat)(i:Nat):Int:=key (p.getD i 0)
variable{key}{p:Array Nat}
end
section
variable{prog:Program}{w:World}{A:Around}{E:Value->Shared->Prop}{s:Shared}
end
section
variable{n:Nat}{p q:Array Nat}
end
end _L
namespace _L
open PySem PySem.Spec PyProof.Rows
section
variable{X:Cx}{pins:List (Addr×Obj)}{σ:St}{H:Hp}{s:Shared}{scope:Scope}{cl:List (Str×Addr)}{ps fs:List Str}{fv:List Nat}{A:Around}{qual:Str}{f c':Addr}
end
structure L8(mg:Str->Option Value)(base:Heap)(c P:Addr):Prop where
 hd:PySem.W.CodeHd base c P
 bm:∃bm ob,mg "__builtins__" = some (.ref bm)/\bm≠builtinsNs/\base.get? bm=some ob/\ob.cls = .type "module"/\ob.dict=some builtinsNs/\ob.data = .plain
section
variable{X:Cx}{pins:List (Addr×Obj)}{σ:St}{H:Hp}{s:Shared}{scope:Scope}{cl:List (Str×Addr)}{M:Model}{A:Around}{E:Value->Shared->Prop}{name qual:Str}{params:Arguments}{body:Expr}{pos:Pos}{firstLine:Nat}{c P:Addr}
end
end _L
namespace _L
open PySem PySem.Spec PyProof.Rows PySem.W
section
variable{prog:Program}{w:World}{A:Around}{E:Value->Shared->Prop}{s:Shared}
end
section
variable{X:Cx}{pins:List (Addr×Obj)}{σ:St}{H:Hp}{s:Shared}
variable{scope:Scope}{cl:List (Str×Addr)}{ps fs:List Str}{fv:List Nat}{A:Around}{qual name:Str}{f c' P kS:Addr}{params:Arguments}{body:Expr}{te:TE}{pm L_:Value}{pos:Pos}{kv:Nat->Int×Int}{n:Nat}{H1:Hp}{m:Str->Option Value}
end
end _L
namespace _L
open PySem PySem.Spec PyProof.Rows
section
variable{M:Model}{prog:Program}{w:World}{A:Around}{E:Value->Shared->Prop}{s:Shared}
end
section
variable{prog:Program}{w:World}{A:Around}{E:Value->Shared->Prop}{s:Shared}
end
section
variable{X:Cx}
end
section
variable{prog:Program}{w:World}{A:Around}{E:Value->Shared->Prop}{s:Shared}{d it:Addr}{es:Array DictEntry}{ep i:Nat}
end
section
variable{X:Cx}
end
section
variable{α:Type}{lt:α->α->Prop}
noncomputable def put(f:Nat->α)(k:Nat)(x:α):Nat->α:=λi=>if i=k then x else f i
end
noncomputable abbrev Th:=Int×List Int×Int
noncomputable def tE(a b:Th):Prop:=a.1<b.1\/(a.1=b.1/\(_H.lexLt a.2.1 b.2.1=true\/(a.2.1=b.2.1/\a.2.2<b.2.2)))
section
open PySem.SeqAt PySem.MeetsSeq PySem.MeetsSeq2 PySem.MeetsSeq3
open PySem.AutoSeq1 (wpAny_loadPart')
end
section
variable{prog:Program}{w:World}{A:Around}{E:Value->Shared->Prop}{s:Shared}
end
noncomputable def ze(H:Hp)(a:Addr)(t:Th):Prop:=∃p,H a=some (.tup [.int t.1,.ref p,.int t.2.2])/\H p=some (.tup (t.2.1.map V.int))
noncomputable instance (a b:Th):Decidable (tE a b):=by unfold tE;infer_instance
section
variable{X:Cx}{pins:List (Addr×Obj)}{σ:St}{H:Hp}{s:Shared}
end
section
variable{X:Cx}
noncomputable abbrev Zs:=List (Addr×Th)
noncomputable def zV(zs:Zs):List V:=zs.map λz=>V.ref z.1
noncomputable def Gs(H:Hp)(zs:Zs):Prop:=∀z,z∈zs->ze H z.1 z.2
noncomputable def Ma:V->List V->Hp->VK->Prop:=λx vs H Q=>∃l a zs t,x = .ref l/\vs = [.ref a]/\H l=some (.lst (zV zs))/\Gs H zs/\ze H a t/\t∈zs.map (·.2)/\
 ∀(k:Nat) (h:k<zs.length),zs[k].2=t->Q .aG (upd H l (.lst (zV (zs.eraseIdx k))))
end
section
variable{H H':Hp}{a:Addr}{ts:List Addr}{z:List (List Int)}
theorem Zn.start{l:Addr}:Zn (upd H l (.lst [])) l [] []:=⟨aE,rfl,λi t r e=>by simp at e⟩
end
section
variable{ta:TA}{g:TG}{tt:TT}{te:TE}{nt:Nat}{fv:List Nat}{Q:VK}{σ:St}{H:Hp}
theorem Gu(n:Int)(Pv:Addr->Nat->List V->St->Hp->Prop)(cW:∀Q:List V->Hp->Prop,Q [.int n] H->ta σ H Q)(b1 : -1000000000000<n)(b2:n<1000000000000)
  (h0:∀D,H D=none->Pv D 0 [] (gD σ nt fv) (upd H D (.lst []))) (hD:∀D i ys σ H,Pv D i ys σ H->H D=some (.lst ys)/\ys.length<sizeLine)
  (hs:∀D i ys aC H2 (N:List V->St->Hp->Prop),(∀ys σ H,Pv D (i+1) ys σ H->N ys σ H)->i<n.toNat->Pv D i ys aC H2->g (.int (i:Int)) aC H2 λbJ H4=>tt bJ H4 λb H5=>if b=true then te bJ H5 λv H6=>H6 D=some (.lst ys)/\N (ys++[v]) bJ (upd H6 D (.lst (ys++[v]))) else N ys bJ H5)
  (hd:∀D ys aC H2,Pv D n.toNat ys aC H2->Q (.ref D) H2):iJ (kH ta) g tt te nt fv σ H Q:=by
 refine cW _ ⟨n,rfl,by lia,by lia,λD k6=>?_⟩
 refine⟨λi m ys aC H2=>m=n.toNat - i/\i<=n.toNat/\Pv D i ys aC H2,⟨_,rfl,Nat.zero_le _,h0 D k6⟩,?_⟩;rintro i m ys aC H2 ⟨rfl,fZ,p⟩;obtain⟨d1,d2⟩:=hD D i ys aC H2 p;refine⟨d1,d2,?_⟩;by_cases aY:i<n.toNat
 ·refine .inr ⟨aY,λx H3 y=>?_⟩;obtain⟨e1,e2⟩:=y;subst e1 e2;have e2:(0:Int)+(i:Int)=i:=by lia
  rw[e2];exact hs D i ys aC _ _ (λ_ _ _ z=>NX.of aY z) aY p
 ·have e:i=n.toNat:=by lia
  subst e;exact .inl ⟨Nat.le_refl _,hd D ys aC H2 p⟩
end
section
variable{P:Addr}{pos:Pos}{qual:Str}{H H1 H2:Hp}
end
theorem iM{n j:Nat}(h:j<n):fX n (j:Int)=some j:=by
 unfold fX;rw[if_pos (by lia),if_pos (by lia)]
 simp
theorem Zn.setAt{H:Hp}{l t:Addr}{ts:List Addr}{z:List (Int×Int)}(h:Zn H l ts z){k:Nat}{c:Int×Int}(ht:H t=some (.tup [.int c.1,.int c.2])):Zn (upd H l (.lst ((ts.set k t).map V.ref))) l (ts.set k t) (z.set k c):=by
 have ne:∀ {a:Addr} {xs:List V},H a=some (.tup xs)->a≠l:=λe q=>by rw[q,h.l] at e;cases e
 refine⟨aE,by simp[h.n],λi t' p e1 e2=>?_⟩
 rw[List.getElem?_set] at e1 e2;by_cases hk:k=i
 ·subst hk;rw[if_pos rfl] at e1 e2;have hl:k<ts.length:=by
   by_cases q:k<ts.length
   ·exact q
   ·rw[if_neg q] at e1;cases e1
  rw[if_pos hl] at e1;rw[if_pos (by rw[← h.n];exact hl)] at e2
  cases e1;cases e2;rw[aL (ne ht)];exact ht
 ·rw[if_neg hk] at e1 e2;have:=h.t i t' p e1 e2;rw[aL (ne this)];exact this
structure Mb(K:PySem.W.Frag)(x qual:Str)(st:Stmt)(f:Addr)(fd:FuncData):Prop where
 ex:∃(oc:Value) (od:Option Addr) (dV kV doc pm:Value) (an:Option Addr) (aW ct:Value) (fW:Array (Option Value)),
  fd=PySem.W.fnOf x qual (iH st) (gC st) (bI st) dV kV doc pm an aW ct/\K.lookup f=some ⟨oc,od,.func fd,fW⟩/\PySem.W.codeIn K aW qual=true
 kp:PySem.W.keepIn K (.ref f)=true
section
variable{P:Program}{w:World}{K:PySem.W.Frag}{mg:Str->Option Value}{base:Heap}
end
section
variable{X:Cx}
noncomputable def Mc(ta:TA):TE:=λσ H Q=>ta σ H λvs H1=>∃i j:Int,vs = [.int i,.int j]/\(-1000000000000<i/\i<1000000000000/\-1000000000000<j/\j<1000000000000)/\(j - i).toNat<=1000000/\
 ∀l,H1 l=none->Q (.ref l) (upd H1 l (.lst ((List.range (j - i).toNat).map λ(k:Nat)=>V.int (i+(k:Int)))))
end
structure Ak where
 kind:Str
 first:Int
 many:Int
 marks:List Int
 at_:Int
 Gv:Int
 Gw:Option Int
 behind:List Int
 early:Bool
noncomputable def Gx:Option Int->V
 | none=>.aG
 | some i=>.int i
noncomputable def Me(q:Ak)(m b:Addr):List (Str×V):=[("kind",.str q.kind),("first",.int q.first),("many",.int q.many),("marks",.ref m),("at",.int q.at_),("asker",.int q.Gv),("latest",Gx q.Gw),("behind",.ref b),("early",.bl q.early)]
section
variable{K:PySem.W.Frag}{tl:TE}{g:TG}{tb:TS}{D:Ends}{σ:St}{H:Hp}
end
section
variable{X:Cx}
noncomputable def Mf(K:PySem.W.Frag):R2:=λx y H Q=>∃l k xs,x = .ref l/\y = .int k/\H l=some (.tup xs)/\xs≠[]/\xs.length<=1000/\1<=k/\k<=1000/\∀p H',aj H H'->H' p=some (.tup (List.replicate k.toNat xs).flatten)->Q (.ref p) H'
end
section
variable{K:PySem.W.Frag}{C:Addr}{H H':Hp}{l:Addr}{ps:List Addr}{qs:List Ak}
end
noncomputable abbrev Us:=List (Addr×List Int)
noncomputable def uV(zs:Us):List V:=zs.map λz=>V.ref z.1
noncomputable def zf(H:Hp)(zs:Us):Prop:=∀z,z∈zs->H z.1=some (.tup (z.2.map V.int))
section
variable{X:Cx}{pins:List (Addr×Obj)}{σ:St}{H:Hp}{s:Shared}
end
section
variable{X:Cx}
noncomputable def Mg(K:PySem.W.Frag)(neg:Bool):R2:=λx y H Q=>∃(a p:Addr) (c:List Int) (zs:Us),x = .ref a/\y = .ref p/\H a=some (.tup (c.map V.int))/\aB K H p (uV zs)/\zf H zs/\
 Q (.bl (if neg then !decide (c∈zs.map (·.2)) else decide (c∈zs.map (·.2)))) H
noncomputable def Mh:V->List V->Hp->VK->Prop:=λx vs H Q=>∃(l a:Addr) (zs:Us) (c:List Int),x = .ref l/\vs = [.ref a]/\H l=some (.lst (uV zs))/\zf H zs/\H a=some (.tup (c.map V.int))/\c∈zs.map (·.2)/\
 ∀(k:Nat) (h:k<zs.length),zs[k].2=c->(∀m (hm:m<zs.length),m<k->zs[m].2≠c)->Q .aG (upd H l (.lst (uV (zs.eraseIdx k))))
end
section
variable{K:PySem.W.Frag}{tl:TE}{g:TG}{tt:TT}{te:TE}{nt:Nat}{fv:List Nat}{Q:VK}{σ:St}{H:Hp}
end
section
variable{prog:Program}{w:World}{A:Around}{E:Value->Shared->Prop}{h:Heap}{g:Array GenState}{d:Drawn}{t:Nat}{os:OsState}
variable{nm q:Str}{C N:Addr}{bs bm e9:List Value}{hdct:Bool}{sn:List Str}{sub:List Value}{ab:Bool}{col:Option Bool}{dd:Option Addr}{k0 k1 k2 k3 k5:Option Value}{B newId gH:String}
end
end _L
namespace _L
open PySem PySem.W PySem.Builtin.ObjectAttr
section
variable{prog:Program}{w:World}{A:Around}{E:Value->Shared->Prop}{R:Result->Shared->Prop}{s:Shared}{K:Frag}{x C:Addr}{o:Obj}{name:Str}{v:Value}
end
end _L
namespace _L
open PySem PySem.Spec PyProof.Rows
section
variable{P:Program}{w:World}{H:Hp}{h:Heap}{a C d:Addr}{od:Option Addr}{fs:List (Str×V)}
end
section
variable{X:Cx}{pins:List (Addr×Obj)}{σ:St}{H:Hp}{s:Shared}{a C d:Addr}{od:Option Addr}{fs:List (Str×V)}{f:Str}{A:Around}{E:Value->Shared->Prop}
end
section
variable{X:Cx}{o value:Expr}{f:Str}{pos pos':Pos}{ta tv:TE}
end
section
variable{prog:Program}{w:World}{A:Around}{E:Value->Shared->Prop}{h:Heap}{g:Array GenState}{d:Drawn}{t:Nat}{os:OsState}
variable{nm q:Str}{C N e:Addr}{bs bm e9:List Value}{hdct:Bool}{sn:List Str}{sub:List Value}{ab:Bool}{col:Option Bool}{dd:Option Addr}{k0 k1 k2 k3 k5:Option Value}{B newId gH:String}
end
section
variable{X:Cx}{x:Str}{C0:Addr}{bm:List Value}{newId gH B:String}{p pos apos:Pos}{e:Expr}{es:List Expr}{t:TA}
end
section
variable{prog:Program}{w:World}{A:Around}{E:Value->Shared->Prop}{s:Shared}{env:Env}
variable{nm q:Str}{C N:Addr}{bs bm e9:List Value}{hdct:Bool}{sn:List Str}{sub:List Value}{ab:Bool}{col:Option Bool}{dd:Option Addr}{k0 k1 k2 k3 k5:Option Value}{B newId gH:String}
end
section
variable{P:Program}{w:World}{K:PySem.W.Frag}{mg:Str->Option Value}{base:Heap}{N:List Str}{qual:Str}{scope:Scope}{f:Addr}{cd:Value}{A:Around}{outer:List Env}{aR:Shared}{cZ:Hp}{E:XK}
end
section
variable{X:Cx}{E:XK}{x:Str}{C fI:Addr}{bm:List Value}{newId gH B:String}{np dG pos:Pos}{jx:Expr}{rest:List Expr}{t:TA}{k:Nat}{fd:FuncData}{ps names:List Str}{bO:List V}{ds:List Value}
end
section
variable{X:Cx}{e:Expr}{f:Str}{pos:Pos}{ta:TE}
end
section
variable{M:Model}{A:Around}{E:Value->Shared->Prop}{s:Shared}{B:Heap}{env:Env}{l outer:List Env}{L a:Addr}{cls a0 fl:Value}{od:Option Addr}{Q:Unit->Shared->Prop}
end
section
variable{prog:Program}{w:World}{A:Around}{R:Result->Shared->Prop}{s:Shared}
end
section
variable{X:Cx}{tg iter elt:Expr}{ifs:List Expr}{scope:Scope}{cl:List (Str×Addr)}{N:List Str}{nt:Nat}{fv:List Nat}{pos:Pos}{wi:TI}{g:TG}{tt:TT}{te:TE}
end
section
variable{prog:Program}{w:World}{A:Around}{E:Value->Shared->Prop}{s:Shared}{env:Env}
variable{nm q:Str}{C N:Addr}{bs bm e9:List Value}{hdct:Bool}{sn:List Str}{sub:List Value}{ab:Bool}{col:Option Bool}{dd:Option Addr}{k0 k1 k2 k3 k5:Option Value}{B newId gH:String}
end
section
variable{X:Cx}{x:Str}{C fI:Addr}{bm tl bs:List Value}{newId gH B:String}{np dG pos:Pos}{jx:Expr}{rest:List Expr}{t:TA}{k:Nat}{fd:FuncData}{ps names:List Str}{bO:List V}{ds:List Value}
 {N:Addr} {nm qn:Str} {hdct:Bool} {sn:List Str} {sub:List Value} {ab:Bool} {col:Option Bool} {dd:Option Addr} {k0 k1 k2 k3 k5:Option Value} {mN:Str->Option Value}
 {pins:List (Addr×Obj)} {s:Shared} {σ:St} {H:Hp} {R:List V->Hp->Prop} {E:Value->Shared->Prop}
end
noncomputable def zg(a b:Addr×Th):Prop:=tE a.2 b.2
noncomputable instance (a b:Addr×Th):Decidable (zg a b):=by unfold zg;infer_instance
section
variable{H H':Hp}{l a:Addr}{zs ys:Zs}{t:Th}{k:Nat}
end
section
variable{X:Cx}
theorem Gy{pins:List (Addr×Obj)}{σ:St}{H:Hp}{s:Shared}{h':Heap}{tk:Nat}{m:Str->Option Value}(I:Inv X pins σ H s)(F:Fr X.base X.env.locals s.heap m)(F':Fr X.base X.env.locals h' m)(N':News X.base X.env.locals h' (ki X.base s.heap X.env.locals)):Inv X pins σ H { s with heap:=h',toks:=tk }:=by
 have kk:∀b o,b≠X.env.locals->s.heap.get? b=some o->h'.get? b=some o:=λb o hb e=>by
  cases q:X.base.get? b with
  | some z =>
   have:=F.keep b z q;rw[e] at this;cases this;exact F'.keep b _ q
  | none=>exact(N' (b,o) (BQ hb q e)).1
 have nl:∀b v,H b=some v->b≠X.env.locals:=λb v e z=>by rw[z,I.free] at e;cases e
 refine I.step (g':=s.gens) (d':=s.drawn) (ch:=[]) (λ_ z=>nomatch z) (λb o hb _ _ e _=>kk b o hb e) (λb o hb _ _ e _=>⟨o.slots,kk b o hb e⟩) (λ_ _ _ _ n=>n) (λb o _ e=>?_) (λ_ _ e=>e) (λ_ _ _ e=>e)
  (λb ps e=>⟨#[],by rw[e];simp⟩) (λm' hm=>?_) (λb v e=>(I.aD b v e).fT (λc o hc e'=>kk c o ?_ e') (λ_ e=>e) (λ_ _ e=>e)) I.bare
 ·by_cases hb:b=X.env.locals
  ·obtain⟨o',_,_,z,_⟩:=F'.ns;exact⟨o',by rw[hb];exact z⟩
  ·exact⟨o,kk b o hb e⟩
 ·have:m' = m:=by
   obtain⟨o1,Gz,Mi,g1,d1,k1,z1⟩:=hm;obtain⟨o2,Mj,Ml,g2,d2,k2,z2⟩:=F.ns;rw[g1] at g2;cases g2;rw[d1] at d2;cases d2
   funext x
   rw[← z1 x,← z2 x]
  rw[this];exact F'.ns
 ·rcases hc with z | z
  ·rw[z];exact nl b v e
  ·exact nl c _ z
theorem GA(hc:X.calm=true):fH X (.builtin "max") (λxs H Q=>∃(p:Addr) (ns:List Int),xs = [.ref p]/\aB X.K H p (ns.map V.int)/\0<ns.length/\∀M,M∈ns->(∀a,a∈ns->a<=M)->Q (.int M) H):=by
 intro pins s σ H xs us Q I r h;obtain⟨p,ns,rfl,hq,h0,q⟩:=h;obtain⟨u,rfl,ru⟩:=vals1 r;cases ru;obtain⟨aq,rv,pl,hz⟩:=I.list hq;obtain⟨m,F⟩:=I.fr;refine max_list_N (I.ok.hd hc) F (BS (h:=s.heap)) pl.isList (intsAre_of rv) h0 λh' M t tk F' N' h1 h2=>?_;exact⟨.int M,H,Gy I F F' N',⟨t,rfl⟩,q M h1 h2⟩
end
section
variable{X:Cx}{e st:Expr}{te ts:TE}{pos p2:Pos}
noncomputable def Mm(K:PySem.W.Frag)(te ts:TE):TE:=λσ H Q=>te σ H λx H1=>ts σ H1 λk H2=>∃a xs,x = .ref a/\k = .int (-1)/\aB K H2 a xs/\∀p,H2 p=none->Q (.ref p) (upd H2 p (.lst xs.reverse))
end
noncomputable def T1(m:Nat)(led:Bool):SetTable:={ mask:=7,place := #[m % 8],dummies := #[],finger:=0,led,moves:=0,plain:=true }
section
variable{prog:Program}{w:World}{A:Around}{E:Value->Shared->Prop}{s:Shared}{a:Addr}{es Gz:Array (Int×Value)}{ep:Nat}{t t1:SetTable}{n:Int}{tk:Tok}
end
section
variable{prog:Program}{w:World}{A:Around}{R:Result->Shared->Prop}{s:Shared}{l I S:Addr}{m n:Nat}{tm tn:Tok}{led:Bool}
end
section
variable{prog:Program}{w:World}{A:Around}{E:Value->Shared->Prop}{s:Shared}
end
section
variable{prog:Program}{w:World}{A:Around}{E:Value->Shared->Prop}{s:Shared}{it d:Addr}{slot i n ep:Nat}{es:Array (Int×Value)}{t:SetTable}
end
section
variable{prog:Program}{w:World}{A:Around}{E:Value->Shared->Prop}{s:Shared}{d:Addr}{ep m n:Nat}{es:Array (Int×Value)}{tm tn:Tok}
end
section
variable{X:Cx}{e:Expr}{tl:TE}{p1 p2 p3 p4:Pos}
end
section
variable{X:Cx}{C:Addr}{x:Str}{p pos:Pos}
end
section
variable{X:Cx}{CX:dj}{k1 k2:Nat}{f1 f2:Addr}{Mn Mp:List Addr}{tF tG:FuncData}{Mq Mr:List Str}{Ms Mt:Sp}{E:XK}{m:Str}{pos apos:Pos}{o e:Expr}{es:List Expr}{ta:TE}{t:TA}
end
end _L
namespace _L
open PySem PySem.Spec PyProof.Rows PySem.W
section
variable{prog:Program}{w:World}{A:Around}{E:Value->Shared->Prop}{s:Shared}{h₀:Heap}{L a kS:Addr}{m:Str->Option Value}{news:List (Addr×Obj)}{vs ks:List Value}
end
section
variable{X:Cx}{pins:List (Addr×Obj)}{σ:St}{H:Hp}{s:Shared}{m:Str->Option Value}{kS f:Addr}{kv:Nat->Int}{k:Nat}{fd:FuncData}{p:Str}{sp:Sp}{xs:List V}{A:Around}
end
section
variable{X:Cx}{pins:List (Addr×Obj)}{σ:St}{H:Hp}{s:Shared}{f:Addr}{kv:Nat->Int}{k:Nat}{fd:FuncData}{p:Str}{sp:Sp}{xs:List V}{l:Addr}
noncomputable def Mu(sp:Sp)(tl:TE):TE:=λσ H Q=>tl σ H λx H1=>∃(l:Addr) (xs:List V) (kv:Nat->Int),x = .ref l/\H1 l=some (.lst xs)/\xs.length<64/\(∀i j,i<xs.length->j<xs.length->kv i=kv j->i=j)/\
 (∀(j:Nat) (v:V),xs[j]? = some v->sp [v] H1 (λv' H'=>v' = .int (kv j)/\H' = H1) E0)/\
 ∀(D:Addr) (is:List Nat),H1 D=none->is.Perm (List.range xs.length)->(∀i j,i<j->j<xs.length->kv (is.getD i 0)<kv (is.getD j 0))->Q (.ref D) (upd H1 D (.lst (is.map λi=>xs.getD i .aG)))
end
end _L
namespace _L
open PySem PySem.Spec PyProof.Rows
section
variable{X:Cx}
end
section
variable{X:Cx}{k:Nat}{f:Addr}{fd:FuncData}{ps:List Str}{sp:Sp}{x:Str}{p pos:Pos}{e:Expr}{es:List Expr}{t:TA}{a:Value}
end
section
variable{X:Cx}{x:Str}{C fI ou:Addr}{bm tl bs:List Value}{newId gH B:String}{np dG pos:Pos}{jx:Expr}{rest:List Expr}{t:TA}{k:Nat}{fd:FuncData}{ps names:List Str}{bO:List V}{ds:List Value}
 {N:Addr} {nm qn:Str} {hdct:Bool} {sn:List Str} {sub:List Value} {ab:Bool} {col:Option Bool} {dd:Option Addr} {k0 k1 k2 k3 k5:Option Value} {mN:Str->Option Value}
 {pins:List (Addr×Obj)} {s:Shared} {σ:St} {H:Hp} {R:List V->Hp->Prop} {E:Value->Shared->Prop}
end
section
variable{M:Model}{A:Around}{E:Value->Shared->Prop}{s:Shared}{B:Heap}{env:Env}{l outer:List Env}{L a:Addr}{cls a0 fl:Value}{od:Option Addr}{Q:Unit->Shared->Prop}
end
section
variable{prog:Program}{w:World}{A:Around}{E:Value->Shared->Prop}{s:Shared}{env:Env}
variable{nm q:Str}{C N:Addr}{bs bm e9:List Value}{hdct:Bool}{sn:List Str}{sub:List Value}{ab:Bool}{col:Option Bool}{dd:Option Addr}{k0 k1 k2 k3 k5:Option Value}{B newId gH:String}
end
section
variable{X:Cx}{E:XK}{pins:List (Addr×Obj)}{σ:St}{Hx:Hp}{s3:Shared}{h':Heap}{e C d:Addr}{Mv:Array Value}{sl:Array (Option Value)}{a0:Value}{i:Nat}{n:Str}{yZ:Pos}{ou:Addr}{E1 E2:Value->Shared->Prop}
end
section
variable{X:Cx}{k:Nat}{f:Addr}{cs:List Addr}{fd:FuncData}{ps:List Str}{sp:Sp}{bO:List V}{ds:List Value}{E:XK}{m:Str}{pos apos:Pos}{e o:Expr}{es:List Expr}{ta:TE}{t:TA}
end
section
variable{X:Cx}{E:XK}{e:Expr}{es:List Expr}{te:TE}{t:TA}{pos:Pos}
end
end _L
namespace _L
open PySem PyProof.Rows
noncomputable abbrev Kd(p:Keyed):Int:=numOf p.1
noncomputable def lA(p:Keyed):Prop:=∃n t,p.1 = .int n t
noncomputable def GB:Bool->Keyed->Array Keyed->Nat->Nat->Nat->StateT SortSt Sem (Option Nat):=sortPriv% PySem.Builtin.gallop
noncomputable def aV(left:Bool)(kk x:Int):Bool:=if left=true then decide (x<kk) else !decide (kk<x)
theorem GC{left:Bool}{kk x y:Int}(h:x<=y)(b:aV left kk y=true):aV left kk x=true:=by
 unfold aV at *
 cases left
 ·simp at b ⊢;omega
 ·simp at b ⊢;omega
theorem cj{xs:Array Keyed}{i:Nat}{p:Keyed}(h:xs[i]? = some p):K xs i=Kd p:=by unfold K;rw[h]
theorem bV{xs:Array Keyed}(h:IntKeys xs){i:Nat}(hi:i<xs.size):∃p,xs[i]? = some p/\lA p/\K xs i=Kd p :=
 ⟨xs[i],getElem?_pos xs i hi,h _ (by simp),cj (getElem?_pos xs i hi)⟩
section
variable{prog:Program}{w:World}{A:Around}{E:Value->Shared->Prop}{s:Shared}
theorem bg{st:SortSt}{arr:Array Keyed}{i:Nat}{p:Keyed}{Q:Keyed->SortSt->Prop}(h:arr[i]? = some p)(q:Q p st):wpS (model prog w) A E s (elem' arr i) Q st:=by
 rw[elem'_eq,h];exact wpS_pure q
theorem ow{st:SortSt}{x y:Keyed}{Q:Option Bool->SortSt->Prop}(hk:kindOf st=oneType')(hx:lA x)(hy:lA y)(q:Q (some (decide (Kd x<Kd y))) st):wpS (model prog w) A E s (lt' x y) Q st:=by
 obtain⟨a,t,ea⟩:=hx;obtain⟨b,u,eb⟩:=hy;rw[lt'_eq];refine wpS_bind (wpS_get ?_);rw[hk,keyLt'_oneType,ea,eb];refine wpS_bind (wpS_lift (wpAny_attempt (oneLt_int ⟨rfl,?_⟩)));refine wpS_pure ?_;have e1:Kd x=a:=by show numOf x.1=a;rw[ea];rfl
 have e2:Kd y=b:=by show numOf y.1=b;rw[eb];rfl
 rw[e1,e2] at q;exact q
theorem lB{st:SortSt}{left:Bool}{key:Keyed}{arr:Array Keyed}{j:Nat}{Q:Option Bool->SortSt->Prop}(hk:kindOf st=oneType')(gz:lA key)(ha:IntKeys arr)(hj:j<arr.size)(q:Q (some (aV left (Kd key) (K arr j))) st) :
  wpS (model prog w) A E s (elem' arr j >>= λx=>if left=true then lt' x key else lt' key x >>= λr=>pure (Option.map (λb => !b) r)) Q st:=by
 obtain⟨p,e,ip,kp⟩:=bV ha hj;refine wpS_bind (bg e ?_);rw[kp] at q;unfold aV at q;cases left
 ·simp only[Bool.false_eq_true,if_false] at q ⊢;exact wpS_bind (ow hk gz ip (wpS_pure q))
 ·simp only[if_true] at q ⊢;exact ow hk ip gz q
theorem zh{st:SortSt}{B:Nat->Bool}{n lo hi:Nat}{f:Nat->(Option (Option Nat)×Nat×Nat)->StateT SortSt Sem (ForInStep (Option (Option Nat)×Nat×Nat))}{Q:(Option (Option Nat)×Nat×Nat)->SortSt->Prop}
  (GD:∀x lo hi (Q':ForInStep (Option (Option Nat)×Nat×Nat)->SortSt->Prop),lo ≥ hi->Q' (.done (none,lo,hi)) st->wpS (model prog w) A E s (f x (none,lo,hi)) Q' st)
  (GF:∀x lo hi (Q':ForInStep (Option (Option Nat)×Nat×Nat)->SortSt->Prop),lo<hi->hi<=n->(B (lo+(hi - lo) / 2)=true->Q' (.yield (none,lo+(hi - lo) / 2+1,hi)) st)->(B (lo+(hi - lo) / 2)=false->Q' (.yield (none,lo,lo+(hi - lo) / 2)) st)->wpS (model prog w) A E s (f x (none,lo,hi)) Q' st)
  (mono:∀i j,i<=j->j<n->B j=true->B i=true) (GG:lo<=hi) (hn:hi<=n) (h1:∀i,i<lo->B i=true) (h2:∀i,hi<=i->i<n->B i=false)
  (h:∀k,k<=n->(∀i,i<k->B i=true)->(∀i,k<=i->i<n->B i=false)->Q (none,k,k) st):wpS (model prog w) A E s (forIn [:n] (none,lo,hi) f) Q st:=by
 have oz:∀i j,i<=j->j<n->B i=false->B j=false:=λi j dR hj hf=>by
  cases hb:B j with
  | false=>rfl
  | true=>rw[mono i j dR hj hb] at hf;exact nomatch hf
 refine wpS_forRange (I:=λx c ah=>ah=st/\∃lo hi,c=(none,lo,hi)/\lo<=hi/\hi<=n/\hi - lo<=n - x/\(∀i,i<lo->B i=true)/\(∀i,hi<=i->i<n->B i=false)) ?step ?fin ⟨rfl,lo,hi,rfl,GG,hn,by omega,h1,h2⟩
 case fin =>
  rintro c ah ⟨rfl,lo,hi,rfl,g1,g2,g3,g4,g5⟩;have:lo=hi:=by omega
  subst this;exact h lo g2 g4 g5
 case step =>
  rintro x c ah _ hx ⟨rfl,lo,hi,rfl,g1,g2,g3,g4,g5⟩;by_cases cX:lo ≥ hi
  ·have:lo=hi:=by omega
   subst this;exact GD _ _ _ _ cX (h lo g2 g4 g5)
  ·refine GF _ _ _ _ (by omega) g2 (λhb=>?_) λhb=>?_
   ·exact⟨rfl,_,_,rfl,by omega,g2,by omega,λi fZ=>mono i _ (by omega) (by omega) hb,g5⟩
   ·exact⟨rfl,_,_,rfl,by omega,by omega,by omega,g4,λi fZ jO=>oz _ i fZ jO hb⟩
theorem eG{left:Bool}{key:Keyed}{arr:Array Keyed}{base n hint:Nat}{Q:Option Nat->SortSt->Prop}{st:SortSt}(hk:kindOf st=oneType')(gz:lA key)(ha:IntKeys arr)(hb:base+n<=arr.size)(hh:hint<n)
  (hs:∀i j,base<=i->i<=j->j<base+n->K arr i<=K arr j)
  (h:∀k,k<=n->(∀i,i<k->aV left (Kd key) (K arr (base+i))=true)->(∀i,k<=i->i<n->aV left (Kd key) (K arr (base+i))=false)->Q (some k) st) :
  wpS (model prog w) A E s (GB left key arr base n hint) Q st:=by
 have mono:∀i j,i<=j->j<n->aV left (Kd key) (K arr (base+j))=true->aV left (Kd key) (K arr (base+i))=true:=λi j dR hj=>GC (hs _ _ (by omega) (by omega) (by omega))
 have oz:∀i j,i<=j->j<n->aV left (Kd key) (K arr (base+i))=false->aV left (Kd key) (K arr (base+j))=false:=λi j dR hj hf=>by
  cases hb:aV left (Kd key) (K arr (base+j)) with
  | false=>rfl
  | true=>rw[mono i j dR hj hb] at hf;exact nomatch hf
 refine wpS_bind (lB hk gz ha (by omega) ?_)
 dsimp only;cases hr:aV left (Kd key) (K arr (base+hint)) with
 | true =>
  rw[if_pos rfl];refine wpS_bind (wpS_mono (wpS_forRange (I:=λx c ah=>ah=st/\∃cY bA,c=(none,cY,bA)/\x+1<=bA/\cY<bA/\cY<n - hint/\aV left (Kd key) (K arr (base+(hint+cY)))=true)
   (Q:=λc ah=>ah=st/\∃cY bA,c=(none,cY,bA)/\cY<bA/\cY<n - hint/\aV left (Kd key) (K arr (base+(hint+cY)))=true/\(n - hint<=bA\/aV left (Kd key) (K arr (base+(hint+bA)))=false)) ?step ?fin ⟨rfl,0,1,rfl,by omega,by omega,by omega,hr⟩) ?post)
  case fin =>
   rintro c ah ⟨rfl,e_,bA,rfl,h1,h2,h3,h4⟩;exact⟨rfl,e_,bA,rfl,h2,h3,h4,.inl (by omega)⟩
  case step =>
   rintro x c ah _ hx ⟨rfl,e_,bA,rfl,h1,h2,h3,h4⟩;dsimp only;by_cases cX:bA ≥ n - hint
   ·rw[if_pos cX];exact wpS_pure ⟨rfl,e_,bA,rfl,h2,h3,h4,.inl cX⟩
   ·rw[if_neg cX];refine wpS_bind (lB hk gz ha (by omega) ?_)
    dsimp only;cases hm:aV left (Kd key) (K arr (base+(hint+bA))) with
    | true =>
     rw[if_neg (by simp)]
     exact wpS_pure ⟨rfl,bA,2*bA+1,rfl,by omega,by omega,by omega,hm⟩
    | false =>
     rw[if_pos (by simp)]
     exact wpS_pure ⟨rfl,e_,bA,rfl,h2,h3,h4,.inr hm⟩
  case post =>
   rintro c ah ⟨rfl,e_,bA,rfl,h2,h3,h4,h5⟩;dsimp only;refine wpS_bind (zh (B:=λi=>aV left (Kd key) (K arr (base+i))) (λx lo hi Q' cX q=>?_) (λx lo hi Q' aY GH qt qf=>?_) mono (by omega) (by omega) (λi hi=>mono i (hint+e_) (by omega) (by omega) h4) (λi hi tH=>?_) λk k1 k2 k3=>wpS_pure (h k k1 k2 k3))
   ·dsimp only;rw[if_pos cX];exact wpS_pure q
   ·dsimp only;rw[if_neg (by omega)]
    refine wpS_bind (lB hk gz ha (by omega) ?_)
    dsimp only;cases hm:aV left (Kd key) (K arr (base+(lo+(hi - lo) / 2))) with
    | true=>rw[if_pos rfl];exact wpS_pure (qt hm)
    | false=>rw[if_neg (by simp)];exact wpS_pure (qf hm)
   ·rcases h5 with h5 | h5
    ·omega
    ·exact oz (hint+bA) i (by omega) tH h5
 | false =>
  rw[if_neg (by simp)]
  refine wpS_bind (wpS_mono (wpS_forRange (I:=λx c ah=>ah=st/\∃cY bA,c=(none,cY,bA)/\x+1<=bA/\cY<bA/\cY<hint+1/\aV left (Kd key) (K arr (base+(hint - cY)))=false)
   (Q:=λc ah=>ah=st/\∃cY bA,c=(none,cY,bA)/\cY<bA/\cY<hint+1/\aV left (Kd key) (K arr (base+(hint - cY)))=false/\(hint+1<=bA\/aV left (Kd key) (K arr (base+(hint - bA)))=true)) ?step ?fin ⟨rfl,0,1,rfl,by omega,by omega,by omega,hr⟩) ?post)
  case fin =>
   rintro c ah ⟨rfl,e_,bA,rfl,h1,h2,h3,h4⟩;exact⟨rfl,e_,bA,rfl,h2,h3,h4,.inl (by omega)⟩
  case step =>
   rintro x c ah _ hx ⟨rfl,e_,bA,rfl,h1,h2,h3,h4⟩;dsimp only;by_cases cX:bA ≥ hint+1
   ·rw[if_pos cX];exact wpS_pure ⟨rfl,e_,bA,rfl,h2,h3,h4,.inl cX⟩
   ·rw[if_neg cX];refine wpS_bind (lB hk gz ha (by omega) ?_)
    dsimp only;cases hm:aV left (Kd key) (K arr (base+(hint - bA))) with
    | true =>
     rw[if_pos rfl];exact wpS_pure ⟨rfl,e_,bA,rfl,h2,h3,h4,.inr hm⟩
    | false =>
     rw[if_neg (by simp)]
     exact wpS_pure ⟨rfl,bA,2*bA+1,rfl,by omega,by omega,by omega,hm⟩
  case post =>
   rintro c ah ⟨rfl,e_,bA,rfl,h2,h3,h4,h5⟩;dsimp only;refine wpS_bind (zh (B:=λi=>aV left (Kd key) (K arr (base+i))) (λx lo hi Q' cX q=>?_) (λx lo hi Q' aY GH qt qf=>?_) mono (by omega) (by omega) (λi hi=>?_) (λi hi tH=>oz (hint - e_) i hi tH h4) λk k1 k2 k3=>wpS_pure (h k k1 k2 k3))
   ·dsimp only;rw[if_pos cX];exact wpS_pure q
   ·dsimp only;rw[if_neg (by omega)]
    refine wpS_bind (lB hk gz ha (by omega) ?_)
    dsimp only;cases hm:aV left (Kd key) (K arr (base+(lo+(hi - lo) / 2))) with
    | true=>rw[if_pos rfl];exact wpS_pure (qt hm)
    | false=>rw[if_neg (by simp)];exact wpS_pure (qf hm)
   ·rcases h5 with h5 | h5
    ·omega
    ·exact mono i (hint - bA) (by omega) (by omega) h5
end
structure MI(R:Keyed->Keyed->Prop)(A B O:List Keyed)(i j:Nat):Prop where
 p:(O++(A.drop i++B.drop j)).Perm (A++B)
 s:O.Pairwise R
 ba:∀x∈O,∀y∈A.drop i,R x y
 bb:∀x∈O,∀y∈B.drop j,R x y
structure gK(R:Keyed->Keyed->Prop)(A B O:List Keyed):Prop where
 p:O.Perm (A++B)
 s:O.Pairwise R
section
variable{R:Keyed->Keyed->Prop}{A B O:List Keyed}{i j:Nat}
theorem drop_cons{x:Keyed}(e:A[i]? = some x):A.drop i=x::A.drop (i+1):=by
 obtain⟨h,rfl⟩:=List.getElem?_eq_some_iff.mp e;exact List.drop_eq_getElem_cons h
theorem oA(SA:A.Pairwise R)(i:Nat):(A.drop i).Pairwise R:=SA.sublist (List.drop_sublist i A)
theorem GI{k:Nat}{y:Keyed}(h:y∈A.drop (i+k)):y∈A.drop i:=by
 rw[← List.drop_drop] at h;exact List.mem_of_mem_drop h
theorem MI.oB(h:MI R A B O i j)(SA:A.Pairwise R){x:Keyed}(e:A[i]? = some x)(le:∀y∈B.drop j,R x y):MI R A B (O++[x]) (i+1) j:=by
 have ed:=drop_cons e;have hx:∀y∈A.drop (i+1),R x y:=by
  have:=oA SA i;rw[ed] at this;exact(List.pairwise_cons.mp this).1
 refine⟨?_,?_,λy hy z hz=>?_,λy hy z hz=>?_⟩
 ·have:=h.p;rw[ed] at this;simpa using this
 ·refine List.pairwise_append.mpr ⟨h.s,List.pairwise_singleton _ _,λy hy z hz=>?_⟩;rw[List.mem_singleton.mp hz];exact h.ba y hy x (by rw[ed];exact List.mem_cons_self)
 ·rcases List.mem_append.mp hy with hy | hy
  ·exact h.ba y hy z (GI hz)
  ·rw[List.mem_singleton.mp hy];exact hx z hz
 ·rcases List.mem_append.mp hy with hy | hy
  ·exact h.bb y hy z hz
  ·rw[List.mem_singleton.mp hy];exact le z hz
theorem MI.swap(h:MI R A B O i j):MI R B A O j i :=
 ⟨((List.Perm.append_left O List.perm_append_comm).trans h.p).trans List.perm_append_comm,h.s,h.bb,h.ba⟩
theorem gK.swap(h:gK R A B O):gK R B A O:=⟨h.p.trans List.perm_append_comm,h.s⟩
theorem MI.tK(h:MI R A B O i j)(SB:B.Pairwise R){x:Keyed}(e:B[j]? = some x)(le:∀y∈A.drop i,R x y):MI R A B (O++[x]) i (j+1) :=
 (h.swap.oB SB e le).swap
theorem MI.oE(h:MI R A B O i j)(SA:A.Pairwise R):∀k,(∀y∈(A.drop i).take k,∀z∈B.drop j,R y z)->MI R A B (O++(A.drop i).take k) (i+k) j
 | 0,_=>by simpa using h
 | k+1,le=>by
  have ih:=MI.oE h SA k λy hy=>le y (by rw[List.take_add_one];exact List.mem_append_left _ hy)
  by_cases hk:i+k<A.length
  ·have e:A[i+k]? = some A[i+k]:=List.getElem?_eq_getElem hk;have e2:(A.drop i)[k]? = some A[i+k]:=by rw[List.getElem?_drop];exact e
   have et:(A.drop i).take (k+1)=(A.drop i).take k++[A[i+k]]:=by rw[List.take_add_one,e2];rfl
   rw[et,← List.append_assoc];exact ih.oB SA e λz hz=>le _ (by rw[et];simp) z hz
  ·have l1:(A.drop i).length<=k:=by rw[List.length_drop];omega
   rw[List.take_of_length_le (by omega)]
   rw[List.take_of_length_le l1] at ih;have d1:A.drop (i+k) = []:=List.drop_of_length_le (by omega)
   have d2:A.drop (i+(k+1)) = []:=List.drop_of_length_le (by omega)
   exact⟨by rw[d2,← d1];exact ih.p,ih.s,by rw[d2];exact(λ_ _ _ z=>nomatch z),ih.bb⟩
theorem MI.GJ(h:MI R A B O i j)(SB:B.Pairwise R)(k:Nat)(le:∀y∈(B.drop j).take k,∀z∈A.drop i,R y z):MI R A B (O++(B.drop j).take k) i (j+k) :=
 (h.swap.oE SB k le).swap
theorem MI.last(h:MI R A B O i j)(SA:A.Pairwise R)(SB:B.Pairwise R)(le:∀x∈B.drop j,∀y∈A.drop i,R x y):gK R A B (O++B.drop j++A.drop i):=by
 refine⟨?_,?_⟩
 ·rw[List.append_assoc];exact(List.Perm.append_left O List.perm_append_comm).trans h.p
 ·rw[List.append_assoc];refine List.pairwise_append.mpr ⟨h.s,List.pairwise_append.mpr ⟨oA SB j,oA SA i,le⟩,λx hx y hy=>?_⟩;rcases List.mem_append.mp hy with hy | hy
  ·exact h.bb x hx y hy
  ·exact h.ba x hx y hy
theorem MI.done(h:MI R A B O i j)(SA:A.Pairwise R)(SB:B.Pairwise R)(e:A.length<=i\/B.length<=j):gK R A B (O++A.drop i++B.drop j):=by
 refine(h.swap.last SB SA λx hx y hy=>?_).swap;rcases e with e | e
 ·rw[List.drop_of_length_le e] at hx;exact nomatch hx
 ·rw[List.drop_of_length_le e] at hy;exact nomatch hy
end
noncomputable abbrev cF:Keyed->Keyed->Prop:=λx y=>Kd x<=Kd y
noncomputable abbrev iN:Keyed->Keyed->Prop:=λx y=>Kd y<=Kd x
theorem dU{A:List Keyed}{i:Nat}{x:Keyed}{c:Int}(SA:A.Pairwise cF)(e:A[i]? = some x)(h:c<=Kd x):∀y∈A.drop i,c<=Kd y:=by
 have:=oA SA i;rw[drop_cons e] at this ⊢;intro y hy;rcases List.mem_cons.mp hy with rfl | hy
 ·exact h
 ·exact Int.le_trans h ((List.pairwise_cons.mp this).1 y hy)
structure Sg(st ah:SortSt):Prop where
 k:kindOf ah=kindOf st
 a:arrOf ah=arrOf st
 p:pendingOf ah=pendingOf st
 f:failedOf ah=failedOf st
theorem Sg.refl(st:SortSt):Sg st st:=⟨rfl,rfl,rfl,rfl⟩
theorem Sg.set{st ah:SortSt}(h:Sg st ah)(g:Nat):Sg st (SortSt.mk' (kindOf ah) (arrOf ah) (pendingOf ah) g (failedOf ah)):=⟨h.k,h.a,h.p,h.f⟩
theorem iO{n k:Nat}(h:n+1<k)(e:¬ (n+1+1 == k)=true):n+1+1<k:=by
 simp at e;omega
noncomputable def GK:Array Keyed->Array Keyed->StateT SortSt Sem (Array Keyed):=sortPriv% PySem.Builtin.mergeLo
theorem lC{a:Array Keyed}(SA:a.toList.Pairwise cF){i j:Nat}(dR:i<=j)(hj:j<a.size):K a i<=K a j:=by
 rw[K_eq (show i<a.size by omega),K_eq hj]
 by_cases e:i=j
 ·subst e;exact Int.le_refl _
 ·have:=List.pairwise_iff_getElem.mp SA i j (by simpa using(show i<a.size by omega)) (by simpa using hj) (by omega)
  simpa using this
theorem bS{a:Array Keyed}{i:Nat}{p:Keyed}(h:a[i]? = some p):a.toList[i]? = some p:=by simpa using h
theorem lD(a:Array Keyed)(i:Nat):(a.extract i a.size).toList=a.toList.drop i:=by
 rw[Array.toList_extract];simp only[List.extract_eq_take_drop];exact List.take_of_length_le (by simp)
theorem zj(a:Array Keyed)(i k:Nat):(a.extract i (i+k)).toList=(a.toList.drop i).take k:=by
 simp
theorem zm{a:Array Keyed}{i k:Nat}{y:Keyed}(h:y∈(a.toList.drop i).take k):∃m,m<k/\a[i+m]? = some y:=by
 obtain⟨m,e⟩:=List.getElem?_of_mem h;rw[List.getElem?_take] at e;by_cases hm:m<k
 ·rw[if_pos hm,List.getElem?_drop] at e;exact⟨m,hm,by simpa using e⟩
 ·rw[if_neg hm] at e;exact nomatch e
section
variable{R:Keyed->Keyed->Prop}{A B:List Keyed}{a b out:Array Keyed}{i j k:Nat}{x:Keyed}
theorem MI.pA(h:MI R A B out.toList i j)(SA:A.Pairwise R)(e:A[i]? = some x)(le:∀y∈B.drop j,R x y):MI R A B (out.push x).toList (i+1) j:=by
 rw[Array.toList_push];exact h.oB SA e le
theorem MI.pB(h:MI R A B out.toList i j)(SB:B.Pairwise R)(e:B[j]? = some x)(le:∀y∈A.drop i,R x y):MI R A B (out.push x).toList i (j+1):=by
 rw[Array.toList_push];exact h.tK SB e le
theorem MI.mA(h:MI R a.toList B out.toList i j)(SA:a.toList.Pairwise R)(le:∀m y,m<k->a[i+m]? = some y->∀z∈B.drop j,R y z):MI R a.toList B (out++a.extract i (i+k)).toList (i+k) j:=by
 rw[Array.toList_append,zj];exact h.oE SA k λy hy=>let ⟨m,h1,h2⟩:=zm hy;le m y h1 h2
theorem MI.mB(h:MI R A b.toList out.toList i j)(SB:b.toList.Pairwise R)(le:∀m y,m<k->b[j+m]? = some y->∀z∈A.drop i,R y z):MI R A b.toList (out++b.extract j (j+k)).toList i (j+k):=by
 rw[Array.toList_append,zj];exact h.GJ SB k λy hy=>let ⟨m,h1,h2⟩:=zm hy;le m y h1 h2
end
section
variable{prog:Program}{w:World}{A:Around}{E:Value->Shared->Prop}{s:Shared}
theorem aA{σ α:Type}{c:Prop}[Decidable c]{m1 m2:StateT σ Sem α}{M:Model}{Q:α->σ->Prop}{st:σ}(h1:c->wpS M A E s m1 Q st)(h2:¬ c->wpS M A E s m2 Q st):wpS M A E s (if c then m1 else m2) Q st:=by
 split
 ·exact h1 ‹_›
 ·exact h2 ‹_›
theorem GL{a b:Array Keyed}{Q:Array Keyed->SortSt->Prop}{st:SortSt}(hk:kindOf st=oneType')(ia:IntKeys a)(ib:IntKeys b)(SA:a.toList.Pairwise cF)(SB:b.toList.Pairwise cF)(ha:0<a.size)(hb:0<b.size)
  (h0:K b 0<=K a 0) (hl:∀i,i<b.size->K b i<=K a (a.size - 1)) (h:∀xs ah,Sg st ah->gK cF a.toList b.toList xs.toList->Q xs ah):wpS (model prog w) A E s (GK a b) Q st:=by
 have sA:∀ {i j},i<=j->j<a.size->K a i<=K a j:=λh1 h2=>lC SA h1 h2;have sB:∀ {i j},i<=j->j<b.size->K b i<=K b j:=λh1 h2=>lC SB h1 h2
 -- ends
 have fin:∀ {out:Array Keyed} {i j:Nat} {ah},MI cF a.toList b.toList out.toList i j->Sg st ah->(a.size<=i\/b.size<=j)->Q (out++a.extract i a.size++b.extract j b.size) ah:=λ{out i j ah} m g e=>by
  refine h _ _ g ?_;rw[Array.toList_append,Array.toList_append,lD,lD];exact m.done SA SB (by simpa using e)
 have cG:∀ {out:Array Keyed} {i j:Nat} {ah},MI cF a.toList b.toList out.toList i j->Sg st ah->i+1=a.size->Q (out++b.extract j b.size++a.extract i a.size) ah:=λ{out i j ah} m g e=>by
  refine h _ _ g ?_;rw[Array.toList_append,Array.toList_append,lD,lD];refine m.last SA SB λx hx y hy=>?_;have hi:i<a.size:=by omega
  have e1:a.toList[i]? = some a[i]:=by simp[hi]
  rw[drop_cons e1,List.drop_of_length_le (by simp;omega)] at hy
  rw[List.mem_singleton.mp hy];obtain⟨n,en⟩:=List.getElem?_of_mem (List.mem_of_mem_drop hx);have zo:b[n]? = some x:=by simpa using en
  have hn:n<b.size:=(Array.getElem?_eq_some_iff.mp zo).1;have:=hl n hn;rw[cj zo,show a.size - 1=i by omega,K_eq hi] at this
  exact this
 obtain⟨p,ep,ip,kp⟩:=bV ib hb;obtain⟨q,eq,iq,kq⟩:=bV ia ha;refine wpS_bind (wpS_lift (wpAny_rule ⟨rfl,?_⟩));refine wpS_bind (bg ep ?_);have m0:MI cF a.toList b.toList [] 0 0:=⟨by simp,.nil,(λ_ z=>nomatch z),(λ_ z=>nomatch z)⟩
 have m1:MI cF a.toList b.toList (#[p]:Array Keyed).toList 0 1:=m0.tK SB (bS ep) (dU SA (bS eq) (by rw[← kp,← kq];exact h0))
 refine aA (λe=>wpS_pure (fin m1 (Sg.refl _) (.inr (by simp at e;omega)))) λe1=>?_
 refine aA (λe=>wpS_pure (cG m1 (Sg.refl _) (by simpa using e))) λe2=>?_
 have e1:1<b.size:=by simp at e1;omega
 have e2:1<a.size:=by simp at e2;omega
 refine wpS_bind (wpS_get ?_);refine wpS_bind (wpS_mono (wpS_forRange (I:=λx c ah=>Sg st ah/\∃out i j mg,c=(none,out,i,j,mg)/\MI cF a.toList b.toList out.toList i j/\i+1<a.size/\j<b.size/\x<=i+j)
  (Q:=λc ah=>Sg st ah/\∃r out i j mg,c=(some r,out,i,j,mg)/\Q r ah) ?step ?fin ⟨Sg.refl _,_,_,_,_,rfl,m1,by omega,by omega,by omega⟩) ?post)
 case post =>
  rintro c ah ⟨g,r,out,i,j,mg,rfl,q⟩;exact wpS_pure q
 case fin =>
  rintro c ah ⟨g,out,i,j,mg,rfl,m,h1,h2,h3⟩
  omega
 case step =>
  rintro x c ah _ hx ⟨g,out,i,j,mg,rfl,m,hi,hj,GN⟩;dsimp only;refine wpS_bind (wpS_mono (wpS_forRange (I:=λy c aP=>aP=ah/\∃out i j ac bc,c=(none,out,i,j,ac,bc)/\MI cF a.toList b.toList out.toList i j/\i+1<a.size/\j<b.size/\x+y<=i+j)
   (Q:=λc aP=>aP=ah/\((∃r out i j ac bc,c=(some r,out,i,j,ac,bc)/\Q r ah)\/(∃out i j ac bc,c=(none,out,i,j,ac,bc)/\MI cF a.toList b.toList out.toList i j/\i+1<a.size/\j<b.size/\x+1<=i+j))) ?s2 ?f2 ⟨rfl,out,i,j,0,0,rfl,m,hi,hj,by omega⟩) ?p2)
  case f2 =>
   rintro c aP ⟨rfl,out,i,j,ac,bc,rfl,m,h1,h2,h3⟩
   omega
  case s2 =>
   rintro y c aP _ hy ⟨rfl,out,i,j,ac,bc,rfl,m,hi,hj,ig⟩;obtain⟨pb,eb,f9,kb⟩:=bV ib hj;obtain⟨pa,ea,cQ,ka⟩:=bV ia (show i<a.size by omega)
   refine wpS_bind (bg eb (wpS_bind (bg ea (wpS_bind (ow (by rw[g.k];exact hk) f9 cQ ?_)))))
   dsimp only;refine aA (λhw=>?_) λhw=>?_
   ·have hw:=of_decide_eq_true hw;refine wpS_bind (bg eb ?_);have m':MI cF a.toList b.toList (out.push pb).toList i (j+1):=by
     rw[Array.toList_push];exact m.tK SB (bS eb) (dU SA (bS ea) (by omega))
    refine aA (λe=>wpS_pure ⟨rfl,.inl ⟨_,_,_,_,_,_,rfl,fin m' g (.inr (by simp at e;omega))⟩⟩) λe=>?_
    have e:j+1<b.size:=by simp at e;omega
    exact aA (λ_=>wpS_pure ⟨rfl,.inr ⟨_,_,_,_,_,rfl,m',by omega,by omega,by omega⟩⟩) λ_=>wpS_pure ⟨rfl,_,_,_,_,_,rfl,m',by omega,by omega,by omega⟩
   ·have hw:¬ Kd pb<Kd pa:=λz=>hw (decide_eq_true z);refine wpS_bind (bg ea ?_);have m':MI cF a.toList b.toList (out.push pa).toList (i+1) j:=by
     rw[Array.toList_push];exact m.oB SA (bS ea) (dU SB (bS eb) (by omega))
    refine aA (λe=>wpS_pure ⟨rfl,.inl ⟨_,_,_,_,_,_,rfl,cG m' g (by simpa using e)⟩⟩) λe=>?_
    have e:i+1+1<a.size:=by simp at e;omega
    exact aA (λ_=>wpS_pure ⟨rfl,.inr ⟨_,_,_,_,_,rfl,m',by omega,by omega,by omega⟩⟩) λ_=>wpS_pure ⟨rfl,_,_,_,_,_,rfl,m',by omega,by omega,by omega⟩
  case p2 =>
   rintro c aP ⟨rfl,⟨r,out,i,j,ac,bc,rfl,q⟩ | ⟨out,i,j,ac,bc,rfl,m,hi,hj,ig⟩⟩
   ·exact wpS_pure ⟨g,r,_,_,_,_,rfl,q⟩
   ·dsimp only;refine wpS_bind (wpS_lift (wpAny_rule ⟨rfl,?_⟩));refine wpS_bind (wpS_mono (wpS_forRange (I:=λy c bT=>Sg st bT/\∃out i j mg ac bc,c=(none,out,i,j,mg,ac,bc)/\MI cF a.toList b.toList out.toList i j/\i+1<a.size/\j<b.size/\x+1+y<=i+j)
     (Q:=λc bT=>Sg st bT/\((∃r out i j mg ac bc,c=(some r,out,i,j,mg,ac,bc)/\Q r bT)\/(∃out i j mg ac bc,c=(none,out,i,j,mg,ac,bc)/\MI cF a.toList b.toList out.toList i j/\i+1<a.size/\j<b.size/\x+1<=i+j))) ?s3 ?f3 ⟨g,out,i,j,_,_,_,rfl,m,hi,hj,by omega⟩) ?p3)
    case f3 =>
     rintro c bT ⟨g3,out,i,j,mg,ac,bc,rfl,m,h1,h2,h3⟩
     omega
    case p3 =>
     rintro c bT ⟨g3,⟨r,out,i,j,mg,ac,bc,rfl,q⟩ | ⟨out,i,j,mg,ac,bc,rfl,m,hi,hj,ig⟩⟩
     ·exact wpS_pure ⟨g3,r,_,_,_,_,rfl,q⟩
     ·dsimp only;exact wpS_bind (wpS_modify (wpS_pure ⟨g3.set _,_,_,_,_,rfl,m,hi,hj,ig⟩))
    case s3 =>
     rintro y c bT _ hy ⟨g3,out,i,j,mg,ac,bc,rfl,m,hi,hj,ig⟩;obtain⟨pb,eb,f9,kb⟩:=bV ib hj;dsimp only;refine aA (λhmg=>?_) λhmg=>?_
     ·have g4:=g3.set (mg - 1);refine wpS_bind (wpS_modify ?_);refine wpS_bind (bg eb (wpS_bind (eG (by rw[g4.k];exact hk) f9 ia (by omega) (by omega) (λi j _ h1 h2=>sA h1 (by omega)) λk k1 k2 k3=>?_)))
      dsimp only;have m2:=m.mA (k:=k) SA λmm y h1 h2 z hz=>by
       have t:=k2 mm h1;unfold aV at t;rw[if_neg (by simp),cj h2] at t
       simp at t;exact dU SB (bS eb) t z hz
      have lE:i+k<a.size->∀y∈a.toList.drop (i+k),Kd pb<=Kd y:=λaY=>by
       obtain⟨pn,en,lF,kn⟩:=bV ia aY;have t:=k3 k (Nat.le_refl _) (by omega)
       unfold aV at t;rw[if_neg (by simp),kn] at t
       simp at t;exact dU SA (bS en) (by omega)
      refine aA (λiP=>?_) λiP=>?_
      ·refine aA (λe=>wpS_pure ⟨g4,.inl ⟨_,_,_,_,_,_,_,rfl,cG m2 g4 (by simpa using e)⟩⟩) λe=>aA (λe'=>wpS_pure ⟨g4,.inl ⟨_,_,_,_,_,_,_,rfl,fin m2 g4 (.inl (by simp at e';omega))⟩⟩) λe'=>?_
       have dW:i+k+1<a.size:=by simp at e e';omega
       have fc:=lE (by omega)
       refine wpS_bind (bg eb ?_);have m3:=m2.pB SB (bS eb) fc;refine aA (λe=>wpS_pure ⟨g4,.inl ⟨_,_,_,_,_,_,_,rfl,fin m3 g4 (.inr (by simp at e;omega))⟩⟩) λe=>?_
       have cH:j+1<b.size:=by simp at e;omega
       obtain⟨pa,ea,cQ,ka⟩:=bV ia (Nat.lt_of_succ_lt dW);refine wpS_bind (bg ea (wpS_bind (eG (by rw[g4.k];exact hk) cQ ib (by omega) (by omega) (λi j _ h1 h2=>sB h1 (by omega)) λn n1 n2 n3=>?_)))
       dsimp only;have m4:=m3.mB (k:=n) SB λmm y h1 h2 z hz=>by
        have t:=n2 mm h1;unfold aV at t;rw[if_pos rfl,cj h2] at t;have t:=of_decide_eq_true t;exact dU SA (bS ea) (by omega) z hz
       have f_:j+1+n<b.size->∀y∈b.toList.drop (j+1+n),Kd pa<=Kd y:=λaY=>by
        obtain⟨pn,en,lF,kn⟩:=bV ib aY;have t:=n3 n (Nat.le_refl _) (by omega)
        unfold aV at t;rw[if_pos rfl,kn] at t;have t:=of_decide_eq_false t;exact dU SB (bS en) (by omega)
       refine aA (λdX=>?_) λdX=>?_
       ·refine aA (λe=>wpS_pure ⟨g4,.inl ⟨_,_,_,_,_,_,_,rfl,fin m4 g4 (.inr (by simp at e;omega))⟩⟩) λe=>?_
        have cH:j+1+n<b.size:=by simp at e;omega
        have bY:=f_ cH;refine wpS_bind (bg ea ?_);have m5:=m4.pA SA (bS ea) bY;refine aA (λe=>wpS_pure ⟨g4,.inl ⟨_,_,_,_,_,_,_,rfl,cG m5 g4 (by simpa using e)⟩⟩) λe=>?_
        have e:_+1+1<a.size:=iO dW e;exact aA (λ_=>wpS_pure ⟨g4,.inr ⟨_,_,_,_,_,_,rfl,m5,by omega,by omega,by omega⟩⟩) λ_=>wpS_pure ⟨g4,_,_,_,_,_,_,rfl,m5,by omega,by omega,by omega⟩
       ·have:n=0:=by omega
        subst this;have bY:=f_ cH;refine wpS_bind (bg ea ?_);have m5:=m3.pA SA (bS ea) bY;refine aA (λe=>wpS_pure ⟨g4,.inl ⟨_,_,_,_,_,_,_,rfl,cG m5 g4 (by simpa using e)⟩⟩) λe=>?_
        have e:_+1+1<a.size:=iO dW e;exact aA (λ_=>wpS_pure ⟨g4,.inr ⟨_,_,_,_,_,_,rfl,m5,by omega,by omega,by omega⟩⟩) λ_=>wpS_pure ⟨g4,_,_,_,_,_,_,rfl,m5,by omega,by omega,by omega⟩
      ·have:k=0:=by omega
       subst this;have dW:i+1<a.size:=hi;have fc:=lE (by omega)
       refine wpS_bind (bg eb ?_);have m3:=m.pB SB (bS eb) fc;refine aA (λe=>wpS_pure ⟨g4,.inl ⟨_,_,_,_,_,_,_,rfl,fin m3 g4 (.inr (by simp at e;omega))⟩⟩) λe=>?_
       have cH:j+1<b.size:=by simp at e;omega
       obtain⟨pa,ea,cQ,ka⟩:=bV ia (Nat.lt_of_succ_lt dW);refine wpS_bind (bg ea (wpS_bind (eG (by rw[g4.k];exact hk) cQ ib (by omega) (by omega) (λi j _ h1 h2=>sB h1 (by omega)) λn n1 n2 n3=>?_)))
       dsimp only;have m4:=m3.mB (k:=n) SB λmm y h1 h2 z hz=>by
        have t:=n2 mm h1;unfold aV at t;rw[if_pos rfl,cj h2] at t;have t:=of_decide_eq_true t;exact dU SA (bS ea) (by omega) z hz
       have f_:j+1+n<b.size->∀y∈b.toList.drop (j+1+n),Kd pa<=Kd y:=λaY=>by
        obtain⟨pn,en,lF,kn⟩:=bV ib aY;have t:=n3 n (Nat.le_refl _) (by omega)
        unfold aV at t;rw[if_pos rfl,kn] at t;have t:=of_decide_eq_false t;exact dU SB (bS en) (by omega)
       refine aA (λdX=>?_) λdX=>?_
       ·refine aA (λe=>wpS_pure ⟨g4,.inl ⟨_,_,_,_,_,_,_,rfl,fin m4 g4 (.inr (by simp at e;omega))⟩⟩) λe=>?_
        have cH:j+1+n<b.size:=by simp at e;omega
        have bY:=f_ cH;refine wpS_bind (bg ea ?_);have m5:=m4.pA SA (bS ea) bY;refine aA (λe=>wpS_pure ⟨g4,.inl ⟨_,_,_,_,_,_,_,rfl,cG m5 g4 (by simpa using e)⟩⟩) λe=>?_
        have e:_+1+1<a.size:=iO dW e;exact aA (λ_=>wpS_pure ⟨g4,.inr ⟨_,_,_,_,_,_,rfl,m5,by omega,by omega,by omega⟩⟩) λ_=>wpS_pure ⟨g4,_,_,_,_,_,_,rfl,m5,by omega,by omega,by omega⟩
       ·have:n=0:=by omega
        subst this;have bY:=f_ cH;refine wpS_bind (bg ea ?_);have m5:=m3.pA SA (bS ea) bY;refine aA (λe=>wpS_pure ⟨g4,.inl ⟨_,_,_,_,_,_,_,rfl,cG m5 g4 (by simpa using e)⟩⟩) λe=>?_
        have e:_+1+1<a.size:=iO dW e;exact aA (λ_=>wpS_pure ⟨g4,.inr ⟨_,_,_,_,_,_,rfl,m5,by omega,by omega,by omega⟩⟩) λ_=>wpS_pure ⟨g4,_,_,_,_,_,_,rfl,m5,by omega,by omega,by omega⟩
     ·have g4:=g3.set mg;refine wpS_bind (wpS_modify ?_);refine wpS_bind (bg eb (wpS_bind (eG (by rw[g4.k];exact hk) f9 ia (by omega) (by omega) (λi j _ h1 h2=>sA h1 (by omega)) λk k1 k2 k3=>?_)))
      dsimp only;have m2:=m.mA (k:=k) SA λmm y h1 h2 z hz=>by
       have t:=k2 mm h1;unfold aV at t;rw[if_neg (by simp),cj h2] at t
       simp at t;exact dU SB (bS eb) t z hz
      have lE:i+k<a.size->∀y∈a.toList.drop (i+k),Kd pb<=Kd y:=λaY=>by
       obtain⟨pn,en,lF,kn⟩:=bV ia aY;have t:=k3 k (Nat.le_refl _) (by omega)
       unfold aV at t;rw[if_neg (by simp),kn] at t
       simp at t;exact dU SA (bS en) (by omega)
      refine aA (λiP=>?_) λiP=>?_
      ·refine aA (λe=>wpS_pure ⟨g4,.inl ⟨_,_,_,_,_,_,_,rfl,cG m2 g4 (by simpa using e)⟩⟩) λe=>aA (λe'=>wpS_pure ⟨g4,.inl ⟨_,_,_,_,_,_,_,rfl,fin m2 g4 (.inl (by simp at e';omega))⟩⟩) λe'=>?_
       have dW:i+k+1<a.size:=by simp at e e';omega
       have fc:=lE (by omega)
       refine wpS_bind (bg eb ?_);have m3:=m2.pB SB (bS eb) fc;refine aA (λe=>wpS_pure ⟨g4,.inl ⟨_,_,_,_,_,_,_,rfl,fin m3 g4 (.inr (by simp at e;omega))⟩⟩) λe=>?_
       have cH:j+1<b.size:=by simp at e;omega
       obtain⟨pa,ea,cQ,ka⟩:=bV ia (Nat.lt_of_succ_lt dW);refine wpS_bind (bg ea (wpS_bind (eG (by rw[g4.k];exact hk) cQ ib (by omega) (by omega) (λi j _ h1 h2=>sB h1 (by omega)) λn n1 n2 n3=>?_)))
       dsimp only;have m4:=m3.mB (k:=n) SB λmm y h1 h2 z hz=>by
        have t:=n2 mm h1;unfold aV at t;rw[if_pos rfl,cj h2] at t;have t:=of_decide_eq_true t;exact dU SA (bS ea) (by omega) z hz
       have f_:j+1+n<b.size->∀y∈b.toList.drop (j+1+n),Kd pa<=Kd y:=λaY=>by
        obtain⟨pn,en,lF,kn⟩:=bV ib aY;have t:=n3 n (Nat.le_refl _) (by omega)
        unfold aV at t;rw[if_pos rfl,kn] at t;have t:=of_decide_eq_false t;exact dU SB (bS en) (by omega)
       refine aA (λdX=>?_) λdX=>?_
       ·refine aA (λe=>wpS_pure ⟨g4,.inl ⟨_,_,_,_,_,_,_,rfl,fin m4 g4 (.inr (by simp at e;omega))⟩⟩) λe=>?_
        have cH:j+1+n<b.size:=by simp at e;omega
        have bY:=f_ cH;refine wpS_bind (bg ea ?_);have m5:=m4.pA SA (bS ea) bY;refine aA (λe=>wpS_pure ⟨g4,.inl ⟨_,_,_,_,_,_,_,rfl,cG m5 g4 (by simpa using e)⟩⟩) λe=>?_
        have e:_+1+1<a.size:=iO dW e;exact aA (λ_=>wpS_pure ⟨g4,.inr ⟨_,_,_,_,_,_,rfl,m5,by omega,by omega,by omega⟩⟩) λ_=>wpS_pure ⟨g4,_,_,_,_,_,_,rfl,m5,by omega,by omega,by omega⟩
       ·have:n=0:=by omega
        subst this;have bY:=f_ cH;refine wpS_bind (bg ea ?_);have m5:=m3.pA SA (bS ea) bY;refine aA (λe=>wpS_pure ⟨g4,.inl ⟨_,_,_,_,_,_,_,rfl,cG m5 g4 (by simpa using e)⟩⟩) λe=>?_
        have e:_+1+1<a.size:=iO dW e;exact aA (λ_=>wpS_pure ⟨g4,.inr ⟨_,_,_,_,_,_,rfl,m5,by omega,by omega,by omega⟩⟩) λ_=>wpS_pure ⟨g4,_,_,_,_,_,_,rfl,m5,by omega,by omega,by omega⟩
      ·have:k=0:=by omega
       subst this;have dW:i+1<a.size:=hi;have fc:=lE (by omega)
       refine wpS_bind (bg eb ?_);have m3:=m.pB SB (bS eb) fc;refine aA (λe=>wpS_pure ⟨g4,.inl ⟨_,_,_,_,_,_,_,rfl,fin m3 g4 (.inr (by simp at e;omega))⟩⟩) λe=>?_
       have cH:j+1<b.size:=by simp at e;omega
       obtain⟨pa,ea,cQ,ka⟩:=bV ia (Nat.lt_of_succ_lt dW);refine wpS_bind (bg ea (wpS_bind (eG (by rw[g4.k];exact hk) cQ ib (by omega) (by omega) (λi j _ h1 h2=>sB h1 (by omega)) λn n1 n2 n3=>?_)))
       dsimp only;have m4:=m3.mB (k:=n) SB λmm y h1 h2 z hz=>by
        have t:=n2 mm h1;unfold aV at t;rw[if_pos rfl,cj h2] at t;have t:=of_decide_eq_true t;exact dU SA (bS ea) (by omega) z hz
       have f_:j+1+n<b.size->∀y∈b.toList.drop (j+1+n),Kd pa<=Kd y:=λaY=>by
        obtain⟨pn,en,lF,kn⟩:=bV ib aY;have t:=n3 n (Nat.le_refl _) (by omega)
        unfold aV at t;rw[if_pos rfl,kn] at t;have t:=of_decide_eq_false t;exact dU SB (bS en) (by omega)
       refine aA (λdX=>?_) λdX=>?_
       ·refine aA (λe=>wpS_pure ⟨g4,.inl ⟨_,_,_,_,_,_,_,rfl,fin m4 g4 (.inr (by simp at e;omega))⟩⟩) λe=>?_
        have cH:j+1+n<b.size:=by simp at e;omega
        have bY:=f_ cH;refine wpS_bind (bg ea ?_);have m5:=m4.pA SA (bS ea) bY;refine aA (λe=>wpS_pure ⟨g4,.inl ⟨_,_,_,_,_,_,_,rfl,cG m5 g4 (by simpa using e)⟩⟩) λe=>?_
        have e:_+1+1<a.size:=iO dW e;exact aA (λ_=>wpS_pure ⟨g4,.inr ⟨_,_,_,_,_,_,rfl,m5,by omega,by omega,by omega⟩⟩) λ_=>wpS_pure ⟨g4,_,_,_,_,_,_,rfl,m5,by omega,by omega,by omega⟩
       ·have:n=0:=by omega
        subst this;have bY:=f_ cH;refine wpS_bind (bg ea ?_);have m5:=m3.pA SA (bS ea) bY;refine aA (λe=>wpS_pure ⟨g4,.inl ⟨_,_,_,_,_,_,_,rfl,cG m5 g4 (by simpa using e)⟩⟩) λe=>?_
        have e:_+1+1<a.size:=iO dW e;exact aA (λ_=>wpS_pure ⟨g4,.inr ⟨_,_,_,_,_,_,rfl,m5,by omega,by omega,by omega⟩⟩) λ_=>wpS_pure ⟨g4,_,_,_,_,_,_,rfl,m5,by omega,by omega,by omega⟩
end
noncomputable def GO:Array Keyed->Array Keyed->StateT SortSt Sem (Array Keyed):=sortPriv% PySem.Builtin.mergeHi
structure MH(a b out:Array Keyed)(na nb:Nat):Prop where
 m:MI iN a.toList.reverse b.toList.reverse out.toList (a.size - na) (b.size - nb)
 na:na<=a.size
 nb:nb<=b.size
theorem j3{a:Array Keyed}{n:Nat}(h:n<=a.size):a.toList.reverse.drop (a.size - n)=(a.toList.take n).reverse:=by
 rw[List.drop_reverse];congr 2;simp
 omega
theorem zq{a:Array Keyed}{n:Nat}{x:Keyed}(h1:1<=n)(e:a[n - 1]? = some x):a.toList.reverse[a.size - n]? = some x:=by
 have hn:=(Array.getElem?_eq_some_iff.mp e).1;rw[List.getElem?_reverse (by simp;omega)]
 simp only[Array.length_toList];rw[show a.size - 1 - (a.size - n)=n - 1 by omega]
 simpa using e
theorem jz{a:Array Keyed}{n:Nat}{y:Keyed}(h:n<=a.size)(hy:y∈a.toList.reverse.drop (a.size - n)):∃m,m<n/\a[m]? = some y:=by
 rw[j3 h,List.mem_reverse] at hy;obtain⟨m,e⟩:=List.getElem?_of_mem hy;rw[List.getElem?_take] at e;by_cases hm:m<n
 ·rw[if_pos hm] at e;exact⟨m,hm,by simpa using e⟩
 ·rw[if_neg hm] at e;exact nomatch e
theorem iQ{a:Array Keyed}(SA:∀ {i j},i<=j->j<a.size->K a i<=K a j){m n:Nat}{y z:Keyed}(ey:a[m]? = some y)(ez:a[n]? = some z)(h:m<=n):Kd y<=Kd z:=by
 rw[← cj ey,← cj ez];exact SA h (Array.getElem?_eq_some_iff.mp ez).1
section
variable{a b out:Array Keyed}{na nb t:Nat}{x:Keyed}
theorem MH.pA(h:MH a b out na nb)(SA:a.toList.reverse.Pairwise iN)(h1:1<=na)(e:a[na - 1]? = some x)(le:∀m z,m<nb->b[m]? = some z->Kd z<=Kd x):MH a b (out.push x) (na - 1) nb:=by
 have hn:=h.na;have:=h.m.pA SA (zq h1 e) λy hy=>let ⟨m,h1,h2⟩:=jz h.nb hy;le m y h1 h2
 rw[show a.size - na+1=a.size - (na - 1) by omega] at this
 exact⟨this,by omega,h.nb⟩
theorem MH.pB(h:MH a b out na nb)(SB:b.toList.reverse.Pairwise iN)(h1:1<=nb)(e:b[nb - 1]? = some x)(le:∀m z,m<na->a[m]? = some z->Kd z<=Kd x):MH a b (out.push x) na (nb - 1):=by
 have hn:=h.nb;have:=h.m.pB SB (zq h1 e) λy hy=>let ⟨m,h1,h2⟩:=jz h.na hy;le m y h1 h2
 rw[show b.size - nb+1=b.size - (nb - 1) by omega] at this
 exact⟨this,h.na,by omega⟩
theorem zu{n:Nat}(ht:t<=n)(hn:n<=a.size):(a.toList.reverse.drop (a.size - n)).take (n - t)=(a.extract t n).reverse.toList:=by
 rw[j3 hn,Array.toList_reverse,Array.toList_extract,List.extract_eq_take_drop,List.take_reverse];congr 1;rw[List.drop_take];congr 2
 ·simp;omega
 ·simp;omega
theorem MH.mA(h:MH a b out na nb)(SA:a.toList.reverse.Pairwise iN)(ht:t<=na)(le:∀m y,t<=m->m<na->a[m]? = some y->∀mz z,mz<nb->b[mz]? = some z->Kd z<=Kd y):MH a b (out++(a.extract t na).reverse) t nb:=by
 have hn:=h.na;have:=h.m.oE SA (na - t) λy hy z hz=>by
  obtain⟨mz,h1,h2⟩:=jz h.nb hz;rw[zu ht hn,Array.toList_reverse,List.mem_reverse] at hy;obtain⟨m,em⟩:=List.getElem?_of_mem hy;rw[Array.toList_extract,List.extract_eq_take_drop,List.getElem?_take] at em;by_cases hm:m<na - t
  ·rw[if_pos hm,List.getElem?_drop] at em;exact le (t+m) y (by omega) (by omega) (by simpa using em) mz z h1 h2
  ·rw[if_neg hm] at em;exact nomatch em
 rw[zu ht hn,← Array.toList_append,show a.size - na+(na - t)=a.size - t by omega] at this
 exact⟨this,by omega,h.nb⟩
theorem MH.swap(h:MH a b out na nb):MH b a out nb na:=⟨h.m.swap,h.nb,h.na⟩
theorem MH.mB(h:MH a b out na nb)(SB:b.toList.reverse.Pairwise iN)(ht:t<=nb)(le:∀m y,t<=m->m<nb->b[m]? = some y->∀mz z,mz<na->a[mz]? = some z->Kd z<=Kd y):MH a b (out++(b.extract t nb).reverse) na t :=
 (h.swap.mA SB ht le).swap
theorem zw{xs A B:List Keyed}(h:gK iN A.reverse B.reverse xs.reverse):gK cF A B xs:=by
 refine⟨?_,?_⟩
 ·have p1:xs.Perm xs.reverse:=(List.reverse_perm xs).symm;refine(p1.trans h.p).trans ?_;exact List.Perm.append (List.reverse_perm A) (List.reverse_perm B)
 ·have:=List.pairwise_reverse.mp h.s;exact this
end
section
variable{prog:Program}{w:World}{A:Around}{E:Value->Shared->Prop}{s:Shared}
theorem GP{a b:Array Keyed}{Q:Array Keyed->SortSt->Prop}{st:SortSt}(hk:kindOf st=oneType')(ia:IntKeys a)(ib:IntKeys b)(zx:a.toList.Pairwise cF)(zy:b.toList.Pairwise cF)(ha:0<a.size)(hb:0<b.size)
  (h0:∀i,i<a.size->K b 0<=K a i) (hl:∀i,i<b.size->K b i<=K a (a.size - 1)) (h:∀xs ah,Sg st ah->gK cF a.toList b.toList xs.toList->Q xs ah):wpS (model prog w) A E s (GO a b) Q st:=by
 have sA:∀ {i j},i<=j->j<a.size->K a i<=K a j:=λh1 h2=>lC zx h1 h2;have sB:∀ {i j},i<=j->j<b.size->K b i<=K b j:=λh1 h2=>lC zy h1 h2;have lG:=@sA;have tL:=@sB;have SA:a.toList.reverse.Pairwise iN:=List.pairwise_reverse.mpr zx;have SB:b.toList.reverse.Pairwise iN:=List.pairwise_reverse.mpr zy;have fin:∀ {out:Array Keyed} {i j:Nat} {ah},MH a b out i j->Sg st ah->(i=0\/j=0)->Q (a.extract 0 i++b.extract 0 j++out.reverse) ah:=λ{out i j ah} m g e=>by
  refine h _ _ g (zw ?_);have:=m.m.last SA SB λx hx y hy=>by
   obtain⟨m1,h1,h2⟩:=jz m.nb hx;obtain⟨m2,h3,h4⟩:=jz m.na hy
   omega
  rw[j3 m.na,j3 m.nb] at this;have e2:(a.extract 0 i++b.extract 0 j++out.reverse).toList.reverse=out.toList++(b.toList.take j).reverse++(a.toList.take i).reverse:=by simp
  rw[e2];exact this
 have cG:∀ {out:Array Keyed} {i j:Nat} {ah},MH a b out i j->Sg st ah->j=1->Q (b.extract 0 j++a.extract 0 i++out.reverse) ah:=λ{out i j ah} m g e=>by
  refine h _ _ g (zw ?_);have:=(m.m.swap.last SB SA λx hx y hy=>by
   obtain⟨m1,h1,h2⟩:=jz m.na hx;obtain⟨m2,h3,h4⟩:=jz m.nb hy;have:m2=0:=by omega
   subst this;have t:=h0 m1 (Array.getElem?_eq_some_iff.mp h2).1;rw[cj h2,cj h4] at t;exact t).swap
  rw[j3 m.na,j3 m.nb] at this;have e2:(b.extract 0 j++a.extract 0 i++out.reverse).toList.reverse=out.toList++(a.toList.take i).reverse++(b.toList.take j).reverse:=by simp
  rw[e2];exact this
 obtain⟨p,ep,ip,kp⟩:=bV ia (show a.size - 1<a.size by omega)
 refine wpS_bind (wpS_lift (wpAny_rule ⟨rfl,?_⟩));refine wpS_bind (bg ep ?_);have m0:MH a b #[] a.size b.size:=⟨⟨by simp,.nil,(λ_ z=>nomatch z),(λ_ z=>nomatch z)⟩,Nat.le_refl _,Nat.le_refl _⟩
 have m1:MH a b #[p] (a.size - 1) b.size:=m0.pA SA (by omega) ep λm z h1 h2=>by
  have:=hl m h1;rw[cj h2,kp] at this;exact this
 refine aA (λe=>wpS_pure (fin m1 (Sg.refl _) (.inl (by simpa using e)))) λe1=>?_
 refine aA (λe=>wpS_pure (cG m1 (Sg.refl _) (by simpa using e))) λe2=>?_
 have e1:1<=a.size - 1:=by simp at e1;omega
 have e2:2<=b.size:=by simp at e2;omega
 refine wpS_bind (wpS_get ?_);refine wpS_bind (wpS_mono (wpS_forRange (I:=λx c ah=>Sg st ah/\∃na nb out mg,c=(none,na,nb,out,mg)/\MH a b out na nb/\1<=na/\2<=nb/\x+na+nb<=a.size+b.size)
  (Q:=λc ah=>Sg st ah/\∃r na nb out mg,c=(some r,na,nb,out,mg)/\Q r ah) ?step ?fin ⟨Sg.refl _,_,_,_,_,rfl,m1,by omega,by omega,by omega⟩) ?post)
 case post =>
  rintro c ah ⟨g,r,na,nb,out,mg,rfl,q⟩;exact wpS_pure q
 case fin =>
  rintro c ah ⟨g,na,nb,out,mg,rfl,m,h1,h2,h3⟩
  omega
 case step =>
  rintro x c ah _ hx ⟨g,na,nb,out,mg,rfl,m,hi,hj,GN⟩;dsimp only;refine wpS_bind (wpS_mono (wpS_forRange (I:=λy c aP=>aP=ah/\∃na nb out ac bc,c=(none,na,nb,out,ac,bc)/\MH a b out na nb/\1<=na/\2<=nb/\x+y+na+nb<=a.size+b.size)
   (Q:=λc aP=>aP=ah/\((∃r na nb out ac bc,c=(some r,na,nb,out,ac,bc)/\Q r ah)\/(∃na nb out ac bc,c=(none,na,nb,out,ac,bc)/\MH a b out na nb/\1<=na/\2<=nb/\x+1+na+nb<=a.size+b.size))) ?s2 ?f2 ⟨rfl,na,nb,out,0,0,rfl,m,hi,hj,by omega⟩) ?p2)
  case f2 =>
   rintro c aP ⟨rfl,na,nb,out,ac,bc,rfl,m,h1,h2,h3⟩
   omega
  case s2 =>
   rintro y c aP _ hy ⟨rfl,na,nb,out,ac,bc,rfl,m,hi,hj,ig⟩;have GQ:=m.na;have GR:=m.nb;obtain⟨pb,eb,f9,kb⟩:=bV ib (show nb - 1<b.size by omega)
   obtain⟨pa,ea,cQ,ka⟩:=bV ia (show na - 1<a.size by omega)
   refine wpS_bind (bg eb (wpS_bind (bg ea (wpS_bind (ow (by rw[g.k];exact hk) f9 cQ ?_)))))
   dsimp only;refine aA (λhw=>?_) λhw=>?_
   ·have hw:=of_decide_eq_true hw;refine wpS_bind (bg ea ?_);have m':=m.pA SA hi ea λmz z h1 ez=>by
     have:=iQ tL ez eb (by omega)
     omega
    refine aA (λe=>wpS_pure ⟨rfl,.inl ⟨_,_,_,_,_,_,rfl,fin m' g (.inl (by simpa using e))⟩⟩) λe=>?_
    have e:1<=na - 1:=by simp at e;omega
    exact aA (λ_=>wpS_pure ⟨rfl,.inr ⟨_,_,_,_,_,rfl,m',by omega,by omega,by omega⟩⟩) λ_=>wpS_pure ⟨rfl,_,_,_,_,_,rfl,m',by omega,by omega,by omega⟩
   ·have hw:¬ Kd pb<Kd pa:=λz=>hw (decide_eq_true z);refine wpS_bind (bg eb ?_);have m':=m.pB SB (by omega) eb λmz z h1 ez=>by
     have:=iQ lG ez ea (by omega)
     omega
    refine aA (λe=>wpS_pure ⟨rfl,.inl ⟨_,_,_,_,_,_,rfl,cG m' g (by simpa using e)⟩⟩) λe=>?_
    have e:2<=nb - 1:=by simp at e;omega
    exact aA (λ_=>wpS_pure ⟨rfl,.inr ⟨_,_,_,_,_,rfl,m',by omega,by omega,by omega⟩⟩) λ_=>wpS_pure ⟨rfl,_,_,_,_,_,rfl,m',by omega,by omega,by omega⟩
  case p2 =>
   rintro c aP ⟨rfl,⟨r,na,nb,out,ac,bc,rfl,q⟩ | ⟨na,nb,out,ac,bc,rfl,m,hi,hj,ig⟩⟩
   ·exact wpS_pure ⟨g,r,_,_,_,_,rfl,q⟩
   ·dsimp only;refine wpS_bind (wpS_lift (wpAny_rule ⟨rfl,?_⟩));refine wpS_bind (wpS_mono (wpS_forRange (I:=λy c bT=>Sg st bT/\∃na nb out mg ac bc,c=(none,na,nb,out,mg,ac,bc)/\MH a b out na nb/\1<=na/\2<=nb/\x+1+y+na+nb<=a.size+b.size)
     (Q:=λc bT=>Sg st bT/\((∃r na nb out mg ac bc,c=(some r,na,nb,out,mg,ac,bc)/\Q r bT)\/(∃na nb out mg ac bc,c=(none,na,nb,out,mg,ac,bc)/\MH a b out na nb/\1<=na/\2<=nb/\x+1+na+nb<=a.size+b.size))) ?s3 ?f3 ⟨g,na,nb,out,_,_,_,rfl,m,hi,hj,by omega⟩) ?p3)
    case f3 =>
     rintro c bT ⟨g3,na,nb,out,mg,ac,bc,rfl,m,h1,h2,h3⟩
     omega
    case p3 =>
     rintro c bT ⟨g3,⟨r,na,nb,out,mg,ac,bc,rfl,q⟩ | ⟨na,nb,out,mg,ac,bc,rfl,m,hi,hj,ig⟩⟩
     ·exact wpS_pure ⟨g3,r,_,_,_,_,rfl,q⟩
     ·dsimp only;exact wpS_bind (wpS_modify (wpS_pure ⟨g3.set _,_,_,_,_,rfl,m,hi,hj,ig⟩))
    case s3 =>
     rintro y c bT _ hy ⟨g3,na,nb,out,mg,ac,bc,rfl,m,hi,hj,ig⟩;have GQ:=m.na;have GR:=m.nb;obtain⟨pb,eb,f9,kb⟩:=bV ib (show nb - 1<b.size by omega)
     dsimp only;refine aA (λhmg=>?_) λhmg=>?_
     ·have g4:=g3.set (mg - 1);refine wpS_bind (wpS_modify ?_);refine wpS_bind (bg eb (wpS_bind (eG (by rw[g4.k];exact hk) f9 ia (by omega) (by omega) (λi j _ h1 h2=>sA h1 (by omega)) λk k1 k2 k3=>?_)))
      dsimp only;have m2:=m.mA (t:=k) SA k1 λmm y h1 h2 e mz z hz ez=>by
       have t:=k3 mm h1 h2;unfold aV at t;rw[if_neg (by simp),Nat.zero_add,cj e] at t
       simp at t;have:=iQ tL ez eb (by omega)
       omega
      have fc:∀mz z,mz<k->a[mz]? = some z->Kd z<=Kd pb:=λmz z h1 ez=>by
       have t:=k2 mz h1;unfold aV at t;rw[if_neg (by simp),Nat.zero_add,cj ez] at t
       simpa using t
      refine aA (λiP=>?_) λiP=>?_
      ·refine aA (λe=>wpS_pure ⟨g4,.inl ⟨_,_,_,_,_,_,_,rfl,fin m2 g4 (.inl (by simpa using e))⟩⟩) λe=>?_
       have gb:1<=k:=by simp at e;omega
       refine wpS_bind (bg eb ?_);have m3:=m2.pB SB (by omega) eb fc
       refine aA (λe=>wpS_pure ⟨g4,.inl ⟨_,_,_,_,_,_,_,rfl,cG m3 g4 (by simpa using e)⟩⟩) λe=>?_
       have cH:2<=nb - 1:=by simp at e;omega
       obtain⟨pa,ea,cQ,ka⟩:=bV ia (show k - 1<a.size by omega)
       refine wpS_bind (bg ea (wpS_bind (eG (by rw[g4.k];exact hk) cQ ib (by omega) (by omega) (λi j _ h1 h2=>sB h1 (by omega)) λn n1 n2 n3=>?_)))
       dsimp only;have m4:=m3.mB (t:=n) SB n1 λmm y h1 h2 e mz z hz ez=>by
        have t:=n3 mm h1 h2;unfold aV at t;rw[if_pos rfl,Nat.zero_add,cj e] at t;have t:=of_decide_eq_false t;have:=iQ lG ez ea (by omega)
        omega
       have bY:∀mz z,mz<n->b[mz]? = some z->Kd z<=Kd pa:=λmz z h1 ez=>by
        have t:=n2 mz h1;unfold aV at t;rw[if_pos rfl,Nat.zero_add,cj ez] at t;have t:=of_decide_eq_true t
        omega
       refine aA (λdX=>?_) λdX=>?_
       ·refine aA (λe=>wpS_pure ⟨g4,.inl ⟨_,_,_,_,_,_,_,rfl,cG m4 g4 (by simpa using e)⟩⟩) λe=>aA (λe'=>wpS_pure ⟨g4,.inl ⟨_,_,_,_,_,_,_,rfl,fin m4 g4 (.inr (by simpa using e'))⟩⟩) λe'=>?_
        have cH:2<=n:=by simp at e e';omega
        refine wpS_bind (bg ea ?_);have m5:=m4.pA SA gb ea bY;refine aA (λe=>wpS_pure ⟨g4,.inl ⟨_,_,_,_,_,_,_,rfl,fin m5 g4 (.inl (by simpa using e))⟩⟩) λe=>?_
        have e:1<=k - 1:=by simp at e;omega
        exact aA (λ_=>wpS_pure ⟨g4,.inr ⟨_,_,_,_,_,_,rfl,m5,by omega,by omega,by omega⟩⟩) λ_=>wpS_pure ⟨g4,_,_,_,_,_,_,rfl,m5,by omega,by omega,by omega⟩
       ·have:n=nb - 1:=by omega
        subst this;refine wpS_bind (bg ea ?_);have m5:=m3.pA SA gb ea bY;refine aA (λe=>wpS_pure ⟨g4,.inl ⟨_,_,_,_,_,_,_,rfl,fin m5 g4 (.inl (by simpa using e))⟩⟩) λe=>?_
        have e:1<=k - 1:=by simp at e;omega
        exact aA (λ_=>wpS_pure ⟨g4,.inr ⟨_,_,_,_,_,_,rfl,m5,by omega,by omega,by omega⟩⟩) λ_=>wpS_pure ⟨g4,_,_,_,_,_,_,rfl,m5,by omega,by omega,by omega⟩
      ·have:k=na:=by omega
       subst this;have gb:1<=k:=by omega
       refine wpS_bind (bg eb ?_);have m3:=m.pB SB (by omega) eb fc
       refine aA (λe=>wpS_pure ⟨g4,.inl ⟨_,_,_,_,_,_,_,rfl,cG m3 g4 (by simpa using e)⟩⟩) λe=>?_
       have cH:2<=nb - 1:=by simp at e;omega
       obtain⟨pa,ea,cQ,ka⟩:=bV ia (show k - 1<a.size by omega)
       refine wpS_bind (bg ea (wpS_bind (eG (by rw[g4.k];exact hk) cQ ib (by omega) (by omega) (λi j _ h1 h2=>sB h1 (by omega)) λn n1 n2 n3=>?_)))
       dsimp only;have m4:=m3.mB (t:=n) SB n1 λmm y h1 h2 e mz z hz ez=>by
        have t:=n3 mm h1 h2;unfold aV at t;rw[if_pos rfl,Nat.zero_add,cj e] at t;have t:=of_decide_eq_false t;have:=iQ lG ez ea (by omega)
        omega
       have bY:∀mz z,mz<n->b[mz]? = some z->Kd z<=Kd pa:=λmz z h1 ez=>by
        have t:=n2 mz h1;unfold aV at t;rw[if_pos rfl,Nat.zero_add,cj ez] at t;have t:=of_decide_eq_true t
        omega
       refine aA (λdX=>?_) λdX=>?_
       ·refine aA (λe=>wpS_pure ⟨g4,.inl ⟨_,_,_,_,_,_,_,rfl,cG m4 g4 (by simpa using e)⟩⟩) λe=>aA (λe'=>wpS_pure ⟨g4,.inl ⟨_,_,_,_,_,_,_,rfl,fin m4 g4 (.inr (by simpa using e'))⟩⟩) λe'=>?_
        have cH:2<=n:=by simp at e e';omega
        refine wpS_bind (bg ea ?_);have m5:=m4.pA SA gb ea bY;refine aA (λe=>wpS_pure ⟨g4,.inl ⟨_,_,_,_,_,_,_,rfl,fin m5 g4 (.inl (by simpa using e))⟩⟩) λe=>?_
        have e:1<=k - 1:=by simp at e;omega
        exact aA (λ_=>wpS_pure ⟨g4,.inr ⟨_,_,_,_,_,_,rfl,m5,by omega,by omega,by omega⟩⟩) λ_=>wpS_pure ⟨g4,_,_,_,_,_,_,rfl,m5,by omega,by omega,by omega⟩
       ·have:n=nb - 1:=by omega
        subst this;refine wpS_bind (bg ea ?_);have m5:=m3.pA SA gb ea bY;refine aA (λe=>wpS_pure ⟨g4,.inl ⟨_,_,_,_,_,_,_,rfl,fin m5 g4 (.inl (by simpa using e))⟩⟩) λe=>?_
        have e:1<=k - 1:=by simp at e;omega
        exact aA (λ_=>wpS_pure ⟨g4,.inr ⟨_,_,_,_,_,_,rfl,m5,by omega,by omega,by omega⟩⟩) λ_=>wpS_pure ⟨g4,_,_,_,_,_,_,rfl,m5,by omega,by omega,by omega⟩
     ·have g4:=g3.set mg;refine wpS_bind (wpS_modify ?_);refine wpS_bind (bg eb (wpS_bind (eG (by rw[g4.k];exact hk) f9 ia (by omega) (by omega) (λi j _ h1 h2=>sA h1 (by omega)) λk k1 k2 k3=>?_)))
      dsimp only;have m2:=m.mA (t:=k) SA k1 λmm y h1 h2 e mz z hz ez=>by
       have t:=k3 mm h1 h2;unfold aV at t;rw[if_neg (by simp),Nat.zero_add,cj e] at t
       simp at t;have:=iQ tL ez eb (by omega)
       omega
      have fc:∀mz z,mz<k->a[mz]? = some z->Kd z<=Kd pb:=λmz z h1 ez=>by
       have t:=k2 mz h1;unfold aV at t;rw[if_neg (by simp),Nat.zero_add,cj ez] at t
       simpa using t
      refine aA (λiP=>?_) λiP=>?_
      ·refine aA (λe=>wpS_pure ⟨g4,.inl ⟨_,_,_,_,_,_,_,rfl,fin m2 g4 (.inl (by simpa using e))⟩⟩) λe=>?_
       have gb:1<=k:=by simp at e;omega
       refine wpS_bind (bg eb ?_);have m3:=m2.pB SB (by omega) eb fc
       refine aA (λe=>wpS_pure ⟨g4,.inl ⟨_,_,_,_,_,_,_,rfl,cG m3 g4 (by simpa using e)⟩⟩) λe=>?_
       have cH:2<=nb - 1:=by simp at e;omega
       obtain⟨pa,ea,cQ,ka⟩:=bV ia (show k - 1<a.size by omega)
       refine wpS_bind (bg ea (wpS_bind (eG (by rw[g4.k];exact hk) cQ ib (by omega) (by omega) (λi j _ h1 h2=>sB h1 (by omega)) λn n1 n2 n3=>?_)))
       dsimp only;have m4:=m3.mB (t:=n) SB n1 λmm y h1 h2 e mz z hz ez=>by
        have t:=n3 mm h1 h2;unfold aV at t;rw[if_pos rfl,Nat.zero_add,cj e] at t;have t:=of_decide_eq_false t;have:=iQ lG ez ea (by omega)
        omega
       have bY:∀mz z,mz<n->b[mz]? = some z->Kd z<=Kd pa:=λmz z h1 ez=>by
        have t:=n2 mz h1;unfold aV at t;rw[if_pos rfl,Nat.zero_add,cj ez] at t;have t:=of_decide_eq_true t
        omega
       refine aA (λdX=>?_) λdX=>?_
       ·refine aA (λe=>wpS_pure ⟨g4,.inl ⟨_,_,_,_,_,_,_,rfl,cG m4 g4 (by simpa using e)⟩⟩) λe=>aA (λe'=>wpS_pure ⟨g4,.inl ⟨_,_,_,_,_,_,_,rfl,fin m4 g4 (.inr (by simpa using e'))⟩⟩) λe'=>?_
        have cH:2<=n:=by simp at e e';omega
        refine wpS_bind (bg ea ?_);have m5:=m4.pA SA gb ea bY;refine aA (λe=>wpS_pure ⟨g4,.inl ⟨_,_,_,_,_,_,_,rfl,fin m5 g4 (.inl (by simpa using e))⟩⟩) λe=>?_
        have e:1<=k - 1:=by simp at e;omega
        exact aA (λ_=>wpS_pure ⟨g4,.inr ⟨_,_,_,_,_,_,rfl,m5,by omega,by omega,by omega⟩⟩) λ_=>wpS_pure ⟨g4,_,_,_,_,_,_,rfl,m5,by omega,by omega,by omega⟩
       ·have:n=nb - 1:=by omega
        subst this;refine wpS_bind (bg ea ?_);have m5:=m3.pA SA gb ea bY;refine aA (λe=>wpS_pure ⟨g4,.inl ⟨_,_,_,_,_,_,_,rfl,fin m5 g4 (.inl (by simpa using e))⟩⟩) λe=>?_
        have e:1<=k - 1:=by simp at e;omega
        exact aA (λ_=>wpS_pure ⟨g4,.inr ⟨_,_,_,_,_,_,rfl,m5,by omega,by omega,by omega⟩⟩) λ_=>wpS_pure ⟨g4,_,_,_,_,_,_,rfl,m5,by omega,by omega,by omega⟩
      ·have:k=na:=by omega
       subst this;have gb:1<=k:=by omega
       refine wpS_bind (bg eb ?_);have m3:=m.pB SB (by omega) eb fc
       refine aA (λe=>wpS_pure ⟨g4,.inl ⟨_,_,_,_,_,_,_,rfl,cG m3 g4 (by simpa using e)⟩⟩) λe=>?_
       have cH:2<=nb - 1:=by simp at e;omega
       obtain⟨pa,ea,cQ,ka⟩:=bV ia (show k - 1<a.size by omega)
       refine wpS_bind (bg ea (wpS_bind (eG (by rw[g4.k];exact hk) cQ ib (by omega) (by omega) (λi j _ h1 h2=>sB h1 (by omega)) λn n1 n2 n3=>?_)))
       dsimp only;have m4:=m3.mB (t:=n) SB n1 λmm y h1 h2 e mz z hz ez=>by
        have t:=n3 mm h1 h2;unfold aV at t;rw[if_pos rfl,Nat.zero_add,cj e] at t;have t:=of_decide_eq_false t;have:=iQ lG ez ea (by omega)
        omega
       have bY:∀mz z,mz<n->b[mz]? = some z->Kd z<=Kd pa:=λmz z h1 ez=>by
        have t:=n2 mz h1;unfold aV at t;rw[if_pos rfl,Nat.zero_add,cj ez] at t;have t:=of_decide_eq_true t
        omega
       refine aA (λdX=>?_) λdX=>?_
       ·refine aA (λe=>wpS_pure ⟨g4,.inl ⟨_,_,_,_,_,_,_,rfl,cG m4 g4 (by simpa using e)⟩⟩) λe=>aA (λe'=>wpS_pure ⟨g4,.inl ⟨_,_,_,_,_,_,_,rfl,fin m4 g4 (.inr (by simpa using e'))⟩⟩) λe'=>?_
        have cH:2<=n:=by simp at e e';omega
        refine wpS_bind (bg ea ?_);have m5:=m4.pA SA gb ea bY;refine aA (λe=>wpS_pure ⟨g4,.inl ⟨_,_,_,_,_,_,_,rfl,fin m5 g4 (.inl (by simpa using e))⟩⟩) λe=>?_
        have e:1<=k - 1:=by simp at e;omega
        exact aA (λ_=>wpS_pure ⟨g4,.inr ⟨_,_,_,_,_,_,rfl,m5,by omega,by omega,by omega⟩⟩) λ_=>wpS_pure ⟨g4,_,_,_,_,_,_,rfl,m5,by omega,by omega,by omega⟩
       ·have:n=nb - 1:=by omega
        subst this;refine wpS_bind (bg ea ?_);have m5:=m3.pA SA gb ea bY;refine aA (λe=>wpS_pure ⟨g4,.inl ⟨_,_,_,_,_,_,_,rfl,fin m5 g4 (.inl (by simpa using e))⟩⟩) λe=>?_
        have e:1<=k - 1:=by simp at e;omega
        exact aA (λ_=>wpS_pure ⟨g4,.inr ⟨_,_,_,_,_,_,rfl,m5,by omega,by omega,by omega⟩⟩) λ_=>wpS_pure ⟨g4,_,_,_,_,_,_,rfl,m5,by omega,by omega,by omega⟩
end
theorem zz(o:Nat):∀(M:List Keyed) (c:Nat) (arr:Array Keyed),o+c+M.length<=arr.size->
  ((M.zipIdx c).foldl (λa x=>a.setIfInBounds (o+x.2) x.1) arr).toList=arr.toList.take (o+c)++M++arr.toList.drop (o+c+M.length)
 | [],c,arr,h=>by simp
 | x::M,c,arr,h=>by
  rw[List.length_cons] at h;rw[List.zipIdx_cons,List.foldl_cons];have ih:=zz o M (c+1) (arr.setIfInBounds (o+c) x) (by rw[Array.size_setIfInBounds];omega)
  rw[ih];have hs:o+c<arr.toList.length:=by simp;omega
  have e:(arr.setIfInBounds (o+c) x).toList=(arr.toList.take (o+c)++[x])++arr.toList.drop (o+c+1):=by
   rw[Array.toList_setIfInBounds,List.set_eq_take_append_cons_drop,if_pos hs];simp
  have l1:(arr.toList.take (o+c)++[x]).length=o+(c+1):=by simp;omega
  rw[e,List.take_left' l1,List.drop_append,List.drop_of_length_le (by omega),l1,List.drop_drop]
  rw[List.length_cons,show o+c+1+(o+(c+1)+M.length - (o+(c+1)))=o+c+(M.length+1) by omega]
  simp
theorem ext_mem{arr:Array Keyed}{lo hi:Nat}{y:Keyed}(h:y∈(arr.extract lo hi).toList):∃m,lo<=m/\m<hi/\arr[m]? = some y:=by
 rw[Array.toList_extract,List.extract_eq_take_drop] at h;obtain⟨m,e⟩:=List.getElem?_of_mem h;rw[List.getElem?_take] at e;by_cases hm:m<hi - lo
 ·rw[if_pos hm,List.getElem?_drop] at e;exact⟨lo+m,by omega,by omega,by simpa using e⟩
 ·rw[if_neg hm] at e;exact nomatch e
theorem oF{arr:Array Keyed}{lo hi:Nat}(hs:hi<=arr.size)(S:∀i j,lo<=i->i<=j->j<hi->K arr i<=K arr j):(arr.extract lo hi).toList.Pairwise cF:=by
 rw[List.pairwise_iff_getElem];intro i j fZ hj dR;have iK:=fZ;have j0:=hj;rw[Array.length_toList,Array.size_extract] at iK j0;have:=S (lo+i) (lo+j) (by omega) (by omega) (by omega)
 rw[K_eq (show lo+i<arr.size by omega),K_eq (show lo+j<arr.size by omega)] at this
 simpa using this
theorem oG{arr:Array Keyed}{lo hi:Nat}(h:IntKeys arr):IntKeys (arr.extract lo hi):=λp hp=>by
 obtain⟨m,_,_,e⟩:=ext_mem hp;obtain⟨hm,rfl⟩:=Array.getElem?_eq_some_iff.mp e;exact h _ (by simp)
theorem oH{arr:Array Keyed}{lo hi i:Nat}(h:lo+i<hi)(hs:hi<=arr.size):K (arr.extract lo hi) i=K arr (lo+i):=by
 refine K_congr ?_;rw[Array.getElem?_extract_of_lt (by rw[Nat.min_eq_left hs];omega)]
 exact(getElem?_pos _ _ _).symm
section
variable{prog:Program}{w:World}{A:Around}{E:Value->Shared->Prop}{s:Shared}
theorem GS{σ:Type}{x:σ}{Q:PUnit->σ->Prop}{st:σ}{M:Model}(h:Q ⟨⟩ x):wpS M A E s (set x:StateT σ Sem PUnit) Q st:=by
 unfold wpS;rw[StateT.run_set];exact wpAny_pure ⟨rfl,h⟩
theorem GU{Q:Bool->SortSt->Prop}{st:SortSt}{n1 n2 pw:Nat}(hk:kindOf st=oneType')(hf:failedOf st=none)(hp:pendingOf st = #[(0,n1,pw),(n1,n2,0)])(ia:IntKeys (arrOf st))(hn:n1+n2=(arrOf st).size)(h1:0<n1)(h2:0<n2)
  (S1:∀i j,i<=j->j<n1->K (arrOf st) i<=K (arrOf st) j) (S2:∀i j,n1<=i->i<=j->j<(arrOf st).size->K (arrOf st) i<=K (arrOf st) j)
  (h:∀ah,(arrOf ah).Perm (arrOf st)->failedOf ah=none->pendingOf ah = #[(0,n1+n2,pw)]->SortedTo (arrOf ah) (arrOf st).size->Q true ah):wpS (model prog w) A E s (mergeAt' 0) Q st:=by
 refine wpS_bind (wpS_get ?_);have e0:(pendingOf st)[0]? = some (0,n1,pw):=by rw[hp];rfl
 have e1:(pendingOf st)[0+1]? = some (n1,n2,0):=by rw[hp];rfl
 rw[e0,e1];dsimp only;have ep:((pendingOf st).setIfInBounds 0 (0,n1+n2,pw)).eraseIdxIfInBounds (0+1) = #[(0,n1+n2,pw)]:=by rw[hp];simp[Array.eraseIdxIfInBounds]
 obtain⟨kd,arr,pd,mg,fl⟩:=st
 replace ia:IntKeys arr:=ia
 replace hn:n1+n2=arr.size:=hn
 replace S1:∀i j,i<=j->j<n1->K arr i<=K arr j:=S1
 replace S2:∀i j,n1<=i->i<=j->j<arr.size->K arr i<=K arr j:=S2
 refine wpS_bind (GS ?_);obtain⟨pb,eb,f9,kb⟩:=bV ia (show n1<arr.size by omega)
 refine wpS_bind (bg eb (wpS_bind (eG hk f9 ia (show 0+n1<=arr.size by omega) h1 (λi j _ h3 h4=>S1 i j h3 (by omega)) λk k1 k2 k3=>?_)))
 dsimp only;have tM:∀i,i<k->K arr i<=K arr n1:=λi hi=>by
  have t:=k2 i hi;unfold aV at t;rw[if_neg (by simp),Nat.zero_add] at t
  simp at t;rw[kb];exact t
 have GV:∀i,k<=i->i<n1->K arr n1<K arr i:=λi hi iK=>by
  have t:=k3 i hi iK;unfold aV at t;rw[if_neg (by simp),Nat.zero_add] at t
  simp at t;rw[kb];exact t
 refine aA (λe=>wpS_pure (h _ (Array.Perm.refl _) hf ep λi j dR hj=>?_)) λe=>?_
 ·have e:k=n1:=by simp at e;omega
  show K arr i<=K arr j;by_cases lH:j<n1
  ·exact S1 i j dR lH
  ·by_cases tN:n1<=i
   ·exact S2 i j tN dR hj
   ·exact Int.le_trans (tM i (by omega)) (S2 n1 j (Nat.le_refl _) (by omega) hj)
 have e:k<n1:=by simp at e;omega
 have ei:0+k+(n1 - k) - 1=n1 - 1:=by omega
 rw[ei];obtain⟨pa,ea,cQ,ka⟩:=bV ia (show n1 - 1<arr.size by omega)
 refine wpS_bind (bg ea (wpS_bind (eG hk cQ ia (show n1+n2<=arr.size by omega) (by omega) (λi j h3 h4 h5=>S2 i j h3 h4 (by omega)) λnb q1 q2 q3=>?_)))
 dsimp only;have GW:∀i,n1<=i->i<n1+nb->K arr i<K arr (n1 - 1):=λi hi iK=>by
  have t:=q2 (i - n1) (by omega)
  unfold aV at t;rw[if_pos rfl,show n1+(i - n1)=i by omega] at t
  have t:=of_decide_eq_true t;rw[ka];exact t
 have zA:∀i,n1+nb<=i->i<arr.size->K arr (n1 - 1)<=K arr i:=λi hi iK=>by
  have t:=q3 (i - n1) (by omega) (by omega)
  unfold aV at t;rw[if_pos rfl,show n1+(i - n1)=i by omega] at t
  have t:=of_decide_eq_false t;rw[ka];omega
 refine aA (λe2=>wpS_pure (h _ (Array.Perm.refl _) hf ep λi j dR hj=>?_)) λe2=>?_
 ·have e2:nb=0:=by simpa using e2
  show K arr i<=K arr j;by_cases lH:j<n1
  ·exact S1 i j dR lH
  ·by_cases tN:n1<=i
   ·exact S2 i j tN dR hj
   ·exact Int.le_trans (S1 i (n1 - 1) (by omega) (by omega)) (zA j (by omega) hj)
 have e2:0<nb:=by simp at e2;omega
 have sx:(arr.extract k n1).size=n1 - k:=by rw[Array.size_extract];omega
 have sy:(arr.extract n1 (n1+nb)).size=nb:=by rw[Array.size_extract];omega
 have px:=oF (arr:=arr) (lo:=k) (hi:=n1) (by omega) λi j h3 h4 h5=>S1 i j h4 h5
 have py:=oF (arr:=arr) (lo:=n1) (hi:=n1+nb) (by omega) λi j h3 h4 h5=>S2 i j h3 h4 (by omega)
 have fin:∀(M:Array Keyed) (aK:SortSt),arrOf aK=arr->gK cF (arr.extract k n1).toList (arr.extract n1 (n1+nb)).toList M.toList->(List.foldl (λa x=>a.setIfInBounds (k+x.2) x.1) (arrOf aK) M.toList.zipIdx).Perm arr/\SortedTo (List.foldl (λa x=>a.setIfInBounds (k+x.2) x.1) (arrOf aK) M.toList.zipIdx) arr.size:=λM aK tO md=>by
  rw[tO];have lM:M.toList.length=n1 - k+nb:=by
   rw[md.p.length_eq,List.length_append];simp only[Array.length_toList];rw[sx,sy]
  have sa:=zz k M.toList 0 arr (by omega)
  rw[Nat.add_zero,lM,show k+(n1 - k+nb)=n1+nb by omega] at sa
  generalize (List.foldl (λa x=>a.setIfInBounds (k+x.2) x.1) arr M.toList.zipIdx)=F at sa ⊢;have eP:arr.toList.take k=(arr.extract 0 k).toList:=by simp
  have eS:arr.toList.drop (n1+nb)=(arr.extract (n1+nb) arr.size).toList:=(lD arr _).symm;rw[eP,eS] at sa;have pF:F.toList.Perm arr.toList:=by
   rw[sa];have e4:arr=arr.extract 0 k++(arr.extract k n1++arr.extract n1 (n1+nb))++arr.extract (n1+nb) arr.size:=by
    rw[Array.extract_append_extract,show min k n1=k by omega,show max n1 (n1+nb)=n1+nb by omega,Array.extract_append_extract,show min 0 k=0 by omega,show max k (n1+nb)=n1+nb by omega,Array.extract_append_extract,show min 0 (n1+nb)=0 by omega,show max (n1+nb) arr.size=arr.size by omega]
    simp
   have e3:arr.toList=(arr.extract 0 k).toList++((arr.extract k n1).toList++(arr.extract n1 (n1+nb)).toList)++(arr.extract (n1+nb) arr.size).toList:=by
    have:=congrArg Array.toList e4;rwa [Array.toList_append,Array.toList_append,Array.toList_append] at this
   conv=>rhs;rw[e3]
   exact List.Perm.append_right _ (List.Perm.append_left _ md.p)
  refine⟨Array.perm_iff_toList_perm.mpr pF,?_⟩;have Mw:F.size=arr.size:=by simpa using pF.length_eq
  have sF:F.toList.Pairwise cF:=by
   rw[sa,List.append_assoc];have bM:∀y∈M.toList,∃m,k<=m/\m<n1+nb/\arr[m]? = some y:=λy hy=>by
    rcases List.mem_append.mp (md.p.mem_iff.mp hy) with hy | hy
    ·obtain⟨m,g1,g2,g3⟩:=ext_mem hy;exact⟨m,g1,by omega,g3⟩
    ·obtain⟨m,g1,g2,g3⟩:=ext_mem hy;exact⟨m,by omega,g2,g3⟩
   have Kx:∀ {m:Nat} {y:Keyed},arr[m]? = some y->Kd y=K arr m:=λe=>(cj e).symm;refine List.pairwise_append.mpr ⟨oF (by omega) λi j _ h4 h5=>S1 i j h4 (by omega),List.pairwise_append.mpr ⟨md.s,oF (Nat.le_refl _) λi j h3 h4 h5=>S2 i j (by omega) h4 h5,λx hx y hy=>?_⟩,λx hx y hy=>?_⟩
   ·obtain⟨m,g1,g2,g3⟩:=bM x hx;obtain⟨m',g4,g5,g6⟩:=ext_mem hy
    show Kd x<=Kd y;rw[Kx g3,Kx g6];by_cases hm:m<n1
    ·exact Int.le_trans (S1 m (n1 - 1) (by omega) (by omega)) (zA m' g4 g5)
    ·exact S2 m m' (by omega) (by omega) g5
   ·obtain⟨m,g1,g2,g3⟩:=ext_mem hx
    show Kd x<=Kd y;rw[Kx g3];rcases List.mem_append.mp hy with hy | hy
    ·obtain⟨m',g4,g5,g6⟩:=bM y hy;rw[Kx g6];by_cases hm:m' < n1
     ·exact S1 m m' (by omega) hm
     ·exact Int.le_trans (tM m g2) (S2 n1 m' (Nat.le_refl _) (by omega) (by omega))
    ·obtain⟨m',g4,g5,g6⟩:=ext_mem hy;rw[Kx g6];exact Int.le_trans (tM m g2) (S2 n1 m' (Nat.le_refl _) (by omega) g5)
  intro i j dR hj;exact lC sF dR (by omega)
 have x0:∀i,i<(arr.extract k n1).size->K (arr.extract n1 (n1+nb)) 0<=K (arr.extract k n1) i:=λi hi=>by
  rw[sx] at hi;rw[oH (by omega) (by omega),oH (by omega) (by omega)]
  exact Int.le_of_lt (GV _ (by omega) (by omega))
 have xl:∀i,i<(arr.extract n1 (n1+nb)).size->K (arr.extract n1 (n1+nb)) i<=K (arr.extract k n1) ((arr.extract k n1).size - 1):=λi hi=>by
  rw[sy] at hi;rw[oH (by omega) (by omega),sx,oH (by omega) (by omega),show k+(n1 - k - 1)=n1 - 1 by omega]
  exact Int.le_of_lt (GW _ (by omega) (by omega))
 rw[Nat.zero_add];refine aA (λ_=>wpS_bind (GL hk (oG ia) (oG ia) px py (by omega) (by omega) (x0 0 (by omega)) xl λM aK g md=>?_)) λ_=>wpS_bind (GP hk (oG ia) (oG ia) px py (by omega) (by omega) x0 xl λM aK g md=>?_)
 all_goals
  have tO:arrOf aK=arr:=g.a;obtain⟨r1,r2⟩:=fin M aK tO md;refine wpS_bind (wpS_modify (wpS_bind (wpS_get (wpS_pure ?_))));have ff:failedOf aK=none:=g.f.trans hf
  show Q (failedOf aK).isNone _;rw[ff];exact h _ r1 ff (g.p.trans ep) r2
end
noncomputable def Rn(xs:Array Keyed)(lo n:Nat):Prop:=∀i j,lo<=i->i<=j->j<lo+n->K xs i<=K xs j
noncomputable def Nn(xs:Array Keyed)(lo n:Nat):Prop:=∀i j,lo<=i->i<=j->j<lo+n->K xs j<=K xs i
structure cR(a₀ r:Array Keyed)(pd:Array (Nat×Nat×Nat))(lo:Nat)(st:SortSt):Prop where
 perm:(arrOf st).Perm a₀
 kind:kindOf st=oneType'
 failed:failedOf st=none
 pend:pendingOf st=pd
 low:∀k,k<lo->K (arrOf st) k=K r k
section
variable{a₀ r:Array Keyed}{pd:Array (Nat×Nat×Nat)}{lo n:Nat}{st:SortSt}{xs:Array Keyed}
theorem cR.size(h:cR a₀ r pd lo st):(arrOf st).size=a₀.size:=h.perm.size_eq
theorem cR.rev(h:cR a₀ r pd lo st){i j:Nat}(hi:lo<=i)(hj:j<=(arrOf st).size):cR a₀ r pd lo (setArr st (mirror (arrOf st) i j ((j - i) / 2))):=by
 refine⟨(mirror_perm _ _ _ _).trans h.perm,h.kind,h.failed,h.pend,λk hk=>?_⟩
 show K (mirror (arrOf st) i j ((j - i) / 2)) k=_;rw[← h.low k hk];rw[K_mirror hj,if_neg (by omega)]
theorem Rn.snoc(h:Rn xs lo n)(h1:1<=n)(hl:¬ K xs (lo+n)<K xs (lo+n - 1)):Rn xs lo (n+1):=λi j g1 g2 g3=>by
 by_cases hj:j<lo+n
 ·exact h i j g1 g2 hj
 ·have ir:j=lo+n:=by omega
  subst ir;by_cases hi:i=lo+n
  ·subst hi;exact Int.le_refl _
  ·exact Int.le_trans (h i (lo+n - 1) g1 (by omega) (by omega)) (Int.not_lt.mp hl)
theorem Nn.snoc(h:Nn xs lo n)(h1:1<=n)(hl:K xs (lo+n)<K xs (lo+n - 1)):Nn xs lo (n+1):=λi j g1 g2 g3=>by
 by_cases hj:j<lo+n
 ·exact h i j g1 g2 hj
 ·have ir:j=lo+n:=by omega
  subst ir;by_cases hi:i=lo+n
  ·subst hi;exact Int.le_refl _
  ·exact Int.le_trans (Int.le_of_lt hl) (h i (lo+n - 1) g1 (by omega) (by omega))
end
section
variable{prog:Program}{w:World}{A:Around}{E:Value->Shared->Prop}{s:Shared}{a₀ r:Array Keyed}{pd:Array (Nat×Nat×Nat)}{lo:Nat}
theorem gc{st:SortSt}{i j:Nat}{Q:Option Bool->SortSt->Prop}(hB:cR a₀ r pd lo st)(h0:IntKeys a₀)(hi:i<a₀.size)(hj:j<a₀.size)
  (h:Q (some (decide (K (arrOf st) i<K (arrOf st) j))) st):wpS (model prog w) A E s (ltAt' i j) Q st:=by
 have ik:IntKeys (arrOf st):=λp hp=>h0 p ((Array.perm_iff_toList_perm.mp hB.perm).mem_iff.mp hp);obtain⟨p,ep,⟨a,t,ea⟩,kp⟩:=bV ik (show i<(arrOf st).size by rw[hB.size];exact hi)
 obtain⟨q,eq,⟨b,u,eb⟩,kq⟩:=bV ik (show j<(arrOf st).size by rw[hB.size];exact hj)
 have e1:K (arrOf st) i=a:=by rw[kp];show numOf p.1=a;rw[ea];rfl
 have e2:K (arrOf st) j=b:=by rw[kq];show numOf q.1=b;rw[eb];rfl
 rw[e1,e2] at h;exact wpS_ltAt (p:=p.2) (q:=q.2) (t:=t) (u:=u) hB.kind (by rw[ep,← ea]) (by rw[eq,← eb]) h
theorem zB{st:SortSt}{cV:Nat}{Q:Option Nat->SortSt->Prop}(h0:IntKeys a₀)(hn:lo+cV<=a₀.size)(GX:1<=cV)(hB:cR a₀ r pd lo st)
  (h:∀m ah,cR a₀ r pd lo ah->1<=m->m<=cV->Rn (arrOf ah) lo m->Q (some m) ah) :
  wpS (model prog w) A E s (countRun' lo cV) Q st:=by
 refine wpS_bind (wpS_mono (wpS_forRange (I:=λx c ah=>ah=st/\c=(none,x)/\Rn (arrOf st) lo x)
  (Q:=λc ah=>ah=st/\∃n,c=(none,n)/\1<=n/\n<=cV/\Rn (arrOf st) lo n/\(n=cV\/K (arrOf st) (lo+n)<K (arrOf st) (lo+n - 1))) ?s1 ?f1 ⟨rfl,rfl,λi j g1 g2 g3=>Int.le_of_eq (congrArg _ (by omega))⟩) ?p1)
 case f1 =>
  rintro c ah ⟨rfl,rfl,aT⟩;rw[show max 1 cV=cV by omega] at *
  exact⟨rfl,cV,rfl,GX,Nat.le_refl _,aT,.inl rfl⟩
 case s1 =>
  rintro x c ah eK j4 ⟨rfl,rfl,aT⟩;dsimp only;refine wpS_bind (gc hB h0 (by omega) (by omega) ?_)
  exact aA (λhw=>wpS_pure ⟨rfl,x,rfl,eK,by omega,aT,.inr (of_decide_eq_true hw)⟩) λhw=>wpS_pure ⟨rfl,rfl,aT.snoc eK λz=>hw (decide_eq_true z)⟩
 case p1 =>
  rintro c ah ⟨rfl,n,rfl,n1,n2,aT,GY⟩;dsimp only;refine aA (λe=>wpS_pure (h n _ hB n1 n2 aT)) λe=>?_
  have e:¬ n=cV:=by simpa using e
  have aY:K (arrOf ah) (lo+n)<K (arrOf ah) (lo+n - 1):=GY.resolve_left e;have hsz:lo+n<=(arrOf ah).size:=by rw[hB.size];omega
  refine aA (λGZ=>?_) λGZ=>?_
  ·refine wpS_bind (gc hB h0 (by omega) (by omega) ?_)
   refine aA (λhw=>wpS_pure (h n _ hB n1 n2 aT)) λhw=>?_
   have hw:¬ K (arrOf ah) lo<K (arrOf ah) (lo+n - 1):=λz=>hw (decide_eq_true z);have eY:∀k,lo<=k->k<lo+n->K (arrOf ah) k=K (arrOf ah) (lo+n - 1):=λk g1 g2=>by
    have a1:=aT lo k (Nat.le_refl _) g1 g2;have a2:=aT k (lo+n - 1) g1 (by omega) (by omega)
    omega
   refine wpS_bind (wpS_reverse ?_);have B1:=hB.rev (i:=lo) (j:=lo+n) (Nat.le_refl _) hsz;have N1:Nn (mirror (arrOf ah) lo (lo+n) ((lo+n - lo) / 2)) lo (n+1):=λi j g1 g2 g3=>by
    rw[K_mirror_equal hsz eY,K_mirror_equal hsz eY];by_cases hj:j<lo+n
    ·rw[eY i (by omega) (by omega),eY j (by omega) hj];exact Int.le_refl _
    ·have ir:j=lo+n:=by omega
     subst ir;by_cases hi:i=lo+n
     ·subst hi;exact Int.le_refl _
     ·rw[eY i (by omega) (by omega)];exact Int.le_of_lt aY
   refine wpS_bind (wpS_lift (wpAny_rule ⟨rfl,?_⟩));refine wpS_bind (wpS_mono (wpS_forRange (I:=λx c ah=>∃aQ,c=(none,x,aQ)/\cR a₀ r pd lo ah/\Nn (arrOf ah) lo x/\aQ+1<=x/\(∀i,lo+x - (aQ+1)<=i->i<lo+x->K (arrOf ah) i=K (arrOf ah) (lo+x - 1)))
    (Q:=λc ah=>∃aQ m,c=(none,m,aQ)/\cR a₀ r pd lo ah/\n+1<=m/\m<=cV/\Nn (arrOf ah) lo m/\aQ+1<=m/\(∀i,lo+m - (aQ+1)<=i->i<lo+m->K (arrOf ah) i=K (arrOf ah) (lo+m - 1))) ?_ ?_ ⟨0,rfl,B1,N1,by omega,λi g1 g2=>by congr 1;omega⟩) ?_)
   ·rintro x c ah eK j4 ⟨aQ,rfl,B',N',hq,he⟩;dsimp only;have hsz:lo+x<=(arrOf ah).size:=by rw[B'.size];omega
    refine wpS_bind (gc B' h0 (by omega) (by omega) ?_)
    refine aA (λhw=>?_) λhw=>?_
    ·have hw:=of_decide_eq_true hw;have lI:∀xs:Array Keyed,(∀k,K xs k=K (arrOf ah) k)->Nn xs lo (x+1):=λxs hk i j g1 g2 g3=>by
      rw[hk,hk];exact N'.snoc (by omega) hw i j g1 g2 g3
     refine aA (λjA=>?_) λjA=>?_
     ·exact wpS_bind (wpS_reverse (wpS_pure ⟨0,rfl,B'.rev (by omega) hsz,lI _ (K_mirror_equal hsz he),by omega,λi g1 g2=>by congr 1;omega⟩))
     ·exact wpS_pure ⟨0,rfl,B',lI _ (λ_=>rfl),by omega,λi g1 g2=>by congr 1;omega⟩
    ·have hw:¬ K (arrOf ah) (lo+x)<K (arrOf ah) (lo+x - 1):=λz=>hw (decide_eq_true z);refine wpS_bind (gc B' h0 (by omega) (by omega) ?_)
     refine aA (λhl=>wpS_pure ⟨aQ,x,rfl,B',eK,by omega,N',hq,he⟩) λhl=>?_
     have hl:¬ K (arrOf ah) (lo+x - 1)<K (arrOf ah) (lo+x):=λz=>hl (decide_eq_true z);have lJ:K (arrOf ah) (lo+x)=K (arrOf ah) (lo+x - 1):=by omega
     refine wpS_pure ⟨aQ+1,rfl,B',λi j g1 g2 g3=>?_,by omega,λi g1 g2=>?_⟩
     ·by_cases tQ:j<lo+x
      ·exact N' i j g1 g2 tQ
      ·have ir:j=lo+x:=by omega
       subst ir;by_cases fZ:i=lo+x
       ·subst fZ;exact Int.le_refl _
       ·rw[lJ];exact N' i (lo+x - 1) g1 (by omega) (by omega)
     ·rw[show lo+(x+1) - 1=lo+x by omega]
      by_cases tR:i=lo+x
      ·subst tR;rfl
      ·rw[lJ];exact he i (by omega) (by omega)
   ·rintro c ah ⟨aQ,rfl,B',N',hq,he⟩;rw[show max (n+1) cV=cV by omega] at *
    exact⟨aQ,_,rfl,B',by omega,Nat.le_refl _,N',hq,he⟩
   ·rintro c aK ⟨aQ,m,rfl,B2,m1,m2,N2,hq,he⟩;dsimp only;have hsz:lo+m<=(arrOf aK).size:=by rw[B2.size];omega
    refine aA (λjA=>?_) λjA=>?_
    ·refine wpS_bind (wpS_reverse ?_);have lK:=B2.rev (i:=lo+m - (aQ+1)) (j:=lo+m) (by omega) hsz
     have jB:Nn (mirror (arrOf aK) (lo+m - (aQ+1)) (lo+m) ((lo+m - (lo+m - (aQ+1))) / 2)) lo m:=λi j g1 g2 g3=>by
      rw[K_mirror_equal hsz he,K_mirror_equal hsz he];exact N2 i j g1 g2 g3
     have dY:lo+m<=(arrOf (setArr aK (mirror (arrOf aK) (lo+m - (aQ+1)) (lo+m) ((lo+m - (lo+m - (aQ+1))) / 2)))).size:=by rw[lK.size];omega
     refine wpS_bind (wpS_reverse ?_);have B3:=lK.rev (i:=lo) (j:=lo+m) (Nat.le_refl _) dY;have R3:Rn (mirror (arrOf (setArr aK (mirror (arrOf aK) (lo+m - (aQ+1)) (lo+m) ((lo+m - (lo+m - (aQ+1))) / 2)))) lo (lo+m) ((lo+m - lo) / 2)) lo m:=by
      intro i j h1 h2 h3;rw[K_mirror dY,K_mirror dY,if_pos (by omega),if_pos (by omega)]
      exact jB _ _ (by omega) (by omega) (by omega)
     refine wpS_bind (wpS_mono (wpS_forRange (I:=λx c ah=>ah=setArr (setArr aK (mirror (arrOf aK) (lo+m - (aQ+1)) (lo+m) ((lo+m - (lo+m - (aQ+1))) / 2))) (mirror (arrOf (setArr aK (mirror (arrOf aK) (lo+m - (aQ+1)) (lo+m) ((lo+m - (lo+m - (aQ+1))) / 2)))) lo (lo+m) ((lo+m - lo) / 2))/\c=(none,x)/\Rn (arrOf ah) lo x)
      (Q:=λc ah=>ah=setArr (setArr aK (mirror (arrOf aK) (lo+m - (aQ+1)) (lo+m) ((lo+m - (lo+m - (aQ+1))) / 2))) (mirror (arrOf (setArr aK (mirror (arrOf aK) (lo+m - (aQ+1)) (lo+m) ((lo+m - (lo+m - (aQ+1))) / 2)))) lo (lo+m) ((lo+m - lo) / 2))/\∃x,c=(none,x)/\m<=x/\x<=cV/\Rn (arrOf ah) lo x) ?_ ?_ ⟨rfl,rfl,R3⟩) ?_)
     ·rintro x c ah eK j4 ⟨rfl,rfl,aT⟩;dsimp only;refine wpS_bind (gc B3 h0 (by omega) (by omega) ?_)
      refine aA (λhw=>wpS_pure ⟨rfl,x,rfl,eK,by omega,aT⟩) λhw=>wpS_pure ⟨rfl,rfl,aT.snoc (by omega) (λz=>hw (decide_eq_true z))⟩
     ·rintro c ah ⟨rfl,rfl,aT⟩;exact⟨rfl,_,rfl,by omega,by omega,aT⟩
     ·rintro c ah ⟨rfl,x,rfl,g1,g2,aT⟩;exact wpS_pure (h x _ B3 (by omega) g2 aT)
    ·have jB:=N2;have dY:lo+m<=(arrOf aK).size:=by rw[B2.size];omega
     refine wpS_bind (wpS_reverse ?_);have B3:=B2.rev (i:=lo) (j:=lo+m) (Nat.le_refl _) dY;have R3:Rn (mirror (arrOf aK) lo (lo+m) ((lo+m - lo) / 2)) lo m:=by
      intro i j h1 h2 h3;rw[K_mirror dY,K_mirror dY,if_pos (by omega),if_pos (by omega)]
      exact jB _ _ (by omega) (by omega) (by omega)
     refine wpS_bind (wpS_mono (wpS_forRange (I:=λx c ah=>ah=setArr aK (mirror (arrOf aK) lo (lo+m) ((lo+m - lo) / 2))/\c=(none,x)/\Rn (arrOf ah) lo x)
      (Q:=λc ah=>ah=setArr aK (mirror (arrOf aK) lo (lo+m) ((lo+m - lo) / 2))/\∃x,c=(none,x)/\m<=x/\x<=cV/\Rn (arrOf ah) lo x) ?_ ?_ ⟨rfl,rfl,R3⟩) ?_)
     ·rintro x c ah eK j4 ⟨rfl,rfl,aT⟩;dsimp only;refine wpS_bind (gc B3 h0 (by omega) (by omega) ?_)
      refine aA (λhw=>wpS_pure ⟨rfl,x,rfl,eK,by omega,aT⟩) λhw=>wpS_pure ⟨rfl,rfl,aT.snoc (by omega) (λz=>hw (decide_eq_true z))⟩
     ·rintro c ah ⟨rfl,rfl,aT⟩;exact⟨rfl,_,rfl,by omega,by omega,aT⟩
     ·rintro c ah ⟨rfl,x,rfl,g1,g2,aT⟩;exact wpS_pure (h x _ B3 (by omega) g2 aT)
  ·have jO:n=1:=by omega
   have B1:=hB;have N1:Nn (arrOf ah) lo (n+1):=λi j g1 g2 g3=>by
    by_cases hi:i=j
    ·subst hi;exact Int.le_refl _
    ·have G0:i=lo+n - 1:=by omega
     have lH:j=lo+n:=by omega
     subst G0;subst lH;exact Int.le_of_lt aY
   refine wpS_bind (wpS_lift (wpAny_rule ⟨rfl,?_⟩));refine wpS_bind (wpS_mono (wpS_forRange (I:=λx c ah=>∃aQ,c=(none,x,aQ)/\cR a₀ r pd lo ah/\Nn (arrOf ah) lo x/\aQ+1<=x/\(∀i,lo+x - (aQ+1)<=i->i<lo+x->K (arrOf ah) i=K (arrOf ah) (lo+x - 1)))
    (Q:=λc ah=>∃aQ m,c=(none,m,aQ)/\cR a₀ r pd lo ah/\n+1<=m/\m<=cV/\Nn (arrOf ah) lo m/\aQ+1<=m/\(∀i,lo+m - (aQ+1)<=i->i<lo+m->K (arrOf ah) i=K (arrOf ah) (lo+m - 1))) ?_ ?_ ⟨0,rfl,B1,N1,by omega,λi g1 g2=>by congr 1;omega⟩) ?_)
   ·rintro x c ah eK j4 ⟨aQ,rfl,B',N',hq,he⟩;dsimp only;have hsz:lo+x<=(arrOf ah).size:=by rw[B'.size];omega
    refine wpS_bind (gc B' h0 (by omega) (by omega) ?_)
    refine aA (λhw=>?_) λhw=>?_
    ·have hw:=of_decide_eq_true hw;have lI:∀xs:Array Keyed,(∀k,K xs k=K (arrOf ah) k)->Nn xs lo (x+1):=λxs hk i j g1 g2 g3=>by
      rw[hk,hk];exact N'.snoc (by omega) hw i j g1 g2 g3
     refine aA (λjA=>?_) λjA=>?_
     ·exact wpS_bind (wpS_reverse (wpS_pure ⟨0,rfl,B'.rev (by omega) hsz,lI _ (K_mirror_equal hsz he),by omega,λi g1 g2=>by congr 1;omega⟩))
     ·exact wpS_pure ⟨0,rfl,B',lI _ (λ_=>rfl),by omega,λi g1 g2=>by congr 1;omega⟩
    ·have hw:¬ K (arrOf ah) (lo+x)<K (arrOf ah) (lo+x - 1):=λz=>hw (decide_eq_true z);refine wpS_bind (gc B' h0 (by omega) (by omega) ?_)
     refine aA (λhl=>wpS_pure ⟨aQ,x,rfl,B',eK,by omega,N',hq,he⟩) λhl=>?_
     have hl:¬ K (arrOf ah) (lo+x - 1)<K (arrOf ah) (lo+x):=λz=>hl (decide_eq_true z);have lJ:K (arrOf ah) (lo+x)=K (arrOf ah) (lo+x - 1):=by omega
     refine wpS_pure ⟨aQ+1,rfl,B',λi j g1 g2 g3=>?_,by omega,λi g1 g2=>?_⟩
     ·by_cases tQ:j<lo+x
      ·exact N' i j g1 g2 tQ
      ·have ir:j=lo+x:=by omega
       subst ir;by_cases fZ:i=lo+x
       ·subst fZ;exact Int.le_refl _
       ·rw[lJ];exact N' i (lo+x - 1) g1 (by omega) (by omega)
     ·rw[show lo+(x+1) - 1=lo+x by omega]
      by_cases tR:i=lo+x
      ·subst tR;rfl
      ·rw[lJ];exact he i (by omega) (by omega)
   ·rintro c ah ⟨aQ,rfl,B',N',hq,he⟩;rw[show max (n+1) cV=cV by omega] at *
    exact⟨aQ,_,rfl,B',by omega,Nat.le_refl _,N',hq,he⟩
   ·rintro c aK ⟨aQ,m,rfl,B2,m1,m2,N2,hq,he⟩;dsimp only;have hsz:lo+m<=(arrOf aK).size:=by rw[B2.size];omega
    refine aA (λjA=>?_) λjA=>?_
    ·refine wpS_bind (wpS_reverse ?_);have lK:=B2.rev (i:=lo+m - (aQ+1)) (j:=lo+m) (by omega) hsz
     have jB:Nn (mirror (arrOf aK) (lo+m - (aQ+1)) (lo+m) ((lo+m - (lo+m - (aQ+1))) / 2)) lo m:=λi j g1 g2 g3=>by
      rw[K_mirror_equal hsz he,K_mirror_equal hsz he];exact N2 i j g1 g2 g3
     have dY:lo+m<=(arrOf (setArr aK (mirror (arrOf aK) (lo+m - (aQ+1)) (lo+m) ((lo+m - (lo+m - (aQ+1))) / 2)))).size:=by rw[lK.size];omega
     refine wpS_bind (wpS_reverse ?_);have B3:=lK.rev (i:=lo) (j:=lo+m) (Nat.le_refl _) dY;have R3:Rn (mirror (arrOf (setArr aK (mirror (arrOf aK) (lo+m - (aQ+1)) (lo+m) ((lo+m - (lo+m - (aQ+1))) / 2)))) lo (lo+m) ((lo+m - lo) / 2)) lo m:=by
      intro i j h1 h2 h3;rw[K_mirror dY,K_mirror dY,if_pos (by omega),if_pos (by omega)]
      exact jB _ _ (by omega) (by omega) (by omega)
     refine wpS_bind (wpS_mono (wpS_forRange (I:=λx c ah=>ah=setArr (setArr aK (mirror (arrOf aK) (lo+m - (aQ+1)) (lo+m) ((lo+m - (lo+m - (aQ+1))) / 2))) (mirror (arrOf (setArr aK (mirror (arrOf aK) (lo+m - (aQ+1)) (lo+m) ((lo+m - (lo+m - (aQ+1))) / 2)))) lo (lo+m) ((lo+m - lo) / 2))/\c=(none,x)/\Rn (arrOf ah) lo x)
      (Q:=λc ah=>ah=setArr (setArr aK (mirror (arrOf aK) (lo+m - (aQ+1)) (lo+m) ((lo+m - (lo+m - (aQ+1))) / 2))) (mirror (arrOf (setArr aK (mirror (arrOf aK) (lo+m - (aQ+1)) (lo+m) ((lo+m - (lo+m - (aQ+1))) / 2)))) lo (lo+m) ((lo+m - lo) / 2))/\∃x,c=(none,x)/\m<=x/\x<=cV/\Rn (arrOf ah) lo x) ?_ ?_ ⟨rfl,rfl,R3⟩) ?_)
     ·rintro x c ah eK j4 ⟨rfl,rfl,aT⟩;dsimp only;refine wpS_bind (gc B3 h0 (by omega) (by omega) ?_)
      refine aA (λhw=>wpS_pure ⟨rfl,x,rfl,eK,by omega,aT⟩) λhw=>wpS_pure ⟨rfl,rfl,aT.snoc (by omega) (λz=>hw (decide_eq_true z))⟩
     ·rintro c ah ⟨rfl,rfl,aT⟩;exact⟨rfl,_,rfl,by omega,by omega,aT⟩
     ·rintro c ah ⟨rfl,x,rfl,g1,g2,aT⟩;exact wpS_pure (h x _ B3 (by omega) g2 aT)
    ·have jB:=N2;have dY:lo+m<=(arrOf aK).size:=by rw[B2.size];omega
     refine wpS_bind (wpS_reverse ?_);have B3:=B2.rev (i:=lo) (j:=lo+m) (Nat.le_refl _) dY;have R3:Rn (mirror (arrOf aK) lo (lo+m) ((lo+m - lo) / 2)) lo m:=by
      intro i j h1 h2 h3;rw[K_mirror dY,K_mirror dY,if_pos (by omega),if_pos (by omega)]
      exact jB _ _ (by omega) (by omega) (by omega)
     refine wpS_bind (wpS_mono (wpS_forRange (I:=λx c ah=>ah=setArr aK (mirror (arrOf aK) lo (lo+m) ((lo+m - lo) / 2))/\c=(none,x)/\Rn (arrOf ah) lo x)
      (Q:=λc ah=>ah=setArr aK (mirror (arrOf aK) lo (lo+m) ((lo+m - lo) / 2))/\∃x,c=(none,x)/\m<=x/\x<=cV/\Rn (arrOf ah) lo x) ?_ ?_ ⟨rfl,rfl,R3⟩) ?_)
     ·rintro x c ah eK j4 ⟨rfl,rfl,aT⟩;dsimp only;refine wpS_bind (gc B3 h0 (by omega) (by omega) ?_)
      refine aA (λhw=>wpS_pure ⟨rfl,x,rfl,eK,by omega,aT⟩) λhw=>wpS_pure ⟨rfl,rfl,aT.snoc (by omega) (λz=>hw (decide_eq_true z))⟩
     ·rintro c ah ⟨rfl,rfl,aT⟩;exact⟨rfl,_,rfl,by omega,by omega,aT⟩
     ·rintro c ah ⟨rfl,x,rfl,g1,g2,aT⟩;exact wpS_pure (h x _ B3 (by omega) g2 aT)
end
section
variable{prog:Program}{w:World}{A:Around}{E:Value->Shared->Prop}{s:Shared}{a₀ r:Array Keyed}{pd:Array (Nat×Nat×Nat)}{lo:Nat}
theorem cR.G1{st:SortSt}(h:cR a₀ r pd lo st){k l:Nat}(hl:l<=k)(hk:lo+k<(arrOf st).size):cR a₀ r pd lo (setArr st (bubble (arrOf st) (lo+k) (lo+k - (lo+l)))):=by
 refine⟨(bubble_perm _ _ _).trans h.perm,h.kind,h.failed,h.pend,λi hi=>?_⟩
 show K (bubble (arrOf st) (lo+k) (lo+k - (lo+l))) i=_;rw[← h.low i hi,K_bubble hk (by omega),if_neg (by omega),if_neg (by omega)]
theorem zC{st:SortSt}{n ok:Nat}{Q:Bool->SortSt->Prop}(h0:IntKeys a₀)(hn:lo+n<=a₀.size)(aD:ok<=n)(hB:cR a₀ r pd lo st)(hs:Rn (arrOf st) lo ok)
  (h:∀ah,cR a₀ r pd lo ah->Rn (arrOf ah) lo n->Q true ah):wpS (model prog w) A E s (binarySort' lo n ok) Q st:=by
 refine wpS_bind (wpS_mono (wpS_forRange (I:=λk c ah=>c=(none,())/\cR a₀ r pd lo ah/\Rn (arrOf ah) lo (min k n))
  (Q:=λc ah=>c=(none,())/\cR a₀ r pd lo ah/\Rn (arrOf ah) lo n) ?step ?fin ⟨rfl,hB,λi j g1 g2 g3=>?_⟩) ?post)
 case post =>
  rintro c ah ⟨rfl,fM,aT⟩;exact wpS_pure (h ah fM aT)
 case fin =>
  rintro c ah ⟨hc,fM,aT⟩;rw[show min (max (max ok 1) n) n=n by omega] at aT
  exact⟨hc,fM,aT⟩
 case step =>
  rintro k c ah Mx My ⟨rfl,fM,aT⟩;rw[show min k n=k by omega] at aT
  have tT:lo+k<(arrOf ah).size:=by rw[fM.size];omega
  refine wpS_bind (wpS_mono (wpS_forRange (I:=λx c aP=>aP=ah/\∃l r,c=(none,l,r)/\l<=r/\r<=k/\r - l<=k - x/\
    (∀i,i<l->K (arrOf ah) (lo+i)<=K (arrOf ah) (lo+k))/\(∀i,r<=i->i<k->K (arrOf ah) (lo+k)<K (arrOf ah) (lo+i)))
   (Q:=λc aP=>aP=ah/\∃l r,c=(none,l,r)/\l<=k/\
    (∀i,i<l->K (arrOf ah) (lo+i)<=K (arrOf ah) (lo+k))/\(∀i,l<=i->i<k->K (arrOf ah) (lo+k)<K (arrOf ah) (lo+i))) ?istep ?ifin ⟨rfl,0,k,rfl,by omega,by omega,by omega,λi hi=>by omega,λi h1 h2=>by omega⟩) ?ipost)
  case ifin =>
   rintro c aP ⟨rfl,l,r,rfl,G2,tU,hm,jq,j5⟩;have:l=r:=by omega
   subst this;exact⟨rfl,l,l,rfl,tU,jq,j5⟩
  case istep =>
   rintro x c aP _ Mz ⟨rfl,l,r,rfl,G2,tU,hm,jq,j5⟩;dsimp only;refine aA (λcX=>?_) λcX=>?_
   ·have:l=r:=by omega
    subst this;exact wpS_pure ⟨rfl,l,l,rfl,tU,jq,j5⟩
   ·refine wpS_bind (gc fM h0 (by omega) (by omega) ?_)
    refine aA (λhw=>?_) λhw=>?_
    ·have hw:=of_decide_eq_true hw;refine wpS_pure ⟨rfl,l,(l+r) / 2,rfl,by omega,by omega,by omega,jq,λi h1 h2=>?_⟩
     exact Int.lt_of_lt_of_le hw (aT _ _ (by omega) (by omega) (by omega))
    ·have hw:¬ K (arrOf aP) (lo+k)<K (arrOf aP) (lo+(l+r) / 2):=λz=>hw (decide_eq_true z);refine wpS_pure ⟨rfl,(l+r) / 2+1,r,rfl,by omega,by omega,by omega,λi h1=>?_,j5⟩
     exact Int.le_trans (aT (lo+i) (lo+(l+r) / 2) (by omega) (by omega) (by omega)) (Int.not_lt.mp hw)
  case ipost =>
   rintro c aP ⟨rfl,l,r,rfl,G3,jq,j5⟩;dsimp only
   show wpS _ _ _ _ (moveDown' (lo+k) (lo+l) >>= λ_=>pure (ForInStep.yield (none,()))) _ _;rw[moveDown'_eq];refine wpS_bind (wpS_modify (wpS_pure ⟨rfl,fM.G1 G3 tT,?_⟩));rw[show min (k+1) n=k+1 by omega]
   intro i j g1 dR hj
   show K (bubble (arrOf aP) (lo+k) (lo+k - (lo+l))) i<=K (bubble (arrOf aP) (lo+k) (lo+k - (lo+l))) j;rw[K_bubble tT (by omega),K_bubble tT (by omega),show lo+k - (lo+k - (lo+l))=lo+l by omega]
   have G4:∀i,lo<=i->i<lo+l->K (arrOf aP) i<=K (arrOf aP) (lo+k):=λi h1 h2=>by
    have:=jq (i - lo) (by omega)
    rwa [show lo+(i - lo)=i by omega] at this
   have G5:∀i,lo+l<=i->i<lo+k->K (arrOf aP) (lo+k)<=K (arrOf aP) i:=λi h1 h2=>by
    have:=j5 (i - lo) (by omega) (by omega)
    rw[show lo+(i - lo)=i by omega] at this
    exact Int.le_of_lt this
   repeat' split
   all_goals first
    | (exfalso;omega)
    | exact Int.le_refl _
    | exact G4 _ (by omega) (by omega)
    | exact G5 _ (by omega) (by omega)
    | exact aT _ _ (by omega) (by omega) (by omega)
 ·by_cases h1:ok=0
  ·exact Int.le_of_eq (congrArg _ (by omega))
  ·exact hs i j g1 g2 (by omega)
end
section
variable{prog:Program}{w:World}{A:Around}{E:Value->Shared->Prop}{s:Shared}{a₀:Array Keyed}
structure zD(a₀:Array Keyed)(n:Nat)(st:SortSt):Prop where
 perm:(arrOf st).Perm a₀
 kind:kindOf st=oneType'
 failed:failedOf st=none
 pend:pendingOf st = #[(0,n,0)]
 lN:Rn (arrOf st) 0 n
structure tV(a₀:Array Keyed)(n m pw:Nat)(st:SortSt):Prop where
 perm:(arrOf st).Perm a₀
 kind:kindOf st=oneType'
 failed:failedOf st=none
 pend:pendingOf st = #[(0,n,pw),(n,m,0)]
 lN:Rn (arrOf st) 0 n
 G6:Rn (arrOf st) n m
theorem G7{st:SortSt}{Q:Unit->SortSt->Prop}(h0:IntKeys a₀)(hB:SBase a₀ st)(MA:64<=a₀.size)(MB:a₀.size<128)
  (h:∀ah,(arrOf ah).Perm a₀->failedOf ah=none->SortedTo (arrOf ah) a₀.size->Q () ah):wpS (model prog w) A E s sortRuns' Q st:=by
 refine wpS_bind (wpS_get ?_);dsimp only;obtain⟨mr,G8,MC,MD⟩:∃mr,minRun' a₀.size a₀.size 0=mr/\a₀.size<=2*mr/\mr<a₀.size:=by
  obtain⟨f,hf⟩:∃f,a₀.size=f+1+1:=⟨a₀.size - 2,by omega⟩
  have e:minRun' (f+1+1) a₀.size 0=a₀.size / 2+max 0 (a₀.size % 2):=by
   rw[minRun'_succ,if_neg (by omega),minRun'_succ,if_pos (by omega)]
  rw[← hf] at e;exact⟨_,e,by omega,by omega⟩
 have G9:(arrOf st).size=a₀.size:=hB.size;have G_:(sortPriv% PySem.Builtin.minRun) a₀.size a₀.size 0=mr:=G8;rw[G9,G_];refine wpS_bind (wpS_mono (wpS_forRange
  (I:=λx c ah=>(x=0/\c=(none,0)/\SBase a₀ ah)\/(x=1/\∃n,c=(none,n)/\mr<=n/\n<=a₀.size/\zD a₀ n ah)\/(2<=x/\∃n m pw,c=(none,a₀.size)/\0<n/\0<m/\n+m=a₀.size/\tV a₀ n m pw ah))
  (Q:=λc ah=>c=(none,a₀.size)/\(zD a₀ a₀.size ah\/∃n m pw,0<n/\0<m/\n+m=a₀.size/\tV a₀ n m pw ah)) ?step ?fin (.inl ⟨rfl,rfl,hB⟩)) ?post)
 case fin =>
  rintro c ah (⟨hx,_,_⟩ | ⟨hx,_⟩ | ⟨_,n,m,pw,hc,h1,h2,h3,h4⟩)
  ·omega
  ·omega
  ·exact⟨hc,.inr ⟨n,m,pw,h1,h2,h3,h4⟩⟩
 case step =>
  rintro x c ah _ hx (⟨rfl,rfl,fM⟩ | ⟨rfl,n,rfl,n1,n2,r1⟩ | ⟨ME,n,m,pw,rfl,h1,h2,h3,h4⟩)
  ·dsimp only;rw[if_neg (by omega),Nat.sub_zero]
   have sb:cR a₀ (arrOf ah) #[] 0 ah:=⟨fM.perm,fM.kind,fM.failed,fM.pend,λ_ _=>rfl⟩;refine wpS_bind (zB h0 (by omega) (by omega) sb λm aK B2 m1 m2 s2=>?_)
   dsimp only;refine aA (λaY=>?_) λaY=>?_
   ·refine wpS_bind (wpS_lift (wpAny_rule ⟨rfl,?_⟩));rw[show min a₀.size mr=mr by omega]
    refine wpS_bind (zC h0 (by omega) (by omega) B2 s2 λbT B3 s3=>?_)
    rw[if_neg (by simp)]
    refine wpS_bind (wpS_get ?_);have hb:(pendingOf bT).back? = none:=by rw[B3.pend];rfl
    rw[hb];dsimp only;refine wpS_bind (wpS_modify (wpS_pure (.inr (.inl ⟨rfl,mr,by rw[Nat.zero_add],Nat.le_refl _,by omega,⟨B3.perm,B3.kind,B3.failed,?_,s3⟩⟩))))
    show (pendingOf bT).push _=_;rw[B3.pend]
    rfl
   ·refine wpS_bind (wpS_get ?_);have hb:(pendingOf aK).back? = none:=by rw[B2.pend];rfl
    rw[hb];dsimp only;refine wpS_bind (wpS_modify (wpS_pure (.inr (.inl ⟨rfl,m,by rw[Nat.zero_add],by omega,by omega,⟨B2.perm,B2.kind,B2.failed,?_,s2⟩⟩))))
    show (pendingOf aK).push _=_;rw[B2.pend]
    rfl
  ·dsimp only;refine aA (λcX=>?_) λcX=>?_
   ·have:n=a₀.size:=by omega
    subst this;exact wpS_pure ⟨rfl,.inl r1⟩
   ·have sb:cR a₀ (arrOf ah) #[(0,n,0)] n ah:=⟨r1.perm,r1.kind,r1.failed,r1.pend,λ_ _=>rfl⟩;refine wpS_bind (zB h0 (by omega) (by omega) sb λm aK B2 m1 m2 s2=>?_)
    dsimp only;refine aA (λaY=>?_) λaY=>?_
    ·refine wpS_bind (wpS_lift (wpAny_rule ⟨rfl,?_⟩));rw[show min (a₀.size - n) mr=a₀.size - n by omega]
     refine wpS_bind (zC h0 (by omega) m2 B2 s2 λbT B3 R3=>?_)
     simp only[Bool.not_true,Bool.false_eq_true,if_false];refine wpS_bind (wpS_get ?_);have hb:(pendingOf bT).back? = some (0,n,0):=by rw[B3.pend];rfl
     rw[hb];dsimp only;refine wpS_bind (wpS_mono (wpS_forRange (I:=λ_ c aP=>aP=bT/\c=(none,())) (Q:=λc aP=>aP=bT/\c=(none,())) ?_ (λ_ _ hh=>hh) ⟨rfl,rfl⟩) ?_)
     ·rintro x c aP _ _ ⟨rfl,rfl⟩;refine wpS_bind (wpS_get ?_);rw[if_neg (by show ¬ (pendingOf _).size > 1;rw[B3.pend];exact Nat.lt_irrefl 1)]
      exact wpS_pure ⟨rfl,rfl⟩
     ·rintro c aP ⟨rfl,rfl⟩;dsimp only;refine wpS_bind (wpS_modify (wpS_bind (wpS_modify (wpS_pure (.inr (.inr ⟨by omega,n,a₀.size - n,power' a₀.size (2*0+n) (2*0+n+n+(a₀.size - n)) a₀.size,by congr 1;omega,by omega,by omega,by omega,⟨B3.perm,B3.kind,B3.failed,?_,λi j g1 g2 g3=>?_,R3⟩⟩))))))
      ·show ((pendingOf _).modify ((pendingOf _).size - 1) _).push _=_;rw[B3.pend]
       rfl
      ·show K (arrOf _) i<=K (arrOf _) j;rw[B3.low i (by omega),B3.low j (by omega)]
       exact r1.lN i j g1 g2 g3
    ·have em:m=a₀.size - n:=by omega
     have B3:=B2;have R3:=s2;refine wpS_bind (wpS_get ?_);have hb:(pendingOf aK).back? = some (0,n,0):=by rw[B3.pend];rfl
     rw[hb];dsimp only;refine wpS_bind (wpS_mono (wpS_forRange (I:=λ_ c aP=>aP=aK/\c=(none,())) (Q:=λc aP=>aP=aK/\c=(none,())) ?_ (λ_ _ hh=>hh) ⟨rfl,rfl⟩) ?_)
     ·rintro x c aP _ _ ⟨rfl,rfl⟩;refine wpS_bind (wpS_get ?_);rw[if_neg (by show ¬ (pendingOf _).size > 1;rw[B3.pend];exact Nat.lt_irrefl 1)]
      exact wpS_pure ⟨rfl,rfl⟩
     ·rintro c aP ⟨rfl,rfl⟩;dsimp only;refine wpS_bind (wpS_modify (wpS_bind (wpS_modify (wpS_pure (.inr (.inr ⟨by omega,n,m,power' a₀.size (2*0+n) (2*0+n+n+m) a₀.size,by congr 1;omega,by omega,by omega,by omega,⟨B3.perm,B3.kind,B3.failed,?_,λi j g1 g2 g3=>?_,R3⟩⟩))))))
      ·show ((pendingOf _).modify ((pendingOf _).size - 1) _).push _=_;rw[B3.pend]
       rfl
      ·show K (arrOf _) i<=K (arrOf _) j;rw[B3.low i (by omega),B3.low j (by omega)]
       exact r1.lN i j g1 g2 g3
  ·dsimp only;rw[if_pos (Nat.le_refl _)];exact wpS_pure ⟨rfl,.inr ⟨n,m,pw,h1,h2,h3,h4⟩⟩
 case post =>
  rintro c ah ⟨rfl,hr⟩;dsimp only;refine wpS_bind (wpS_mono (wpS_forRange
   (I:=λx c aP=>c=(none,())/\(((arrOf aP).Perm a₀/\failedOf aP=none/\(pendingOf aP).size<=1/\SortedTo (arrOf aP) a₀.size)\/(x=0/\∃n m pw,0<n/\0<m/\n+m=a₀.size/\tV a₀ n m pw aP)))
   (Q:=λc aP=>c=(none,())/\(arrOf aP).Perm a₀/\failedOf aP=none/\SortedTo (arrOf aP) a₀.size) ?s2 ?f2 ⟨rfl,?i2⟩) ?p2)
  case i2 =>
   rcases hr with r | r
   ·exact .inl ⟨r.perm,r.failed,by rw[r.pend];exact Nat.le_refl 1,λi j g1 g2=>r.lN i j (Nat.zero_le _) g1 (by omega)⟩
   ·exact .inr ⟨rfl,r⟩
  case f2 =>
   rintro c aP ⟨rfl,⟨g1,g2,_,g4⟩ | ⟨hx,_⟩⟩
   ·exact⟨rfl,g1,g2,g4⟩
   ·omega
  case p2 =>
   rintro c aP ⟨rfl,g1,g2,g3⟩;exact wpS_pure (h _ g1 g2 g3)
  case s2 =>
   rintro x c aP _ hx ⟨rfl,⟨g1,g2,g3,g4⟩ | ⟨rfl,n,m,pw,h1,h2,h3,r⟩⟩
   ·refine wpS_bind (wpS_get ?_);rw[if_pos g3];exact wpS_pure ⟨rfl,g1,g2,g4⟩
   ·refine wpS_bind (wpS_get ?_);have ez:(pendingOf aP).size=2:=by rw[r.pend];rfl
    rw[if_neg (by show ¬ (pendingOf aP).size<=1;omega)]
    rw[ez];simp only[Nat.sub_self,Nat.lt_irrefl,gt_iff_lt,if_false,Option.any_none,Bool.false_eq_true];have Hf:(arrOf aP).size=a₀.size:=r.perm.size_eq;have ik:IntKeys (arrOf aP):=λp hp=>h0 p ((Array.perm_iff_toList_perm.mp r.perm).mem_iff.mp hp);refine wpS_bind (GU r.kind r.failed r.pend ik (by omega) h1 h2 (λi j g1 g2=>r.lN i j (Nat.zero_le _) g1 (by omega)) (λi j g1 g2 g3=>r.G6 i j g1 g2 (by omega)) λbT p3 f3 Hg s3=>?_)
    simp only[Bool.not_true,Bool.false_eq_true,if_false];refine wpS_pure ⟨rfl,.inl ⟨p3.trans r.perm,f3,by rw[Hg];exact Nat.le_refl 1,by rw[Hf] at s3;exact s3⟩⟩
end
end _L
namespace _L
open PySem PySem.Spec PyProof.Rows
section
variable{prog:Program}{w:World}{A:Around}{E:Value->Shared->Prop}{s:Shared}
theorem Hi{a:Addr}{vs:List Value}{ns:List Int}{n:Nat}{P:Fin->Shared->Prop}(g0:s.heap.get? a=some (seqObj "list" vs.toArray n))(hI:IntsAre vs ns)(l1:64<=vs.length)(l2:vs.length<128)
  (q:∀(out:Array Value) (ms:List Int),IntsAre out.toList ms->ms.Perm ns->ms.Pairwise (·<=·)->P (.done (.ret .none)) { s with heap:=sortedHeap s.heap a vs out }):wpAny (model prog w) A (Builtin.«list.sort» ⟨[.ref a],[]⟩) P E s:=by
 have la:=Heap.lt_size g0;obtain⟨k1,g1⟩:∃k,(s.heap.update a (Obj.mapSeq λ_ => #[])).get? a=some (seqObj "list" #[] k):=⟨_,get?_update_seq g0 λ_ => #[]⟩;have g2:(((s.heap.update a (Obj.mapSeq λ_ => #[])).push (seqObj "tuple" vs.toArray 0)).push (seqObj "list" #[] 0)).get? a=some (seqObj "list" #[] k1):=by
  rw[Heap.get?_push_ne,Heap.get?_push_ne,g1]
  ·rw[Heap.size_update];exact Nat.ne_of_lt la
  ·rw[size_push',Heap.size_update];exact Nat.ne_of_lt (Nat.lt_succ_of_lt la)
 have big:¬ vs.toArray.size<2:=by rw[List.size_toArray];omega
 obtain⟨u,v,r,rfl⟩:∃u v r,vs=u::v::r:=by
  match vs,l1 with
  | [],l1=>simp at l1
  | [_],l1=>simp at l1
  | u::v::r,_=>exact⟨u,v,r,rfl⟩
 rw[list_sort_plain];refine wpAny_bind (listItems_at g0 rfl (wpAny_bind (listUpdate_at g0 rfl (wpAny_bind (seqEpoch_at g1 rfl (wpAny_bind (wpAny_newTuple (wpAny_bind (wpAny_newList (wpAny_holding ?_))))))))));rw[if_neg big,if_neg big,keyKind_ints hI];refine wpAny_bind (wpAny_pure (wpAny_bind (wpAny_mono (G7 (a₀:=pairsOf (u::v::r)) (st:=SortSt.mk' oneType' (pairsOf (u::v::r)) #[] 7 none) (Q:=λ_ st=>(arrOf st).Perm (pairsOf (u::v::r))/\failedOf st=none/\SortedTo (arrOf st) (pairsOf (u::v::r)).size) hI.intKeys ⟨Array.Perm.refl _,rfl,rfl,rfl⟩ (by rw[pairsOf_size];exact l1) (by rw[pairsOf_size];exact l2) λ_ x y z=>⟨x,y,z⟩) ?_ λ_ _ e=>e)))
 rintro⟨⟨⟩,st⟩ s2 ⟨rfl,hp,hf,hs⟩;have sz:((arrOf st).map (·.2)).size<=sizeLine+1:=by
  rw[Array.size_map,hp.size_eq,pairsOf_size,sizeLine_eq];omega
 refine wpAny_bind (seqEpoch_at g2 rfl (wpAny_bind (listUpdate_at g2 rfl ?_ (hsz2:=sz))));dsimp only;rw[hf,bne_self_eq_false];obtain⟨ms,t1,t2,t3⟩:=sorted_out hI hp hs;exact wpAny_pure (q _ ms t1 t2 t3)
theorem Hj{l:Addr}{vs:List Value}{ns:List Int}{Q:Value->Shared->Prop}(pl:s.heap.IsList l vs.toArray)(hI:IntsAre vs ns)(l2:vs.length<128)
  (q:∀(out:Array Value) (ms:List Int),IntsAre out.toList ms->ms.Perm ns->ms.Pairwise (·<=·)->Q (.ref (s.heap.objs.size+1)) { s with heap:=sortedAll s.heap vs out }):wpAny (model prog w) A (call (.builtin "sorted") [.ref l]) Q E s:=by
 by_cases l1:vs.length<64
 ·exact sorted_ints pl hI l1 q
 ·have e0:((s.heap.push (seqObj "list" #[] 0)).update s.heap.objs.size (Obj.mapSeq (· ++ vs.toArray))).objs.size=s.heap.objs.size+1:=by rw[Heap.size_update];exact size_push' _ _
  have g0:(((s.heap.push (seqObj "list" #[] 0)).update s.heap.objs.size (Obj.mapSeq (· ++ vs.toArray))).push (seqObj "list" vs.toArray 0)).get? (s.heap.objs.size+1)=some (seqObj "list" vs.toArray 0):=by rw[← e0];exact Heap.get?_push_size _ rfl
  refine Calls.call_function_entry kind_sorted plain_sorted entry_sorted (args_sorted1 _) ?_;refine wpAny_bind (m:=checkCount "sorted" 1 1 _) (wpAny_pure (wpAny_bind (collect_list pl (wpAny_bind (wpAny_newList ?_)))))
  show wpAny _ _ _ _ _ { s with heap:=((s.heap.push (seqObj "list" #[] 0)).update s.heap.objs.size (Obj.mapSeq (· ++ vs.toArray))).push (seqObj "list" vs.toArray 0)};rw[e0];exact wpAny_bind (wpAny_holding (wpAny_call_entry slot_list_sort ⟨_,g0,rfl⟩ entry_list_sort (Hi g0 hI (by omega) l2 λout ms t1 t2 t3=>⟨_,rfl,wpAny_pure ⟨_,rfl,q out ms t1 t2 t3⟩⟩) (args_list_sort _)))
end
section
variable{X:Cx}
theorem Hl:fH X (.builtin "sorted") (λxs H Q=>∃(p:Addr) (ns:List Int),xs = [.ref p]/\aB X.K H p (ns.map V.int)/\ns.length<128/\
  ∀(l:Addr) (ms:List Int),H l=none->ms.Perm ns->ms.Pairwise (·<=·)->Q (.ref l) (upd H l (.lst (ms.map V.int)))):=by
 rintro pins s σ H xs us Q I r ⟨p,ns,rfl,hq,l2,q⟩;obtain⟨u,rfl,ru⟩:=vals1 r;cases ru;obtain⟨aq,rv,pl,hz⟩:=I.list hq;have hi:IntsAre aq ns:=intsAre_of rv;refine Hj pl.isList hi (by rw[hi.length];exact l2) λout ms t1 t2 t3=>?_
 obtain⟨e,he⟩:=sortedAll_at s.heap aq out;refine⟨.ref (s.heap.objs.size+1),upd H (s.heap.objs.size+1) (.lst (ms.map V.int)),I.laid (t':=s.toks) (λ_ _ z=>sortedAll_old z) (Nat.le_succ _) ⟨?_,out.toList,e,sD t1,by simpa using he⟩,rfl,q _ ms (I.aD.fresh (Nat.le_succ _)) t2 t3⟩
 rw[List.length_map,t2.length_eq];exact Nat.le_trans (Nat.le_of_lt l2) (by decide)
end
section
variable{X:Cx}
noncomputable def MF(ta:TA):TE:=λσ H Q=>ta σ H λvs H1=>∃i j c:Int,vs = [.int i,.int j,.int c]/\(0<=i/\i<=1000000/\0<=j/\j<=1000000/\1<=c/\c<=1000000)/\
 ∀l (n:Nat),H1 l=none->n<=1000001->(∀k:Nat,k<n->0<=i+(k:Int)*c/\i+(k:Int)*c<j)->Q (.ref l) (upd H1 l (.lst ((List.range n).map λ(k:Nat)=>V.int (i+(k:Int)*c))))
end
noncomputable def Ho(K:PySem.W.Frag):Sp:=λvs H Q _=>∃(a b:Int),vs = [.int a,.int b]/\∀l ts z H',aj H H'->H l=none->(∀t∈ts,H t=none)->Zn H' l ts z->e7 z->bX z<=32768->Q (.ref l) H'
noncomputable def Hq(K:PySem.W.Frag):Sp:=λvs H Q _=>∃(m c:Int),vs = [.int m,.int c]/\2<=m/\m<=120/\∀l sw H',aj H H'->H l=none->H' l=some (.lst (sw.map V.int))->SwOk sw m->Q (.ref l) H'
theorem zE(c:Int){s0:Int}(h:1<=s0)(h7:s0<=8000000){n:Nat}(h2:2<=n)(MG:n<=120):SwOk ((List.range n).map (cU c s0)) (n:Int):=by
 refine⟨by simp,by lia,by rw[range_getD (by lia)];rfl,λi h1 hi=>?_,λi h1 hi=>?_,λa b ha hb jw=>?_⟩
 ·rw[List.length_map,List.length_range] at hi;rw[range_getD hi];have:=yH c h i;have e:s0*(i:Int)<=8000000*(i:Int):=Int.mul_le_mul_of_nonneg_right h7 (by lia)
  lia
 ·rw[List.length_map,List.length_range] at hi;rw[range_getD hi,range_getD (by lia)]
  obtain⟨j,rfl⟩:∃j,i=j+1:=⟨i - 1,by lia⟩
  have:=jv c h j;rw[cU];show cU c s0 j<=_;lia
 ·rw[List.length_map,List.length_range] at jw;rw[range_getD jw,range_getD (by lia),range_getD (by lia)]
  exact yG c h a b
noncomputable def j6(a b:Int)(n:Nat):List (Int×Int):=(List.range n).map λ(k:Nat)=>(40 - mix a (11+(k:Int)) % 9*(k:Int),1+mix b (11+(k:Int)) % 8)
theorem zF(a b:Int):e7 (j6 a b 3)/\bX (j6 a b 3)<=32768:=by
 have h3:∀k:Int,0<=mix a k % 9/\mix a k % 9<9:=λk=>⟨Int.emod_nonneg _ (by decide),Int.emod_lt_of_pos _ (by decide)⟩
 have h4:∀k:Int,0<=mix b k % 8/\mix b k % 8<8:=λk=>⟨Int.emod_nonneg _ (by decide),Int.emod_lt_of_pos _ (by decide)⟩
 have e:j6 a b 3 = [(40 - mix a 11 % 9*0,1+mix b 11 % 8),(40 - mix a 12 % 9*1,1+mix b 12 % 8),(40 - mix a 13 % 9*2,1+mix b 13 % 8)]:=rfl;have a1:=h3 11;have a2:=h3 12;have a3:=h3 13;have b1:=h4 11;have b2:=h4 12;have b3:=h4 13;rw[e];generalize mix a 11 % 9=x1 at *;generalize mix a 12 % 9=x2 at *;generalize mix a 13 % 9=x3 at *
 generalize mix b 11 % 8=y1 at *;generalize mix b 12 % 8=y2 at *;generalize mix b 13 % 8=y3 at *
 have eY:∀p∈[(40 - x1*0,1+y1),(40 - x2*1,1+y2),(40 - x3*2,1+y3)],1<=p.1/\p.1<=40/\1<=p.2/\p.2<=8:=by
  intro p hp;simp only[List.mem_cons,List.not_mem_nil,or_false] at hp;rcases hp with rfl | rfl | rfl <;> (dsimp only;lia)
 refine⟨⟨by simp,by simp,λp hp=>?_,?_,?_⟩,?_⟩
 ·have:=eY p hp;lia
 ·simp;lia
 ·simp;lia
 ·have hb:=(k_ (m:=8) (by decide) _ λp hp=>(eY p hp).2.2).2
  have e:(8:Int) ^ 3=512:=by decide
  rw[show [(40 - x1*0,1+y1),(40 - x2*1,1+y2),(40 - x3*2,1+y3)].length=3 from rfl,e] at hb;lia
theorem Hr{z:List (Int×Int)}(ok:e7 z)(pr:bX z<=32768)(c:Int):1<=ju z c/\ju z c<=1000000000/\∀p∈z,ju z c % p.2=0:=by
 have hb:=k_ (m:=60) (by decide) z λp hp=>(ok.r p hp).2.2
 refine⟨?_,?_,λp hp=>Int.emod_eq_zero_of_dvd (Int.dvd_trans (yI hp) (Int.dvd_mul_right _ _))⟩
 all_goals
  unfold ju;generalize hm:(if mix c 0 % 9=0 then 1000000000 / bX z else 900)=m
  have E3:1<=m/\bX z*m<=1000000000:=by
   rw[← hm];split
   ·constructor
    ·exact(Int.le_ediv_iff_mul_le (by lia)).mpr (by lia)
    ·exact Int.mul_ediv_self_le (by lia)
   ·exact⟨by decide,by lia⟩
  have h1:=Int.emod_nonneg (mix c 1) (show m≠0 by lia)
  have h2:=Int.emod_lt_of_pos (mix c 1) (show 0<m by lia)
  generalize mix c 1 % m=x at h1 h2
  first
  | (have:=Int.mul_le_mul hb.1 (show 1<=1+x by lia) (by decide) (by lia);lia)
  | (have:=Int.mul_le_mul (Int.le_refl (bX z)) (show 1+x<=m by lia) (by lia) (by lia);lia)
structure tW(z:List (Int×Int))(a_ bF:Int):Prop where
 l1:1<=a_
 l2:a_<=1000000000
 d:∀p∈z,a_ % p.2=0
 s1:0<=bF
 s2:bF<a_
noncomputable def tX(sw:List Int):Prop:=∀a b:Nat,1<=a->1<=b->a+b<sw.length->sw.getD (a+b) 0<=sw.getD a 0+sw.getD b 0
noncomputable def lO(z:List (Int×Int))(a_ bF:Int)(sw:List Int):Prop:=e7 z/\tW z a_ bF/\SwOk sw (z.map (·.1)).sum
noncomputable def Hs(K:PySem.W.Frag)(X:Addr):Sp:=λvs H Q E=>∃(a:Addr) (ts:List Addr) (z:List (Int×Int)),vs = [.ref a]/\Zn H a ts z/\z.length<=100/\(e7 z->∀H',aj H H'->Q .aG H')/\(¬ e7 z->∀H',aj H H'->E (.ref X) none H')
noncomputable def Ht(K:PySem.W.Frag)(X:Addr):Sp:=λvs H Q E=>∃(a:Addr) (ts:List Addr) (z:List (Int×Int)) (a_ bF:Int),vs = [.ref a,.int a_,.int bF]/\Zn H a ts z/\e7 z/\(tW z a_ bF->Q .aG H)/\(¬ tW z a_ bF->E (.ref X) none H)
noncomputable def Hu(K:PySem.W.Frag)(X:Addr):Sp:=λvs H Q E=>∃(a:Addr) (sw:List Int) (n:Int),vs = [.ref a,.int n]/\aB K H a (sw.map V.int)/\2<=n/\n<=1000/\(SwOk sw n->Q .aG H)/\(¬ SwOk sw n->E (.ref X) none H)
noncomputable def Hv(K:PySem.W.Frag)(X:Addr):Sp:=λvs H Q E=>∃(a:Addr) (sw:List Int),vs = [.ref a]/\aB K H a (sw.map V.int)/\2<=sw.length/\sw.length<=1000/\(tX sw->Q .aG H)/\(¬ tX sw->E (.ref X) none H)
noncomputable def Hw(K:PySem.W.Frag)(X:Addr):Sp:=λvs H Q E=>∃(C p dx za sa:Addr) (c_:List Addr) (z:List (Int×Int)) (a_ bF:Int) (sw:List Int),vs = [.ref p,.ref za,.int a_,.int bF,.ref sa]/\CP K C/\H p=some (.ins C dx [])/\Zn H za c_ z/\z.length<=100/\aB K H sa (sw.map V.int)/\
 (¬ lO z a_ bF sw->∀H',SameBut p H H'->E (.ref X) none H')/\
 (lO z a_ bF sw->∀H' dx a1 a2 a3 a4 ts,SameBut p H H'->(∀b∈a1::a2::a3::a4::ts,H b=none)->H' p=some (.ins C dx (k8 a1 a_ bF a2 a3 a4))->k9 K C H' p ⟨counts z,a_,bF,sw,nU (counts z) 0⟩ dx a1 a2 a3 a4 ts (k8 a1 a_ bF a2 a3 a4)->Q .aG H')
noncomputable def tY(K:PySem.W.Frag):Sp:=λvs H Q _=>∃(za sa:Addr) (c_:List Addr) (z:List (Int×Int)) (a_ bF:Int) (sw:List Int),vs = [.ref za,.int a_,.int bF,.ref sa]/\Zn H za c_ z/\z.length<=100/\aB K H sa (sw.map V.int)/\¬ lO z a_ bF sw/\∀H',aj H H'->Q (.bl true) H'
noncomputable def Hy(K:PySem.W.Frag):Sp:=λvs H Q _=>∃(a:Addr) (ts:List Addr) (z:List (Int×Int)),vs = [.ref a]/\Zn H a ts z/\z.length<=5/\(∀p∈z,1<=p.1/\p.1<=40)/\∀l H',aj H H'->H l=none->H' l=some (.lst ((counts z).map V.int))->Q (.ref l) H'
theorem tZ:∀z:List (Int×Int),(∀p∈z,1<=p.1/\p.1<=40)->z.length<=(counts z).length/\(counts z).length<=40*z.length
 | [],_=>by simp[counts]
 | p::z,h=>by
  have ih:=tZ z λq hq=>h q (List.mem_cons_of_mem _ hq);have hp:=h p (List.mem_cons_self ..);have e:counts (p::z)=List.replicate p.1.toNat p.2++counts z:=rfl;rw[e,List.length_append,List.length_replicate,List.length_cons];lia
noncomputable def cS(f:Int)(z z':List (Int×Int)):Prop:=(8<=f->z' = z)/\(f<8->¬ e7 z')/\(f=6\/f=7->z'≠[]/\z'.length<=5/\∀p∈z',1<=p.1/\p.1<=40)
noncomputable def Hz(K:PySem.W.Frag):Sp:=λvs H Q _=>∃(a:Addr) (ts:List Addr) (z:List (Int×Int)) (f k:Int),vs = [.ref a,.int f,.int k]/\Zn H a ts z/\e7 z/\0<=f/\0<=k/\k<z.length/\∀l t_ z' H',aj H H'->H l=none->Zn H' l t_ z'->z'.length<=6->cS f z z'->Q (.ref l) H'
noncomputable def HA(K:PySem.W.Frag):Sp:=λvs H Q _=>∃(a:Addr) (sw:List Int) (n f k:Int),vs = [.ref a,.int f,.int k]/\aB K H a (sw.map V.int)/\SwOk sw n/\n<=120/\0<=f/\f<=17/\0<=k/\k<=2147483647/\(f=17->3<=n)/\∀l gf H',aj H H'->H l=none->H' l=some (.lst (gf.map V.int))->(f<12->gf=sw)->(12<=f->¬ SwOk gf n)->Q (.ref l) H'
section
variable{X:Cx}
theorem HB(hu:X.A.units<cLine):cM X (compareOp .Eq) (λx y H Q=>∃(a b:Addr) (xs:List V),x = .ref a/\y = .ref b/\aB X.K H a xs/\aB X.K H b xs/\(∀v∈xs,(∀b,v≠.fS b)/\∀b,v≠.dM b)/\Q (.bl true) H):=by
 rintro pins s σ H x y v u Q I rx ry ⟨a,b,xs,rfl,rfl,ha,hb,hv,q⟩;cases rx;cases ry;obtain⟨aq,r1,p1,z1⟩:=I.list ha;obtain⟨gB,r2,p2,z2⟩:=I.list hb;have l1:=r1.length;have l2:=r2.length;have e0:((List.range aq.toArray.size).all λ_=>true)=true:=by simp
 have fin:=SeqAt.RcAt.lists (A:=X.A) (s:=s) (e:=λ_=>true) p1.isList p2.isList (by simp;lia) hu (λj h1 h2=>?_) X.prog X.w X.xe (EP X pins σ Q) (by rw[e0];exact⟨.bl true,H,I,rfl,q⟩)
 ·exact fin
 ·have g1:aq[j]? = some aq.toArray[j]:=by
   rw[List.getElem_toArray,List.getElem?_eq_getElem (by simpa using h1)]
  have g2:gB[j]? = some gB.toArray[j]:=by
   rw[List.getElem_toArray,List.getElem?_eq_getElem (by simpa using h2)]
  have hj:j<xs.length:=by rw[l1];simpa using h1
  obtain⟨u1,q1,w1⟩:=r1.get (List.getElem?_eq_getElem hj);obtain⟨u2,q2,w2⟩:=r2.get (List.getElem?_eq_getElem hj);rw[g1] at q1;cases q1;rw[g2] at q2;cases q2;exact Eo w1 w2 (hv _ (List.getElem_mem hj)).1 (hv _ (List.getElem_mem hj)).2
end
theorem aj.back{H H':Hp}(s:aj H H'){p:Addr}(n:H' p=none):H p=none:=by
 cases e:H p with
 | none=>rfl
 | some o=>rw[s _ _ e] at n;cases n
theorem Zn.copy{H:Hp}{a l:Addr}{ts:List Addr}{z:List (Int×Int)}(h:Zn H a ts z)(nl:H l=none):Zn (upd H l (.lst (ts.map V.ref))) l ts z:=⟨aE,h.n,λi t p e1 e2=>aj.put nl _ _ (h.t i t p e1 e2)⟩
theorem Zn.HC{H:Hp}{a p l:Addr}{ts:List Addr}{z:List (Int×Int)}{c:Int×Int}(h:Zn H a ts z)(hp:H p=some (.tup [.int c.1,.int c.2]))(nl:H l=none)(n:Nat) :
  Zn (upd H l (.lst (ts.map V.ref++List.replicate n (V.ref p)))) l (ts++List.replicate n p) (z++List.replicate n c):=by
 refine⟨by rw[aE,List.map_append,List.map_replicate],by simp[h.n],λi t x e1 e2=>aj.put nl _ _ ?_⟩
 by_cases hi:i<ts.length
 ·rw[List.getElem?_append_left hi] at e1;rw[List.getElem?_append_left (by rw[← h.n];exact hi)] at e2
  exact h.t i t x e1 e2
 ·rw[List.getElem?_append_right (by lia)] at e1
  rw[List.getElem?_append_right (by rw[← h.n];lia)] at e2
  have g1:=List.eq_of_mem_replicate (List.mem_of_getElem? e1);have g2:=List.eq_of_mem_replicate (List.mem_of_getElem? e2);subst g1;subst g2;exact hp
theorem Zn.pick{H:Hp}{a:Addr}{ts:List Addr}{z:List (Int×Int)}(h:Zn H a ts z){j:Nat}(hj:j<z.length):∃t p,(ts.map V.ref)[j]? = some (.ref t)/\z[j]? = some p/\H t=some (.tup [.int p.1,.int p.2]):=by
 have j0:j<ts.length:=by rw[h.n];exact hj
 exact⟨ts[j],z[j],by rw[List.getElem?_map,List.getElem?_eq_getElem j0];rfl,List.getElem?_eq_getElem hj,h.t j _ _ (List.getElem?_eq_getElem j0) (List.getElem?_eq_getElem hj)⟩
theorem cS.zG{z:List (Int×Int)}{j:Nat}(hj:j<z.length){c:Int×Int}(bad:¬ (1<=c.1/\c.1<=40/\1<=c.2/\c.2<=60)){f:Int}(hf:f<6):cS f z (z.set j c) :=
 ⟨λg=>by lia,λ_ ok=>bad (ok.r c (List.mem_set hj c)),λg=>by lia⟩
theorem cS.empty(z:List (Int×Int)):cS 0 z []:=⟨λg=>by lia,λ_ ok=>by have:=ok.l1;simp at this,λg=>by lia⟩
theorem cS.six{z:List (Int×Int)}(c:Int×Int)(h:z.length<=5):cS 1 z (z++List.replicate (6 - z.length) c):=⟨λg=>by lia,λ_ ok=>by have:=ok.l5;simp at this;lia,λg=>by lia⟩
theorem cS.one(z:List (Int×Int))(c:Int):cS 6 z [(1,c)]:=⟨λg=>by lia,λ_ ok=>by have:=ok.s2;simp at this,λ_=>⟨by simp,by simp,λp hp=>by rw[List.mem_singleton.mp hp];dsimp only;lia⟩⟩
theorem cS.many(z:List (Int×Int)):cS 7 z [(40,1),(40,1),(40,1),(1,1)]:=⟨λg=>by lia,λ_ ok=>by have:=ok.k7;simp at this,λ_=>⟨by simp,by simp,by decide⟩⟩
theorem cS.same{z:List (Int×Int)}{f:Int}(h:8<=f):cS f z z:=⟨λ_=>rfl,λg=>by lia,λg=>by lia⟩
theorem oJ(n:Nat)(x:V):(List.replicate n [x]).flatten=List.replicate n x:=by
 induction n with
 | zero=>rfl
 | succ n ih=>rw[List.replicate_succ,List.flatten_cons,ih,List.replicate_succ];rfl
theorem Zn.HD{H:Hp}{l t:Addr}{c:Int×Int}(h:H t=some (.tup [.int c.1,.int c.2]))(nl:H l=none):Zn (upd H l (.lst [.ref t])) l [t] [c] :=
 ⟨aE,rfl,λi x y e1 e2=>aj.put nl _ _ (by
  match i with
  | 0=>cases e1;cases e2;exact h)⟩
theorem Zn.HE{H:Hp}{l t1 t2 t3 t4:Addr}{c1 c2 c3 c4:Int×Int}(h1:H t1=some (.tup [.int c1.1,.int c1.2]))(h2:H t2=some (.tup [.int c2.1,.int c2.2]))(h3:H t3=some (.tup [.int c3.1,.int c3.2]))(h4:H t4=some (.tup [.int c4.1,.int c4.2]))(nl:H l=none):Zn (upd H l (.lst [.ref t1,.ref t2,.ref t3,.ref t4])) l [t1,t2,t3,t4] [c1,c2,c3,c4] :=
 ⟨aE,rfl,λi x y e1 e2=>aj.put nl _ _ (by
  match i with
  | 0=>cases e1;cases e2;exact h1
  | 1=>cases e1;cases e2;exact h2
  | 2=>cases e1;cases e2;exact h3
  | 3=>cases e1;cases e2;exact h4)⟩
theorem lP{l:List Int}{j:Nat}(h:j<l.length)(v:Int):(l.set j v).getD j 0=v:=by simp[List.getD_eq_getElem?_getD,List.getElem?_set,h]
theorem uc{l:List Int}{i j:Nat}(h:i≠j)(v:Int):(l.set j v).getD i 0=l.getD i 0:=by simp[List.getD_eq_getElem?_getD,List.getElem?_set,Ne.symm h]
theorem zH{sw:List Int}{n:Int}(h:(sw.length:Int)≠n):¬ SwOk sw n:=λb=>h b.len
theorem HF{sw:List Int}{n:Int}(h:0<sw.length):¬ SwOk (sw.set 0 1) n:=λb=>by have:=b.z;rw[lP h] at this;lia
theorem HG{sw:List Int}{n:Int}{j:Nat}(h1:1<=j)(h:j<sw.length):¬ SwOk (sw.set j 0) n:=λb=>by have:=b.pos j h1 (by rw[List.length_set];exact h);rw[lP h] at this;lia
theorem zI{sw:List Int}{n:Int}(h:1<sw.length):¬ SwOk (sw.set 1 1000000001) n:=λb=>by have:=b.pos 1 (Nat.le_refl _) (by rw[List.length_set];exact h);rw[lP h] at this;lia
theorem HJ{sw:List Int}{n:Int}{j:Nat}(h1:2<=j)(h:j<sw.length):¬ SwOk (sw.set j (sw.getD (j - 1) 0 - 1)) n:=λb=>by
 have:=b.up j (by lia) (by rw[List.length_set];exact h);rw[lP h,uc (by lia)] at this;lia
theorem ud{l ys:List Int}{i m:Nat}(h:i<m)(h2:i<l.length):(l.take m++ys).getD i 0=l.getD i 0:=by
 rw[List.getD_eq_getElem?_getD,List.getD_eq_getElem?_getD,List.getElem?_append_left (by rw[List.length_take];lia),List.getElem?_take_of_lt h]
theorem HK{sw ys:List Int}{n:Int}{bw one:Nat}(h1:1<=one)(h2:one<bw)(h:bw<sw.length):¬ SwOk ((sw.set bw (sw.getD one 0+sw.getD (bw - one) 0+1)).take (bw+1)++ys) n:=λb=>by
 have g:bw<(sw.set bw (sw.getD one 0+sw.getD (bw - one) 0+1)).length:=by rw[List.length_set];exact h
 have:=b.no one (bw - one) h1 (by lia) (by rw[List.length_append,List.length_take];lia)
 rw[show one+(bw - one)=bw by lia,ud (by lia) g,ud (by lia) (by lia),ud (by lia) (by lia),lP h,uc (by lia),uc (by lia)] at this
 lia
theorem HL(xs:List V)(h:0<xs.length):gY xs none (some (-1))=xs.take (xs.length - 1):=by
 show (xs.drop 0).take ((if (-1:Int)<0 then(-1+(xs.length:Int)).toNat else min (-1:Int).toNat xs.length) - 0)=_
 rw[if_pos (by decide),Nat.sub_zero,List.drop_zero]
 congr 1;lia
theorem HM(xs:List V)(k:Nat):gY xs none (some (k:Int))=xs.take k:=by
 unfold gY;rw[_H.C1,_H.C3,List.drop_zero,Nat.sub_zero];by_cases h:k<=xs.length
 ·rw[Nat.min_eq_left h]
 ·rw[Nat.min_eq_right (by lia),List.take_length,List.take_of_length_le (by lia)]
section
variable{K:PySem.W.Frag}{H:Hp}{σ:St}{g:TG}{tt:TT}{te tl:TE}{nt:Nat}{fv:List Nat}{Q:VK}
theorem HN(o:HO)(h_:∀Q:VK,(∀p,H p=none->Q (.ref p) (upd H p o))->tl σ H Q)(h:∀p,H p=none->iJ (jf K (λ_ H Q=>Q (.ref p) H)) g tt te nt fv σ (upd H p o) Q):iJ (jf K tl) g tt te nt fv σ H Q:=h_ _ λp hp=>h p hp
end
noncomputable def lQ(H:Hp)(a l:Addr)(f k n:Int)(sw:List Int)(d:Prop):St->Hp->Prop:=λσ H'=>∃(gf:List Int) (k':Int),σ = [some (.ref a),some (.int f),some (.int k'),some (.ref l),none,none]/\H' = upd H l (.lst (gf.map V.int))/\(f≠16->k' = k)/\(¬ d->gf=sw)/\(d->¬ SwOk gf n)
noncomputable def HP(H:Hp)(a:Addr)(f n:Int)(sw:List Int):St->Hp->Prop:=λσ H'=>∃(l:Addr) (gf:List Int) (x y z:Option V),σ = [some (.ref a),some (.int f),x,some (.ref l),y,z]/\aj H H'/\H l=none/\H' l=some (.lst (gf.map V.int))/\(f<12->gf=sw)/\(12<=f->¬ SwOk gf n)
noncomputable def oK(H:Hp)(a l:Addr)(f k:Int)(ts:List Addr)(z:List (Int×Int))(d:Prop):St->Hp->Prop:=λσ H'=>∃(t_:List Addr) (z':List (Int×Int)),σ = [some (.ref a),some (.int f),some (.int k),some (.ref l)]/\aj H H'/\Zn H' l t_ z'/\z'.length<=5/\(¬ d->z' = z)/\(d->cS f z z')
end _L
namespace _W
open PySem _L PyProof.Rows
theorem MJ{i j:Int}:gw (.int i) (.int j)=true:=rfl
theorem MK{i j:Str}:gw (.str i) (.str j)=true:=rfl
theorem ML{i j:Bool}:gw (.bl i) (.bl j)=true:=rfl
theorem MM: gw (.aG) (.aG)=true:=rfl
theorem MN{i:Int}:gw (.aG) (.int i)=true:=rfl
theorem MO{i:Int}:gw (.int i) (.aG)=true:=rfl
theorem MP{i:Str}:gw (.aG) (.str i)=true:=rfl
theorem MQ{i:Str}:gw (.str i) (.aG)=true:=rfl
local macro_rules | `(tactic| wp_walk using $ts,*)=>do
 let a ← ("Mu Mm Lp Mg Mh Fj FU FT FI yY L7 MF Mc Me Mf Ma Ls LL Lq Lr Lu Ll EK C6 C5 C4 Dh De and_assoc Le HO.ins.injEq Ez EA dF String.reduceBEq List.lookup_cons List.lookup_nil aE HO.lst.injEq HO.dT.injEq HO.tup.injEq String.reduceEq false_and or_false false_or ED DM Ly DJ Lv Lw Lx Lz Bool.not_eq_true' decide_eq_false_iff_not Classical.not_not Lk if_false_left if_false_right D_ Li gD List.length_map List.getElem?_nil wO wW mU wU rC wV Ca wH tC mW jk rI Cf rU Co tB B_ B9 Lj wQ xH CL xu CQ B8 B0 B4 B5 B6 Lg Lh CN CM Dj r_ Dr Ds Dv Dw nk nq Ck Cm MJ MK ML MM MN MO MP MQ rM Cg Ci CF CG CS xw _L.start LG LH LI List.map_cons List.map_nil List.cons_append List.nil_append List.append_nil List.length_cons List.length_nil List.getElem?_cons_zero List.getElem?_cons_succ Option.some.injEq exists_eq_left exists_eq_left' exists_and_left exists_eq V.int.injEq V.ref.injEq V.bl.injEq V.ty.injEq V.str.injEq List.cons.injEq and_true true_and List.set_cons_zero List.set_cons_succ decide_eq_true_eq Nat.reduceSub Nat.reduceAdd List.replicate_succ List.replicate_zero List.replicate Int.reduceLT Int.reduceLE Int.reducePow Int.reduceToNat Int.reduceNeg Nat.reduceLT Nat.reduceLeDiff Nat.reducePow Int.reduceMul Int.reduceAdd Int.reduceSub and_self or_true true_or gt_iff_lt ge_iff_le if_true if_false Bool.false_eq_true reduceIte Nat.sub_self Nat.sub_zero".splitOn " ").toArray.mapM λx => `(Lean.Parser.Tactic.simpLemma| $(Lean.mkIdent x.toName):ident)
 let d:Array (Lean.TSyntax `term):=("T.qh T.qi T.qj T.qk T.ql T.qm T.qo".splitOn " ").toArray.map λx=>⟨Lean.mkIdent x.toName⟩
 let b ← (ts.getElems.flatMap λt=>if t.raw.getId == `T then d else #[t]).mapM λt => `(Lean.Parser.Tactic.simpLemma| $t:term)
 let c:=a++b
 `(tactic| simp (maxSteps:=4000000) only[$c,*])
local macro_rules | `(tactic| walk_at "rdm") => `(tactic| wp_walk using and_self)
seal dN PS PE PT PW PA PG kD PI PK PC PO nO
noncomputable def top(i:Nat):Stmt:=PySem.Challenge.pw_armswing_k04_plates_refused.main.body.getD i (.Pass ⟨0,0,0,0⟩)
noncomputable abbrev ue:Stmt:=top 19
noncomputable abbrev uf:Stmt:=top 20
noncomputable abbrev ug:Stmt:=top 21
noncomputable abbrev uh:Stmt:=top 22
noncomputable abbrev um:Stmt:=top 23
noncomputable abbrev uo:Stmt:=top 24
noncomputable abbrev uq:Stmt:=top 25
noncomputable abbrev ur:Stmt:=inClass (top 26) 0
noncomputable abbrev uu:Stmt:=inClass (top 26) 1
noncomputable abbrev uv:Stmt:=top 28
noncomputable abbrev uw:Stmt:=top 29
noncomputable abbrev ux:Stmt:=top 30
noncomputable abbrev uy:Stmt:=top 31
noncomputable abbrev uz:Stmt:=top 32
noncomputable abbrev uA:Stmt:=top 33
noncomputable abbrev uB:Stmt:=top 34
noncomputable abbrev uC:Stmt:=top 35
noncomputable abbrev uD:Stmt:=top 36
noncomputable abbrev uE:Stmt:=top 37
noncomputable abbrev fO:Stmt:=top 38
theorem oM:cC ["zones", "rings", "cells", "in_all"] ["zones"] (bI ue):=⟨rfl,rfl,rfl,by decide +kernel,rfl,by decide +kernel,by decide +kernel⟩
theorem uF:cC ["zones", "lap", "skew", "rings", "cells"] ["zones", "lap", "skew"] (bI uf):=⟨rfl,rfl,rfl,by decide +kernel,rfl,by decide +kernel,by decide +kernel⟩
theorem zJ:cC ["swing", "rings", "far"] ["swing", "rings"] (bI ug):=⟨rfl,rfl,rfl,by decide +kernel,rfl,by decide +kernel,by decide +kernel⟩
theorem uG:cC ["swing", "far", "part"] ["swing"] (bI uh):=⟨rfl,rfl,rfl,by decide +kernel,rfl,by decide +kernel,by decide +kernel⟩
theorem oN:cC ["zones", "counts", "rings", "cells"] ["zones"] (bI um):=⟨rfl,rfl,rfl,by decide +kernel,rfl,by decide +kernel,by decide +kernel⟩
theorem lR:cC ["ring_cells", "spares", "cells", "ring", "count", "place"] ["ring_cells", "spares"] (bI uo):=⟨rfl,rfl,rfl,by decide +kernel,rfl,by decide +kernel,by decide +kernel⟩
theorem oO:cC ["number_cells", "numbers", "number", "cell"] ["number_cells"] (bI uq):=⟨rfl,rfl,rfl,by decide +kernel,rfl,by decide +kernel,by decide +kernel⟩
theorem HQ:cC ["self", "zones", "lap", "skew", "swing"] ["self", "zones", "lap", "skew", "swing"] (bI ur):=⟨rfl,rfl,rfl,by decide +kernel,rfl,by decide +kernel,by decide +kernel⟩
theorem HR:cC ["self"] ["self"] (bI uu):=⟨rfl,rfl,rfl,by decide +kernel,rfl,by decide +kernel,by decide +kernel⟩
theorem HS:cC ["_law_script", "_law_k"] ["_law_script", "_law_k"] (bI uv):=⟨rfl,rfl,rfl,by decide +kernel,rfl,by decide +kernel,by decide +kernel⟩
theorem zK:cC ["_law_found", "_law_due", "_law_k"] ["_law_found", "_law_due"] (bI uw):=⟨rfl,rfl,rfl,by decide +kernel,rfl,by decide +kernel,by decide +kernel⟩
theorem zL:cC ["_law_cell", "_law_k", "_law_by"] ["_law_cell", "_law_k"] (bI ux):=⟨rfl,rfl,rfl,by decide +kernel,rfl,by decide +kernel,by decide +kernel⟩
theorem lT:cC ["_law_a", "_law_b", "_law_many", "_law_zones_here", "_law_k"] ["_law_a", "_law_b"] (bI uy):=⟨rfl,rfl,rfl,by decide +kernel,rfl,by decide +kernel,by decide +kernel⟩
theorem oR:cC ["_law_zones_here", "_law_counts_here", "_law_many", "_law_cells"] ["_law_zones_here"] (bI uz):=⟨rfl,rfl,rfl,by decide +kernel,rfl,by decide +kernel,by decide +kernel⟩
theorem jC:cC ["_law_zones_here", "_law_cell", "_law_product", "_law_many", "_law_cells", "_law_most"] ["_law_zones_here", "_law_cell"] (bI uA):=⟨rfl,rfl,rfl,by decide +kernel,rfl,by decide +kernel,by decide +kernel⟩
theorem jD:cC ["_law_many", "_law_cell", "_law_step", "_law_swing_here", "_law_k", "_law_least"] ["_law_many", "_law_cell"] (bI uB):=⟨rfl,rfl,rfl,by decide +kernel,rfl,by decide +kernel,by decide +kernel⟩
theorem zM:cC ["_law_zones_here", "_law_fault", "_law_at_here", "_law_some"] ["_law_zones_here", "_law_fault", "_law_at_here"] (bI uC):=⟨rfl,rfl,rfl,by decide +kernel,rfl,by decide +kernel,by decide +kernel⟩
theorem j7:cC ["_law_swing_here", "_law_fault", "_law_at_here", "_law_some", "_law_far", "_law_one"] ["_law_swing_here", "_law_fault", "_law_at_here"] (bI uD):=⟨rfl,rfl,rfl,by decide +kernel,rfl,by decide +kernel,by decide +kernel⟩
theorem j8:cC ["_law_zones_here", "_law_lap_here", "_law_skew", "_law_swing_here", "_law_found", "e"] ["_law_zones_here", "_law_lap_here", "_law_skew", "_law_swing_here"] (bI uE):=⟨rfl,rfl,rfl,by decide +kernel,rfl,by decide +kernel,by decide +kernel⟩
theorem fP:cC ["_law_script", "_law_zones_here", "_law_counts_here", "_law_lap_here", "_law_skew", "_law_swing_here", "_law_fault", "_law_at_here", "_law_some", "_law_bent"] ["_law_script"] (bI fO):=⟨rfl,rfl,rfl,by decide +kernel,rfl,by decide +kernel,by decide +kernel⟩
set_option genInjectivity false
set_option genSizeOf false
structure lU where
 oU:Addr
 oV:FuncData
 oW:Addr
 oX:FuncData
 oY:Addr
 oZ:FuncData
 o7:Addr
 o8:FuncData
 o9:Addr
 o_:FuncData
 pe:Addr
 pq:FuncData
 pC:Addr
 pD:FuncData
 pG:Addr
 pH:FuncData
 lV:Addr
 pI:FuncData
 pJ:Addr
 pK:FuncData
 lW:Addr
 lX:FuncData
 pL:Addr
 pM:FuncData
 pN:Addr
 pO:FuncData
 pP:Addr
 pQ:FuncData
 pR:Addr
 pS:FuncData
 pT:Addr
 pU:FuncData
 pW:Addr
 pX:FuncData
 pY:Addr
 pZ:FuncData
 p_:Addr
 qa:FuncData
 qb:Addr
 qc:FuncData
 bH:Addr
 fQ:Addr
 aI:Addr
 gM:Addr
 gO:Addr
 fh:Addr
 gP:Addr
 fj:Addr
 fq:Addr
 fu:Addr
 fz:Addr
 lY:Tok
 lZ:Tok
 l6:Tok
 l7:Tok
 l8:Tok
 l9:Tok
structure Tx(K:W.Frag)(mg:Str->Option Value)(A:lU):Prop where
 uH:bq K "check_zones" "check_zones" ue A.oU A.oV
 zN:Binds K A.oV ["zones"] []
 zO:mg "check_zones" = some (.ref A.oU)
 uI:bq K "check_turning" "check_turning" uf A.oW A.oX
 zP:Binds K A.oX ["zones", "lap", "skew"] []
 zQ:mg "check_turning" = some (.ref A.oW)
 uJ:bq K "check_swing" "check_swing" ug A.oY A.oZ
 zR:Binds K A.oZ ["swing", "rings"] []
 zS:mg "check_swing" = some (.ref A.oY)
 uK:bq K "check_no_detour" "check_no_detour" uh A.o7 A.o8
 zT:Binds K A.o8 ["swing"] []
 zU:mg "check_no_detour" = some (.ref A.o7)
 uL:bq K "cells_by_ring" "cells_by_ring" um A.o9 A.o_
 zW:Binds K A.o_ ["zones"] []
 zX:mg "cells_by_ring" = some (.ref A.o9)
 uM:bq K "cells_by_number" "cells_by_number" uo A.pe A.pq
 zY:Binds K A.pq ["ring_cells", "spares"] []
 zZ:mg "cells_by_number" = some (.ref A.pe)
 uN:bq K "numbers_by_cell" "numbers_by_cell" uq A.pC A.pD
 z0:Binds K A.pD ["number_cells"] []
 z3:mg "numbers_by_cell" = some (.ref A.pC)
 z6:bq K "__init__" "Plate.__init__" ur A.pG A.pH
 uO:Binds K A.pH ["self", "zones", "lap", "skew", "swing"] []
 z7:bq K "rings" "Plate.rings" uu A.lV A.pI
 z8:Binds K A.pI ["self"] []
 uP:Meth K A.bH "rings" A.lV
 iu:bq K "_law_at" "_law_at" uv A.pJ A.pK
 iR:Binds K A.pK ["_law_script", "_law_k"] []
 iS:mg "_law_at" = some (.ref A.pJ)
 qd:bq K "_law_same" "_law_same" uw A.lW A.lX
 uQ:Binds K A.lX ["_law_found", "_law_due"] []
 uR:mg "_law_same" = some (.ref A.lW)
 cu:bq K "_law_mix" "_law_mix" ux A.pL A.pM
 cz:Binds K A.pM ["_law_cell", "_law_k"] []
 cA:mg "_law_mix" = some (.ref A.pL)
 uS:bq K "_law_zones" "_law_zones" uy A.pN A.pO
 z9:Binds K A.pO ["_law_a", "_law_b"] []
 z_:mg "_law_zones" = some (.ref A.pN)
 qg:bq K "_law_counts" "_law_counts" uz A.pP A.pQ
 uT:Binds K A.pQ ["_law_zones_here"] []
 uU:mg "_law_counts" = some (.ref A.pP)
 uW:bq K "_law_lap" "_law_lap" uA A.pR A.pS
 Aa:Binds K A.pS ["_law_zones_here", "_law_cell"] []
 Ab:mg "_law_lap" = some (.ref A.pR)
 uX:bq K "_law_swing" "_law_swing" uB A.pT A.pU
 Ac:Binds K A.pU ["_law_many", "_law_cell"] []
 Ad:mg "_law_swing" = some (.ref A.pT)
 uY:bq K "_law_zones_bad" "_law_zones_bad" uC A.pW A.pX
 Ae:Binds K A.pX ["_law_zones_here", "_law_fault", "_law_at_here"] []
 Af:mg "_law_zones_bad" = some (.ref A.pW)
 uZ:bq K "_law_swing_bad" "_law_swing_bad" uD A.pY A.pZ
 Ag:Binds K A.pZ ["_law_swing_here", "_law_fault", "_law_at_here"] []
 Ah:mg "_law_swing_bad" = some (.ref A.pY)
 iT:bq K "_law_refused" "_law_refused" uE A.p_ A.qa
 jE:Binds K A.qa ["_law_zones_here", "_law_lap_here", "_law_skew", "_law_swing_here"] []
 jF:mg "_law_refused" = some (.ref A.p_)
 Ai:bq K "law" "law" fO A.qb A.qc
 HU:Binds K A.qc ["_law_script"] []
 HV:mg "law" = some (.ref A.qb)
 qh:fJ K A.bH
 u0:Mk K A.bH A.pG
 u5:mg "Plate" = some (.ref A.bH)
 qi:c7 K A.bH "ring_cells"
 qj:c7 K A.bH "lap"
 qk:c7 K A.bH "skew"
 ql:c7 K A.bH "swing"
 qm:c7 K A.bH "number_cells"
 qo:c7 K A.bH "cell_numbers"
 Aj:mg "MOST_ZONES" = some (.int 5 A.lY)
 Al:mg "MOST_RINGS_IN_ZONE" = some (.int 40 A.lZ)
 Am:mg "MOST_CELLS_IN_RING" = some (.int 60 A.l6)
 An:mg "LEAST_RINGS" = some (.int 2 A.l7)
 Ao:mg "MOST_RINGS" = some (.int 120 A.l8)
 u6:mg "MOST_BEATS" = some (.int 1000000000 A.l9)
 l_:mg "bool" = none
 mh:mg "enumerate" = none
 mj:mg "int" = none
 cD:mg "isinstance" = none
 cE:mg "len" = none
 iw:mg "list" = none
 mq:mg "max" = none
 fR:mg "range" = none
 qp:mg "sorted" = none
 mw:mg "str" = none
 qq:mg "sum" = none
 j9:mg "tuple" = none
 qu:mg "ValueError" = none
 Aq:mg "ArmError" = some (.ref A.fQ)
 qw:W.excIn K A.fQ [.type "ValueError",.type "Exception",.type "BaseException",.type "object"] "ValueError.__new__" = true
 As:cK K A.fQ
 eL:mg "NoPlate" = some (.ref A.aI)
 dJ:W.excIn K A.aI [.type "ValueError",.type "Exception",.type "BaseException",.type "object"] "ValueError.__new__" = true
 Au:cK K A.aI
 gh:jy K A.aI
 gi:(W.clsIn K A.aI).isSome=true
 u7:W.kitOne K (.ref A.aI) (.ref A.fQ)=some true
 Av:subIn K A.aI (.ref A.fQ)=true
 qx:W.kitOne K (.ref A.aI) (.ref A.aI)=some true
 HW:subIn K A.aI (.ref A.aI)=true
 qy:W.kitOne K (.ref A.aI) (.ref A.gM)=some false
 HX:subIn K A.aI (.ref A.gM)=false
 qz:W.kitOne K (.ref A.aI) (.ref A.gO)=some false
 HY:subIn K A.aI (.ref A.gO)=false
 qA:W.kitOne K (.ref A.aI) (.ref A.fh)=some false
 HZ:subIn K A.aI (.ref A.fh)=false
 qB:W.kitOne K (.ref A.aI) (.ref A.gP)=some false
 H_:subIn K A.aI (.ref A.gP)=false
 qC:W.kitOne K (.ref A.aI) (.ref A.fj)=some false
 Ia:subIn K A.aI (.ref A.fj)=false
 qD:W.kitOne K (.ref A.aI) (.ref A.fq)=some false
 Ib:subIn K A.aI (.ref A.fq)=false
 qE:W.kitOne K (.ref A.aI) (.ref A.fu)=some false
 Ic:subIn K A.aI (.ref A.fu)=false
 qF:W.kitOne K (.ref A.aI) (.ref A.fz)=some false
 Ie:subIn K A.aI (.ref A.fz)=false
 qG:W.kitOne K (.ref A.aI) (.type "ValueError")=some true
 Aw:mg "NoCell" = some (.ref A.gM)
 Ax:mg "NoSpare" = some (.ref A.gO)
 Ay:mg "NoAsk" = some (.ref A.fh)
 qH:W.excIn K A.fh [.type "ValueError",.type "Exception",.type "BaseException",.type "object"] "ValueError.__new__" = true
 Ig:cK K A.fh
 Az:mg "NoOrder" = some (.ref A.gP)
 AA:mg "NoRule" = some (.ref A.fj)
 qI:W.excIn K A.fj [.type "ValueError",.type "Exception",.type "BaseException",.type "object"] "ValueError.__new__" = true
 Ih:cK K A.fj
 AB:mg "TooMany" = some (.ref A.fq)
 qJ:W.excIn K A.fq [.type "ValueError",.type "Exception",.type "BaseException",.type "object"] "ValueError.__new__" = true
 Ii:cK K A.fq
 AD:mg "NoLine" = some (.ref A.fu)
 qK:W.excIn K A.fu [.type "ValueError",.type "Exception",.type "BaseException",.type "object"] "ValueError.__new__" = true
 Ij:cK K A.fu
 AE:mg "NoBook" = some (.ref A.fz)
 qL:W.excIn K A.fz [.type "ValueError",.type "Exception",.type "BaseException",.type "object"] "ValueError.__new__" = true
 Ik:cK K A.fz
theorem Tx.AF{K:W.Frag}{mg:Str->Option Value}{A:lU}(T:Tx K mg A):CP K A.bH:=⟨T.qh,T.qi,T.qj,T.qk,T.ql,T.qm,T.qo⟩
theorem Tx.MR{K:W.Frag}{mg:Str->Option Value}{A:lU}(T:Tx K mg A):∀C∈[A.bH],fJ K C/\Meth K C "rings" A.lV:=by
 intro C hC;simp only[List.mem_cons,List.not_mem_nil,or_false] at hC;rcases hC with rfl
 ·exact⟨T.qh,T.uP⟩
local macro_rules | `(tactic| walk_at "rdt") => `(tactic| wp_walk using $(Lean.mkIdent `T))
section
variable{P:Program}{w:World}{K:W.Frag}{mg:Str->Option Value}{base:Heap}{A:lU}
theorem Il(T:Tx K mg A):∀n,bC P w K mg base cJ (n+1) A.lW A.lX ["_law_found", "_law_due"] (yF n):=by
 intro n
 induction n with
 | zero=>exact⟨λ_ _ _ _ h=>h.elim,λ_ _ _ _ _ _ _ _ _ _ _ _ _ h=>h.elim⟩
 | succ n ih =>
  refine T.qd.ok zK (λvs H Q E h=>?_) (λaW Ar outer s H vs Q E hr h=>?_)
  ·obtain⟨v1,v2,d,rfl,_⟩:=h
   rfl
  ·obtain⟨v1,v2,d,rfl,r1,r2,q⟩:=h;have hu:=yd hr;refine⟨_,(aF (bu (PW.pt (eW (aO iF (bh gF rfl T.cD boot_isinstance (aa (pv 1) (aa (eU (v:=.ty "tuple") rfl T.j9 boot_tuple rfl) ao))) (bh gF rfl T.cD boot_isinstance (aa (pv 0) (aa (eU (v:=.ty "tuple") rfl T.j9 boot_tuple rfl) ao))) (aM _)) (eV (aO iF (bh gF rfl T.cD boot_isinstance (aa (pv 1) (aa (eU (v:=.ty "list") rfl T.iw boot_list rfl) ao))) (bh gF rfl T.cD boot_isinstance (aa (pv 0) (aa (eU (v:=.ty "list") rfl T.iw boot_list rfl) ao))) (aM _))))) (aH (bG gS)) br)
   (aF (bu (rA (bh En rfl T.cD boot_isinstance (aa (pv 1) (aa (eo (aa (eU (v:=.ty "tuple") rfl T.j9 boot_tuple rfl) (aa (eU (v:=.ty "list") rfl T.iw boot_list rfl) ao))) ao)))) (aF (bu (aO iF (bh cO rfl T.cE boot_len (aa (pv 0) ao)) (bh cO rfl T.cE boot_len (aa (pv 1) ao)) (aM _)) (aH (bG gS)) br)
   (aF (d_ PassesOwn.never rfl (rE rfl T.fR (aa (bh cO rfl T.cE boot_len (aa (pv 1) ao)) ao)) (cy (i:=2) zK.nd rfl (Or.inl rfl))
   (aH (bu (wK (rA (aU ih (hr.mono (by first | decide | lia)) rfl T.uR T.qd.kp T.uQ .nil aZ (aa (b_ xN (pv 0) (pv 2) (λ_ _=>rfl)) (aa (b_ xN (pv 1) (pv 2) (λ_ _=>rfl)) ao))))) (aH (bG gS)) br)))
   (aH (bG gS)))) br)
   (aF (bu (aO xh (pv 1) wJ (aM _)) (aH (bG (m_ xh (pv 0) wJ (aM _)))) br)
   (aF (bu (PW.pt (eW (aO iF (bh gF rfl T.cD boot_isinstance (aa (pv 1) (aa (eU (v:=.ty "bool") rfl T.l_ boot_bool rfl) ao))) (bh gF rfl T.cD boot_isinstance (aa (pv 0) (aa (eU (v:=.ty "bool") rfl T.l_ boot_bool rfl) ao))) (aM _)) (eV (aO iF (bh gF rfl T.cD boot_isinstance (aa (pv 1) (aa (eU (v:=.ty "str") rfl T.mw boot_str rfl) ao))) (bh gF rfl T.cD boot_isinstance (aa (pv 0) (aa (eU (v:=.ty "str") rfl T.mw boot_str rfl) ao))) (aM _))))) (aH (bG gS)) br)
   (aH (bG (wM (m_ bN (bh gF rfl T.cD boot_isinstance (aa (pv 1) (aa (eU (v:=.ty "int") rfl T.mj boot_int rfl) ao))) (bh gF rfl T.cD boot_isinstance (aa (pv 0) (aa (eU (v:=.ty "int") rfl T.mj boot_int rfl) ao))) (aM _)) (wL (m_ bN (pv 0) (pv 1) (aM _)))))))))),?_⟩
   walk_at "rdm";cases r1 with
   | int i =>
    cases r2;refine⟨_,.int i,_,rfl,_,.int i,_,rfl,ite_no (by simp) ⟨_,.int i,_,rfl,_,.int i,_,rfl,ite_no (by simp) (λp hp=>⟨["tuple", "list"],rfl,_,.int i,_,rfl,ite_no (by decide) (ite_no (by simp) ?_)⟩)⟩⟩
    refine⟨_,.int i,_,rfl,_,.int i,_,rfl,ite_no (by simp) ⟨_,.int i,_,rfl,_,.int i,_,rfl,ite_no (by simp) ⟨_,.int i,_,rfl,_,.int i,_,rfl,ite_yes rfl ⟨rfl,?_⟩⟩⟩⟩
    have:=q _ (aj.put (o:=HO.tup [V.ty "tuple",V.ty "list"]) hp);simpa using this
   | bl i =>
    cases r2;refine⟨_,.bl i,_,rfl,_,.bl i,_,rfl,ite_no (by simp) ⟨_,.bl i,_,rfl,_,.bl i,_,rfl,ite_no (by simp) (λp hp=>⟨["tuple", "list"],rfl,_,.bl i,_,rfl,ite_no (by decide) (ite_no (by simp) ?_)⟩)⟩⟩
    refine⟨_,.bl i,_,rfl,_,.bl i,_,rfl,ite_no (by simp) ⟨_,.bl i,_,rfl,_,.bl i,_,rfl,ite_no (by simp) ⟨_,.bl i,_,rfl,_,.bl i,_,rfl,ite_yes rfl ⟨rfl,?_⟩⟩⟩⟩
    have:=q _ (aj.put (o:=HO.tup [V.ty "tuple",V.ty "list"]) hp);simpa using this
   | str i =>
    cases r2;refine⟨_,.str i,_,rfl,_,.str i,_,rfl,ite_no (by simp) ⟨_,.str i,_,rfl,_,.str i,_,rfl,ite_no (by simp) (λp hp=>⟨["tuple", "list"],rfl,_,.str i,_,rfl,ite_no (by decide) (ite_no (by simp) ?_)⟩)⟩⟩
    refine⟨_,.str i,_,rfl,_,.str i,_,rfl,ite_no (by simp) ⟨_,.str i,_,rfl,_,.str i,_,rfl,ite_no (by simp) ⟨_,.str i,_,rfl,_,.str i,_,rfl,ite_yes rfl ⟨rfl,?_⟩⟩⟩⟩
    have:=q _ (aj.put (o:=HO.tup [V.ty "tuple",V.ty "list"]) hp);simpa using this
   | aG =>
    cases r2;refine⟨_,.aG,_,rfl,_,.aG,_,rfl,ite_no (by simp) ⟨_,.aG,_,rfl,_,.aG,_,rfl,ite_no (by simp) (λp hp=>⟨["tuple", "list"],rfl,_,.aG,_,rfl,ite_no (by decide) (ite_yes rfl ?_)⟩)⟩⟩
    exact q _ (aj.put hp)
   | @lst _ a xs ds h l hl r =>
    cases r2 with
    | @lst _ a' mC _ h' l' eE r' =>
    refine⟨_,.lst h',_,rfl,_,.lst h,_,rfl,ite_no (by simp) ⟨_,.lst h',_,rfl,_,.lst h,_,rfl,ite_no (by simp) (λp hp=>⟨["tuple", "list"],rfl,_,.lst (aj.put hp _ _ h'),_,rfl,ite_yes (by decide) ?_⟩)⟩⟩
    have s0:=aj.put (o:=HO.tup [V.ty "tuple",V.ty "list"]) hp;refine⟨_,rfl,_,.inl (aB.of (s0 _ _ h)),_,rfl,_,.inl (aB.of (s0 _ _ h')),ite_no (by lia) ?_⟩
    refine yC ds.length (λi σ H'=>∃kk,σ = [some (.ref a),some (.ref a'),kk]/\aj H H') (λQ q=>?_) (by lia) ⟨none,rfl,s0⟩ ?_ ?_
    ·walk_at "rdm";refine⟨_,.inl (aB.of (s0 _ _ h')),?_⟩;rw[l'];exact q
    ·rintro i σ H' N hN hi ⟨kk,rfl,hs⟩;walk_at "rdm";have g1:xs[i]? = some xs[i]:=List.getElem?_eq_getElem (by lia)
     have g2:mC[i]? = some mC[i]:=List.getElem?_eq_getElem (by lia)
     have g3:ds[i]? = some ds[i]:=List.getElem?_eq_getElem hi;refine yL ⟨_,_,_,_,rfl,rfl,aB.of (hs _ _ h),jo g1,yL ⟨_,_,_,_,rfl,rfl,aB.of (hs _ _ h'),jo g2,⟨_,_,ds[i],rfl,(r i _ _ g1 g3).same hs,(r' i _ _ g2 g3).same hs,λH2 s2=>⟨true,rfl,?_⟩⟩⟩⟩;exact ite_no (by simp) (hN _ _ ⟨_,rfl,hs.trans s2⟩)
    ·rintro σ H' ⟨kk,rfl,hs⟩;walk_at "rdm";exact q _ hs
   | @tup _ a xs ds h l hl r =>
    cases r2 with
    | @tup _ a' mC _ h' l' eE r' =>
    refine⟨_,.tup h',_,rfl,_,.tup h,_,rfl,ite_no (by simp) ⟨_,.tup h',_,rfl,_,.tup h,_,rfl,ite_no (by simp) (λp hp=>⟨["tuple", "list"],rfl,_,.tup (aj.put hp _ _ h'),_,rfl,ite_yes (by decide) ?_⟩)⟩⟩
    have s0:=aj.put (o:=HO.tup [V.ty "tuple",V.ty "list"]) hp;refine⟨_,rfl,_,.inr (bW.of (s0 _ _ h)),_,rfl,_,.inr (bW.of (s0 _ _ h')),ite_no (by lia) ?_⟩
    refine yC ds.length (λi σ H'=>∃kk,σ = [some (.ref a),some (.ref a'),kk]/\aj H H') (λQ q=>?_) (by lia) ⟨none,rfl,s0⟩ ?_ ?_
    ·walk_at "rdm";refine⟨_,.inr (bW.of (s0 _ _ h')),?_⟩;rw[l'];exact q
    ·rintro i σ H' N hN hi ⟨kk,rfl,hs⟩;walk_at "rdm";have g1:xs[i]? = some xs[i]:=List.getElem?_eq_getElem (by lia)
     have g2:mC[i]? = some mC[i]:=List.getElem?_eq_getElem (by lia)
     have g3:ds[i]? = some ds[i]:=List.getElem?_eq_getElem hi;refine yM ⟨_,_,_,_,rfl,rfl,bW.of (hs _ _ h),jo g1,yM ⟨_,_,_,_,rfl,rfl,bW.of (hs _ _ h'),jo g2,⟨_,_,ds[i],rfl,(r i _ _ g1 g3).same hs,(r' i _ _ g2 g3).same hs,λH2 s2=>⟨true,rfl,?_⟩⟩⟩⟩;exact ite_no (by simp) (hN _ _ ⟨_,rfl,hs.trans s2⟩)
    ·rintro σ H' ⟨kk,rfl,hs⟩;walk_at "rdm";exact q _ hs
theorem Im(T:Tx K mg A):bC P w K mg base cJ 8 A.lW A.lX ["_law_found", "_law_due"] (EU K):=(Il T 5).mono (by decide)
theorem Io(T:Tx K mg A):bC P w K mg base (c9 P w base) 1 A.oU A.oV ["zones"] (Hs K A.aI):=by
 refine T.uH.lz oM (λvs H Q E h=>?_) (λaW Ar outer s H vs Q E hr h=>?_)
 ·obtain⟨a,ts,z,rfl,_⟩:=h
  rfl
 ·obtain⟨a,ts,z,rfl,hz,hl,q,qe⟩:=h;refine⟨_,(aF (bu (PW.pt (eW (aO gW (bh cO rfl T.cE boot_len (aa (pv 0) ao)) ak (aM _)) (eV (aO gX (bh cO rfl T.cE boot_len (aa (pv 0) ao)) (dB (v:=.int 5) rfl T.Aj ⟨_,rfl⟩) (aM _))))) (aH (fK fL rfl T.eL T.dJ PySem.F.excBase_ValueError rfl (aa fF ao))) br)
   (aF (d_ PassesOwn.leaving rfl (jg (pv 0)) (i9 rfl (d9 (cy (i:=1) oM.nd rfl (Or.inl rfl)) (d9 (cy (i:=2) oM.nd rfl (Or.inl rfl)) i8)))
   (aF (bu (PW.pt (eW (aO gW (pv 1) ak (aM _)) (eV (aO gX (pv 1) (dB (v:=.int 40) rfl T.Al ⟨_,rfl⟩) (aM _))))) (aH (fK fL rfl T.eL T.dJ PySem.F.excBase_ValueError rfl (aa fF ao))) br)
   (aH (bu (PW.pt (eW (aO gW (pv 2) ak (aM _)) (eV (aO gX (pv 2) (dB (v:=.int 60) rfl T.Am ⟨_,rfl⟩) (aM _))))) (aH (fK fL rfl T.eL T.dJ PySem.F.excBase_ValueError rfl (aa fF ao))) br))))
   (aF (bz (i:=3) oM.nd rfl (Or.inl rfl) (bh (El rfl) rfl T.qq boot_sum (aa (nR (N:=["zone"]) (nt:=1) (fv:=[]) (dH.of rfl rfl (by rfl) (by rfl) (by repeat (first | exact trivial | refine⟨rfl,?_⟩)) (by rfl) (by rfl) (by rfl) (by decide) (by decide +kernel)) rfl (jg (pv 0)) (λC s H fp=>(cy (i:=0) (show List.Nodup (["zone"]:List Str) by decide +kernel) rfl (Or.inl rfl))) (λC s H fp=>nP) (λC s H fp=>(b_ (EG (K:=K) rfl) (pv 0) ak (λ_ _=>rfl)))) ao)))
   (aH (bu (PW.pt (eW (aO gW (pv 3) (dB (v:=.int 2) rfl T.An ⟨_,rfl⟩) (aM _)) (eV (aO gX (pv 3) (dB (v:=.int 120) rfl T.Ao ⟨_,rfl⟩) (aM _))))) (aH (fK fL rfl T.eL T.dJ PySem.F.excBase_ValueError rfl (aa fF ao))) br))))),?_⟩
  walk_at "rdm";have hn:=hz.n;have lm:(ts.map V.ref).length=z.length:=by rw[List.length_map,hn]
  refine⟨_,.inl hz.sq,?_⟩;rw[lm];refine aX (λh1=>qe (λt=>by have:=t.l1;lia) _ (aj.refl _)) λh1=>⟨_,.inl hz.sq,?_⟩
  rw[lm];refine aX (λh1=>qe (λt=>by have:=t.l5;lia) _ (aj.refl _)) λh2=>?_
  refine rl a (ts.map V.ref) (λi σ H'=>∃r c,σ = [some (.ref a),r,c,none]/\H' = H/\∀p∈z.take i,1<=p.1/\p.1<=40/\1<=p.2/\p.2<=60) (λQ q=>⟨_,rfl,q⟩) hz.sq ⟨none,none,rfl,rfl,by simp⟩ (by rintro i σ H' _ ⟨r,c,rfl,rfl,_⟩;exact hz.sq) ?_ ?_
  ·rintro i x σ H' N hN hx ⟨r,c,rfl,rfl,ok⟩;obtain⟨t,p,rfl,hp,ht⟩:=hz.at hx;refine jt (bW.of ht) rfl ?_;walk_at "rdm";have no:¬ (1<=p.1/\p.1<=40/\1<=p.2/\p.2<=60)->E (.ref A.aI) none H':=λb=>qe (λt=>b (t.r p (get_mem hp))) _ (aj.refl _);refine aX (λh=>no (by lia)) λg1=>aX (λh=>no (by lia)) λg2=>aX (λh=>no (by lia)) λg3=>aX (λh=>no (by lia)) λg4=>hN _ _ ⟨_,_,rfl,rfl,λp' dZ=>?_⟩
   rw[take_succ_get hp] at dZ;rcases List.mem_append.mp dZ with dZ | dZ
   ·exact ok p' dZ
   ·rw[List.mem_singleton.mp dZ];lia
  ·rintro σ H' ⟨r,c,rfl,rfl,ok⟩;rw[lm,List.take_length] at ok
   show wO _ _ _ _ _;walk_at "rdm";refine yD a (ts.map V.ref) (λD i ys aC H2=>ys=((z.take i).map λp=>V.int p.1)/\H2 D=some (.lst ys)/\aj H' H2/\H' D=none/\i<=z.length/\∃u,aC = [u]) (λQ q=>⟨_,rfl,q⟩) hz.sq ?_ ?_ ?_ ?_
   ·intro D hD;exact⟨rfl,aE,aj.put hD,hD,Nat.zero_le _,_,rfl⟩
   ·rintro D i ys aC H2 ⟨e,e1,e2,e3,e4,_⟩;refine⟨e1,?_,e2.seq hz.sq⟩;rw[e];refine nH ?_;simp only[List.length_map,List.length_take];lia
   ·rintro D i x ys aC H2 N hN hx ⟨e,e1,e2,e3,e4,u,rfl⟩;obtain⟨t,p,rfl,hp,ht⟩:=hz.at hx;have hl:=sV hp;walk_at "rdm";refine⟨_,bW.of (e2 _ _ ht),_,rfl,e1,hN _ _ _ ⟨?_,aE,aj.put2 e2 e3,e3,hl,_,rfl⟩⟩;rw[take_succ_get hp,List.map_append,e];rfl
   ·rintro D ys aC H2 ⟨e,e1,e2,e3,e4,u,rfl⟩;have e5:ys=(z.map λp=>p.1).map V.int:=by
     rw[e,lenZ hz.n,List.take_length,List.map_map];rfl
    rw[e5] at e1;walk_at "rdm";refine⟨_,aB.of e1,aX (λh=>qe (λt=>?_) _ e2) λg1=>aX (λh=>qe (λt=>?_) _ e2) λg2=>q ⟨by lia,by lia,ok,by lia,by lia⟩ _ e2⟩
    ·have:=t.s2;lia
    ·have:=t.k7;lia
theorem Ip(T:Tx K mg A):bC P w K mg base (c9 P w base) 1 A.oW A.oX ["zones", "lap", "skew"] (Ht K A.aI):=by
 refine T.uI.lz uF (λvs H Q E h=>?_) (λaW Ar outer s H vs Q E hr h=>?_)
 ·obtain⟨a,ts,z,a_,bF,rfl,_⟩:=h
  rfl
 ·obtain⟨a,ts,z,a_,bF,rfl,hz,ok,q,qe⟩:=h;refine⟨_,(aF (bu (PW.pt (eW (aO gW (pv 1) ak (aM _)) (eV (aO gX (pv 1) (dB (v:=.int 1000000000) rfl T.u6 ⟨_,rfl⟩) (aM _))))) (aH (fK fL rfl T.eL T.dJ PySem.F.excBase_ValueError rfl (aa fF ao))) br)
   (aF (d_ PassesOwn.leaving rfl (jg (pv 0)) (i9 rfl (d9 (cy (i:=3) uF.nd rfl (Or.inl rfl)) (d9 (cy (i:=4) uF.nd rfl (Or.inl rfl)) i8)))
   (aH (bu (aO iF (au bL (pv 1) (pv 4)) ak (aM _)) (aH (fK fL rfl T.eL T.dJ PySem.F.excBase_ValueError rfl (aa fF ao))) br)))
   (aH (bu (PW.pt (eW (aO gW (pv 2) ak (aM _)) (eV (aO Cn (pv 2) (pv 1) (aM _))))) (aH (fK fL rfl T.eL T.dJ PySem.F.excBase_ValueError rfl (aa fF ao))) br)))),?_⟩
  walk_at "rdm";refine aX (λh1=>qe λt=>by have:=t.l1;lia) λh1=>aX (λh2=>qe λt=>by have:=t.l2;lia) λh2=>?_
  refine rl a (ts.map V.ref) (λi σ H'=>∃r c,σ = [some (.ref a),some (.int a_),some (.int bF),r,c]/\H' = H/\∀p∈z.take i,a_ % p.2=0) (λQ q=>⟨_,rfl,q⟩) hz.sq ⟨none,none,rfl,rfl,by simp⟩ (by rintro i σ H' _ ⟨r,c,rfl,rfl,_⟩;exact hz.sq) ?_ ?_
  ·rintro i x σ H' N hN hx ⟨r,c,rfl,rfl,dv⟩;obtain⟨t,p,rfl,hp,ht⟩:=hz.at hx;refine jt (bW.of ht) rfl ?_;obtain⟨g1,g2,g3,g4⟩:=ok.r p (get_mem hp);walk_at "rdm";refine⟨by lia,aX (λh=>qe λt=>h (t.d p (get_mem hp))) λh=>hN _ _ ⟨_,_,rfl,rfl,λp' dZ=>?_⟩⟩
   rw[take_succ_get hp] at dZ;rcases List.mem_append.mp dZ with dZ | dZ
   ·exact dv p' dZ
   ·rw[List.mem_singleton.mp dZ];exact Classical.not_not.mp h
  ·rintro σ H' ⟨r,c,rfl,rfl,dv⟩;rw[lenZ hz.n,List.take_length] at dv;walk_at "rdm";exact aX (λh=>qe λt=>by have:=t.s1;lia) λh=>aX (λh'=>qe λt=>by have:=t.s2;lia) λh'=>q ⟨by lia,by lia,dv,by lia,by lia⟩
theorem Iq(T:Tx K mg A):bC P w K mg base (c9 P w base) 1 A.o7 A.o8 ["swing"] (Hv K A.aI):=by
 refine T.uK.lz uG (λvs H Q E h=>?_) (λaW Ar outer s H vs Q E hr h=>?_)
 ·obtain⟨a,sw,rfl,_⟩:=h
  rfl
 ·obtain⟨a,sw,rfl,hS,h2,hl,q,qe⟩:=h;refine⟨_,(aH (d_ PassesOwn.leaving rfl (jS rfl T.fR (aa ak (aa (bh cO rfl T.cE boot_len (aa (pv 0) ao)) ao))) (cy (i:=1) uG.nd rfl (Or.inl rfl))
   (aH (d_ PassesOwn.leaving rfl (jS rfl T.fR (aa ak (aa (au bB (au jT (pv 1) ak) ak) ao))) (cy (i:=2) uG.nd rfl (Or.inl rfl))
   (aH (bu (aO gX (b_ cN (pv 0) (pv 1) (λ_ _=>rfl)) (au bB (b_ cN (pv 0) (pv 2) (λ_ _=>rfl)) (b_ cN (pv 0) (au dD (pv 1) (pv 2)) (λ_ _=>rfl))) (aM _)) (aH (fK fL rfl T.eL T.dJ PySem.F.excBase_ValueError rfl (aa fF ao))) br)))))),?_⟩
  walk_at "rdm";have key:(∀f p:Nat,2<=f->f<sw.length->1<=p->p<=f / 2->sw.getD f 0<=sw.getD p 0+sw.getD (f - p) 0)->tX sw:=λk a b ha hb jw=>by
   by_cases hle:a<=b
   ·have:=k (a+b) a (by lia) jw ha (by lia)
    rwa [show a+b - a=b by lia] at this
   ·have:=k (a+b) b (by lia) jw hb (by lia)
    rw[show a+b - b=a by lia] at this
    lia
  refine jr 2 (sw.length:Int) (λi σ H'=>∃r c,σ = [some (.ref a),r,c]/\H' = H/\∀f p:Nat,2<=f->f<2+i->1<=p->p<=f / 2->sw.getD f 0<=sw.getD p 0+sw.getD (f - p) 0) (λQ q=>?_) (by lia) (by lia) (by lia) (by lia) ⟨none,none,rfl,rfl,λf p g1 g2=>by lia⟩ ?_ ?_
  ·walk_at "rdm";refine⟨_,.inl hS,?_⟩;simpa using q
  ·rintro i σ H' N hN hi ⟨r,c,rfl,rfl,ok⟩;walk_at "rdm";refine jr 1 ((2+(i:Int)) / 2+1) (λj σ H2=>∃c,σ = [some (.ref a),some (.int (2+(i:Int))),c]/\H2=H'/\∀p:Nat,1<=p->p<1+j->sw.getD (2+i) 0<=sw.getD p 0+sw.getD (2+i - p) 0) (λQ q=>?_) (by lia) (by lia) (by lia) (by lia) ⟨_,rfl,rfl,λp g1 g2=>by lia⟩ ?_ ?_
   ·walk_at "rdm";exact q
   ·rintro j σ H2 N2 u9 hj ⟨c,rfl,rfl,u_⟩;walk_at "rdm";have e1:((2:Int)+(i:Int)).toNat=2+i:=by lia
    have e2:((1:Int)+(j:Int)).toNat=1+j:=by lia
    have e3:((2:Int)+(i:Int) - (1+(j:Int))).toNat=2+i - (1+j):=by lia
    refine⟨_,hS,_,eZ (by lia) (by lia),_,hS,_,eZ (by lia) (by lia),_,hS,_,eZ (by lia) (by lia),?_⟩
    walk_at "rdm";rw[e1,e2,e3];refine aX (λh=>qe λnd=>?_) λh=>u9 _ _ ⟨_,rfl,rfl,λp g1 g2=>?_⟩
    ·have:=nd (1+j) (2+i - (1+j)) (by lia) (by lia) (by lia)
     rw[show 1+j+(2+i - (1+j))=2+i by lia] at this
     lia
    ·by_cases hp:p<1+j
     ·exact u_ p g1 hp
     ·have:p=1+j:=by lia
      subst this;lia
   ·rintro σ H2 ⟨c,rfl,rfl,u_⟩;refine hN _ _ ⟨_,_,rfl,rfl,λf p g1 g2 g3 g4=>?_⟩;by_cases hf:f<2+i
    ·exact ok f p g1 hf g3 g4
    ·have:f=2+i:=by lia
     subst this;exact u_ p g3 (by lia)
  ·rintro σ H' ⟨r,c,rfl,rfl,ok⟩;exact q (key λf p g1 g2 g3 g4=>ok f p g1 (by lia) g3 g4)
theorem Ir(T:Tx K mg A):bC P w K mg base cJ 1 A.o9 A.o_ ["zones"] (EL K):=by
 refine T.uL.ok oN (λvs H Q E h=>?_) (λaW Ar outer s H vs Q E hr h=>?_)
 ·obtain⟨a,ts,z,rfl,_⟩:=h
  rfl
 ·obtain⟨a,ts,z,rfl,hz,ok,q⟩:=h;refine⟨_,(aF (bz (i:=1) oN.nd rfl (Or.inl rfl) (cB ao))
   (aF (d_ PassesOwn.never rfl (jg (pv 0)) (i9 rfl (d9 (cy (i:=2) oN.nd rfl (Or.inl rfl)) (d9 (cy (i:=3) oN.nd rfl (Or.inl rfl)) i8)))
   (aH (gU (kQ PySem.F.plainAttrs_list PySem.F.slot_list_extend PySem.F.type_list_extend xU (pv 1) (aa (au kR (cB (aa (pv 3) ao)) (pv 2)) ao)))))
   (aH (bG (pv 1))))),?_⟩
  walk_at "rdm";refine λl hl=>?_;refine rl a (ts.map V.ref) (λi σ H'=>∃r c,σ = [some (.ref a),some (.ref l),r,c]/\aj H H'/\H' l=some (.lst ((counts (z.take i)).map V.int))) (λQ q=>⟨_,rfl,q⟩) (aj.put hl |>.seq hz.sq) ⟨none,none,rfl,aj.put hl,aE⟩ (by rintro i σ H' _ ⟨r,c,rfl,hs,_⟩;exact hs.seq hz.sq) ?_ ?_
  ·rintro i x σ H' N hN hx ⟨r,c,rfl,hs,h1⟩;obtain⟨t,p,rfl,hp,ht⟩:=hz.at hx;refine jt (bW.of (hs _ _ ht)) rfl ?_;obtain⟨g1,g2,g3,g4⟩:=ok.r p (get_mem hp);have g5:=EB ok i;walk_at "rdm";refine⟨⟨_,aB.of h1⟩,λp1 dc=>⟨by lia,by lia,by lia,λp2 iy=>?_⟩⟩
   have s1:=(aj.put (o:=.lst [V.int p.2]) dc).trans (aj.put (o:=.lst (List.replicate p.1.toNat [V.int p.2]).flatten) iy);refine⟨_,s1 _ _ h1,?_,hN _ _ ⟨_,_,rfl,aj.put2 (hs.trans s1) hl,?_⟩⟩
   ·simp only[nX,List.length_map,List.length_replicate];lia
   ·rw[aE,take_succ_get hp,sS,List.map_append,nX];simp[counts]
  ·rintro σ H' ⟨r,c,rfl,hs,h1⟩;walk_at "rdm";rw[lenZ hz.n,List.take_length] at h1;exact q _ _ hs hl h1
theorem Iu(T:Tx K mg A):bC P w K mg base cJ 1 A.pe A.pq ["ring_cells", "spares"] (EM K):=by
 refine T.uM.ok lR (λvs H Q E h=>?_) (λaW Ar outer s H vs Q E hr h=>?_)
 ·obtain⟨a,rc,s,rfl,_⟩:=h
  rfl
 ·obtain⟨a,rc,s,rfl,hS,hl,hc,iz,vc,q⟩:=h;refine⟨_,(aF (bz (i:=2) lR.nd rfl (Or.inl rfl) (cB ao))
   (aF (d_ PassesOwn.never rfl (yt rfl T.mh (aa (pv 0) ao)) (i9 rfl (d9 (cy (i:=3) lR.nd rfl (Or.inl rfl)) (d9 (cy (i:=4) lR.nd rfl (Or.inl rfl)) i8)))
   (aH (d_ PassesOwn.never rfl (rE rfl T.fR (aa (au dD (pv 4) (pv 1)) ao)) (cy (i:=5) lR.nd rfl (Or.inl rfl))
   (aH (gU (kQ PySem.F.plainAttrs_list PySem.F.slot_list_append PySem.F.type_list_append nv (pv 2) (aa (eo (aa (pv 3) (aa (pv 5) ao))) ao)))))))
   (aH (bG (pv 2))))),?_⟩
  walk_at "rdm";refine λl c8=>?_;have Iv:=EC (s:=s) iz (λc hx=>hc c hx);refine re a (rc.map V.int) (λi σ H'=>∃r c pl ts,σ = [some (.ref a),some (.int s),some (.ref l),r,c,pl]/\aj H H'/\(∀t∈ts,H t=none)/\Zn H' l ts (dQ s 0 (rc.take i))) (λQ q=>?_) (aj.put c8 |>.seq hS)
   ⟨none,none,none,[],rfl,aj.put c8,(by intro t ht;cases ht),aE,rfl,by intro i t p h;simp at h⟩ (by rintro i σ H' _ ⟨r,c,pl,ts,rfl,hs,_⟩;exact hs.seq hS) ?_ ?_
  ·walk_at "rdm";exact q
  ·rintro i x σ H' T1 N hN hx ⟨r,c,pl,ts,rfl,hs,gj,hz⟩ hT;obtain⟨c0,vd,rfl⟩:=EF hx;obtain⟨g1,g2⟩:=hc c0 (get_mem vd);refine jt (bW.of aE) rfl ?_;walk_at "rdm";have AG:=aj.put (o:=.tup [.int i,.int c0]) hT;refine EI (c0 - s) (λj σ H2=>∃pl ts,σ = [some (.ref a),some (.int s),some (.ref l),some (.int i),some (.int c0),pl]/\aj H H2/\(∀t∈ts,H t=none)/\Zn H2 l ts (dQ s 0 (rc.take i)++(List.range j).map λ(k:Nat)=>((i:Int),(k:Int)))) (λQ q=>?_) (by lia) (by lia) ?_ ?_ ?_
   ·walk_at "rdm";exact q
   ·exact⟨_,ts,rfl,hs.trans AG,gj,by simpa using hz.same AG⟩
   ·rintro j σ H2 N2 u9 hj ⟨pl,ts,rfl,gq,ve,iA⟩;walk_at "rdm";refine⟨⟨_,iA.sq⟩,λp hp=>⟨_,aj.put hp _ _ iA.l,?_,u9 _ _ ⟨_,ts++[p],rfl,aj.put2 (gq.trans (aj.put hp)) c8,?_,?_⟩⟩⟩
    ·have h1:=iA.n;have h2:=Iv i;simp only[List.length_map,List.length_append,List.length_range] at h1 ⊢;lia
    ·intro t ht;rcases List.mem_append.mp ht with ht | ht
     ·exact ve t ht
     ·rw[List.mem_singleton.mp ht];exact gq.free hp
    ·have:=iA.snoc hp (i:Int) (j:Int);rw[List.range_succ,List.map_append,← List.append_assoc];exact this
   ·rintro σ H2 ⟨pl,ts,rfl,gq,ve,iA⟩;refine hN _ _ ⟨_,_,_,ts,rfl,gq,ve,?_⟩;rw[take_succ_get vd,yw];have hi:=sV vd;simpa[dQ,Nat.min_eq_left (Nat.le_of_lt hi)] using iA
  ·rintro σ H' ⟨r,c,pl,ts,rfl,hs,gj,hz⟩;walk_at "rdm";rw[List.length_map,List.take_length] at hz;exact q _ _ _ hs c8 gj hz
theorem Iw(T:Tx K mg A):bC P w K mg base cJ 1 A.pC A.pD ["number_cells"] (EN K):=by
 refine T.uN.ok oO (λvs H Q E h=>?_) (λaW Ar outer s H vs Q E hr h=>?_)
 ·obtain⟨a,ts,z,rfl,_⟩:=h
  rfl
 ·obtain⟨a,ts,z,rfl,hz,hlen,q⟩:=h;have hu:=yd hr;refine⟨_,(aF (bz (i:=1) oO.nd rfl (Or.inl rfl) DN)
   (aF (d_ PassesOwn.never rfl (yt rfl T.mh (aa (pv 0) ao)) (i9 rfl (d9 (cy (i:=2) oO.nd rfl (Or.inl rfl)) (d9 (cy (i:=3) oO.nd rfl (Or.inl rfl)) i8)))
   (aH (DK hu (pv 1) (pv 3) (pv 2) rfl)))
   (aH (bG (pv 1))))),?_⟩
  walk_at "rdm";refine λd hd=>?_;refine re a (ts.map V.ref) (λi σ H'=>∃r c,σ = [some (.ref a),some (.ref d),r,c]/\aj H H'/\i<=z.length/\H' d=some (.dT (e8 0 (z.take i) []))) (λQ q=>?_) (aj.put hd |>.seq hz.sq)
   ⟨none,none,rfl,aj.put hd,Nat.zero_le _,aE⟩ (by rintro i σ H' _ ⟨r,c,rfl,hs,_⟩;exact hs.seq hz.sq) ?_ ?_
  ·walk_at "rdm";exact q
  ·rintro i x σ H' T1 N hN hx ⟨r,c,rfl,hs,hi,h1⟩ hT;obtain⟨t,p,rfl,hp,ht⟩:=hz.at hx;refine jt (bW.of aE) rfl ?_;walk_at "rdm";have vc:=hs.trans (aj.put (o:=.tup [.int i,.ref t]) hT);have hl:=yy (z.take i) 0 [];have AH:=sV hp;rw[List.length_take,List.length_nil] at hl;refine⟨_,kU.t (k:=kT p) (aj.put hT _ _ h1) (vc _ _ ht) (by rw[ED];lia),hN _ _ ⟨_,_,rfl,aj.put2 vc hd,AH,?_⟩⟩
   rw[aE,take_succ_get hp,yx];simp[e8,Nat.min_eq_left (Nat.le_of_lt AH)]
  ·rintro σ H' ⟨r,c,rfl,hs,hi,h1⟩;walk_at "rdm";rw[lenZ hz.n,List.take_length] at h1;exact q _ _ hs hd h1
theorem Iz(T:Tx K mg A):bC P w K mg base cJ 1 A.lV A.pI ["self"] (ET K):=by
 refine T.z7.ok HR (λvs H Q E h=>?_) (λaW Ar outer s H vs Q E hr h=>?_)
 ·obtain⟨C,p,P,fp,rfl,_⟩:=h
  rfl
 ·obtain⟨C,p,P,fp,rfl,hP,q⟩:=h;obtain⟨dx,a1,a2,a3,a4,ts,fs,rfl,h⟩:=hP;refine⟨_,(aH (bG (bh cO rfl T.cE boot_len (aa (ni (pv 0) rfl) ao)))),?_⟩;wp_walk using T,h.o,h.f1,h.f2,h.f3,h.f4,h.f5,h.f6,h.m1,h.m2,h.m3,h.m4,h.m5,h.m6,h.m7,h.m8,h.m9,h.EO,h.ER,h.cp.cl,h.cp.n1,h.cp.n2,h.cp.n3,h.cp.n4,h.cp.n5,h.cp.n6;exact⟨_,.inl (aB.of h.rc),by simpa  using q⟩
theorem IA(T:Tx K mg A):bC P w K mg base cJ 1 A.pJ A.pK ["_law_script", "_law_k"] (jZ K):=by
 refine T.iu.ok HS (λvs H Q E h=>?_) (λaW Ar outer s H vs Q E hr h=>?_)
 ·obtain⟨a,ns,k,rfl,_⟩:=h
  rfl
 ·obtain⟨a,ns,k,rfl,hS,hl,hk,q⟩:=h;refine⟨_,(aF (bu (aO gW (pv 1) (bh cO rfl T.cE boot_len (aa (pv 0) ao)) (aM _)) (aH (bG (b_ cN (pv 0) (pv 1) (λ_ _=>rfl)))) br)
   (aH (bG ak))),?_⟩
  walk_at "rdm";refine⟨_,.inl hS,aX (λaY=>⟨_,hS,_,eZ hk (by simpa using aY),q⟩) λcX=>?_⟩
  have e:eF ns k=0:=by
   unfold eF;rw[List.length_map] at cX;rw[List.getD_eq_getElem?_getD,List.getElem?_eq_none (by lia)];rfl
  rw[e] at q;exact q
theorem qM(T:Tx K mg A):bC P w K mg base cJ 1 A.pL A.pM ["_law_cell", "_law_k"] dI:=by
 refine T.cu.ok zL (λvs H Q E h=>?_) (λaW Ar outer s H vs Q E hr h=>?_)
 ·obtain⟨c,k,rfl,_⟩:=h
  rfl
 ·obtain⟨c,k,rfl,iP,MS,q⟩:=h;refine⟨_,(aF (bz (i:=2) zL.nd rfl (Or.inl rfl) (au bB (au bB (au gv (au bB (au bL (pv 0) (au jU ak ak)) ak) ak) (au gv (au gv (pv 1) (pv 1)) ak)) (au gv (pv 1) ak)))
   (aH (bG (au bL (au gv (au bL (pv 2) ak) ak) ak)))),?_⟩
  walk_at "rdm";exact⟨by decide,.inl ⟨by lia,by lia⟩,q⟩
theorem IB(T:Tx K mg A):bC P w K mg base cJ 1 A.pP A.pQ ["_law_zones_here"] (Hy K):=by
 refine T.qg.ok oR (λvs H Q E h=>?_) (λaW Ar outer s H vs Q E hr h=>?_)
 ·obtain⟨a,ts,z,rfl,_⟩:=h
  rfl
 ·obtain⟨a,ts,z,rfl,hz,z5,zr,q⟩:=h;refine⟨_,(aF (bz (i:=1) oR.nd rfl (Or.inl rfl) (cB ao))
   (aF (d_ PassesOwn.never rfl (jg (pv 0)) (i9 rfl (d9 (cy (i:=2) oR.nd rfl (Or.inl rfl)) (d9 (cy (i:=3) oR.nd rfl (Or.inl rfl)) i8)))
   (aH (gU (kQ PySem.F.plainAttrs_list PySem.F.slot_list_extend PySem.F.type_list_extend xU (pv 1) (aa (au kR (cB (aa (pv 3) ao)) (pv 2)) ao)))))
   (aH (bG (pv 1))))),?_⟩
  walk_at "rdm";refine λl hl=>?_;refine rl a (ts.map V.ref) (λi σ H'=>∃r c,σ = [some (.ref a),some (.ref l),r,c]/\aj H H'/\H' l=some (.lst ((counts (z.take i)).map V.int))) (λQ q=>⟨_,rfl,q⟩) (aj.put hl |>.seq hz.sq) ⟨none,none,rfl,aj.put hl,aE⟩ (by rintro i σ H' _ ⟨r,c,rfl,hs,_⟩;exact hs.seq hz.sq) ?_ ?_
  ·rintro i x σ H' N hN hx ⟨r,c,rfl,hs,h1⟩;obtain⟨t,p,rfl,hp,ht⟩:=hz.at hx;refine jt (bW.of (hs _ _ ht)) rfl ?_;obtain⟨g1,g2⟩:=zr p (get_mem hp);have g5:=(tZ (z.take i) λq hq=>zr q (List.mem_of_mem_take hq)).2;have g6:(z.take i).length<=5:=by rw[List.length_take];lia
   walk_at "rdm";refine⟨⟨_,aB.of h1⟩,λp1 dc=>⟨by lia,by lia,by lia,λp2 iy=>?_⟩⟩
   have s1:=(aj.put (o:=.lst [V.int p.2]) dc).trans (aj.put (o:=.lst (List.replicate p.1.toNat [V.int p.2]).flatten) iy);refine⟨_,s1 _ _ h1,?_,hN _ _ ⟨_,_,rfl,aj.put2 (hs.trans s1) hl,?_⟩⟩
   ·simp only[nX,List.length_map,List.length_replicate];lia
   ·rw[aE,take_succ_get hp,sS,List.map_append,nX];simp[counts]
  ·rintro σ H' ⟨r,c,rfl,hs,h1⟩;walk_at "rdm";rw[lenZ hz.n,List.take_length] at h1;exact q _ _ hs hl h1
theorem IC(T:Tx K mg A):bC P w K mg base cJ 1 A.pW A.pX ["_law_zones_here", "_law_fault", "_law_at_here"] (Hz K):=by
 refine T.uY.ok zM (λvs H Q E h=>?_) (λaW Ar outer s H vs Q E hr h=>?_)
 ·obtain⟨a,ts,z,f,k,rfl,_⟩:=h
  rfl
 ·obtain⟨a,ts,z,f,k,rfl,hz,ok,f0,k0,k1,q⟩:=h;refine⟨_,(aF (bz (i:=3) zM.nd rfl (Or.inl rfl) (rQ r9 rfl T.iw boot_list (aa (pv 0) ao)))
   (aF (bu (aO bN (pv 1) ak (aM _)) (aH (bG (cB ao))) br)
   (aF (bu (aO bN (pv 1) ak (aM _)) (aH (bG (au iG (pv 3) (au kR (cB (aa (eo (aa ak (aa ak ao))) ao)) (au dD ak (bh cO rfl T.cE boot_len (aa (pv 3) ao))))))) br)
   (aF (ie (bu (PW.pt (eW (aO bN (pv 1) ak (aM _)) (eV (aO bN (pv 1) ak (aM _))))) (aH (jc (eo (aa (b_ cN (cB (aa ak (aa ak ao))) (au dD (pv 1) ak) (λ_ _=>rfl)) (aa (b_ kP (b_ cN (pv 3) (pv 2) (λ_ _=>rfl)) ak (λ_ _=>rfl)) ao))) (i_ (pv 3) (pv 2) set_list))) br))
   (aF (ie (bu (PW.pt (eW (aO bN (pv 1) ak (aM _)) (eV (aO bN (pv 1) ak (aM _))))) (aH (jc (eo (aa (b_ kP (b_ cN (pv 3) (pv 2) (λ_ _=>rfl)) ak (λ_ _=>rfl)) (aa (b_ cN (cB (aa ak (aa ak ao))) (au dD (pv 1) ak) (λ_ _=>rfl)) ao))) (i_ (pv 3) (pv 2) set_list))) br))
   (aF (bu (aO bN (pv 1) ak (aM _)) (aH (bG (cB (aa (eo (aa ak (aa (b_ kP (b_ cN (pv 0) ak (λ_ _=>rfl)) ak (λ_ _=>rfl)) ao))) ao)))) br)
   (aF (bu (aO bN (pv 1) ak (aM _)) (aH (bG (cB (aa (eo (aa ak (aa ak ao))) (aa (eo (aa ak (aa ak ao))) (aa (eo (aa ak (aa ak ao))) (aa (eo (aa ak (aa ak ao))) ao))))))) br)
   (aH (bG (pv 3)))))))))),?_⟩
  obtain⟨j,rfl⟩:=Int.eq_ofNat_of_zero_le k0;have hj:j<z.length:=by lia
  have h5:=ok.l5;have h1:=ok.l1;have vf:=hz.n;walk_at "rdt";refine⟨_,.inl hz.sq,λl nl=>aX (λe=>?_) λg0=>aX (λe=>?_) λg1=>?_⟩
  ·subst e;exact λp np=>q _ [] [] _ ((aj.put nl).trans (aj.put np)) ((aj.put nl).back np) Zn.start (by simp) (cS.empty z)
  ·subst e;intro p np p1 n1;have s1:=aj.put (o:=.lst (ts.map V.ref)) nl;have s2:=aj.put (o:=.tup [V.int 1,V.int 1]) np;have s3:=aj.put (o:=.lst [V.ref p]) n1;have hl:=hz.copy nl;refine⟨_,.inl (aB.of (s3 _ _ (s2 _ _ aE))),?_,?_,?_,λp2 n2=>⟨_,aj.put n2 _ _ (s3 _ _ (s2 _ _ aE)),?_,λp3 n3=>?_⟩⟩
   ·rw[List.length_map];lia
   ·rw[List.length_map];lia
   ·rw[List.length_map];lia
   ·rw[oJ];simp;lia
   ·have s4:=aj.put (o:=.lst (List.replicate (6 - ((ts.map V.ref).length:Int)).toNat [V.ref p]).flatten) n2;have sa:=s1.trans (s2.trans (s3.trans s4));have e:(6 - ((ts.map V.ref).length:Int)).toNat=6 - z.length:=by rw[List.length_map,vf];lia
    rw[e] at s4 sa n3 ⊢;rw[oJ] at s4 sa n3 ⊢;refine q _ _ _ _ (sa.trans (aj.put n3)) (sa.back n3) (Zn.HC (c:=(1,1)) (hl.same (s2.trans (s3.trans s4))) (s4 _ _ (s3 _ _ aE)) n3 (6 - z.length)) (by simp;lia) (cS.six _ h5)
  refine⟨oK H a l f j ts z (f=2\/f=3),?_,?_⟩
  ·have no:¬ (f=2\/f=3)->oK H a l f j ts z (f=2\/f=3) [some (.ref a),some (.int f),some (.int (j:Int)),some (.ref l)] (upd H l (.lst (ts.map V.ref))):=λe=>⟨ts,z,rfl,aj.put nl,hz.copy nl,h5,λ_=>rfl,λy=>absurd y e⟩;obtain⟨t,c,e1,e2,e3⟩:=hz.pick hj;refine aX (λe=>?x1) λe=>aX (λe'=>?x2) λe'=>no (by lia)
   case' x1=>obtain⟨v,hv,vb⟩:∃v,dO [V.int 0,V.int 41] (f - 2)=some (V.int v)/\¬ (1<=v/\v<=40):=by rw[e];exact⟨0,rfl,by lia⟩
   case' x2=>obtain⟨v,hv,vb⟩:∃v,dO [V.int 0,V.int 41] (f - 2)=some (V.int v)/\¬ (1<=v/\v<=40):=by rw[e'];exact⟨41,rfl,by lia⟩
   all_goals
    intro p np;refine⟨_,aB.of aE,V.int v,hv,_,aB.of (aj.put np _ _ aE),_,jo e1,t,rfl,_,bW.of (aj.put np _ _ (aj.put nl _ _ e3)),_,rfl,λp2 n2=>?_⟩
    ·have s1:=aj.put (o:=.lst (ts.map V.ref)) nl;have s2:=aj.put (o:=.lst [V.int 0,V.int 41]) np;refine⟨_,aj.put n2 _ _ (s2 _ _ aE),_,iM (by rw[List.length_map,vf];exact hj),?_⟩
     rw[← List.map_set];exact⟨_,_,rfl,aj.put2 (s1.trans (s2.trans (aj.put n2))) nl,Zn.setAt (c:=(v,c.2)) ((hz.copy nl).same (s2.trans (aj.put n2))) aE,by rw[List.length_set];exact h5,λy=>absurd (by lia) y,λ_=>cS.zG hj (by dsimp only;lia) (by lia)⟩
  rintro σ H1 ⟨jG,z1,rfl,s1,iU,l1,e1,e2⟩;walk_at "rdt";refine⟨oK H a l f j ts z ((f=2\/f=3)\/f=4\/f=5),?_,?_⟩
  ·have no:¬ (f=4\/f=5)->oK H a l f j ts z ((f=2\/f=3)\/f=4\/f=5) [some (.ref a),some (.int f),some (.int (j:Int)),some (.ref l)] H1:=λe=>⟨jG,z1,rfl,s1,iU,l1,λy=>e1 (by lia),λy=>e2 (by lia)⟩
   refine aX (λe=>?y1) λe=>aX (λe'=>?y2) λe'=>no (by lia)
   case' y1=>obtain⟨v,hv,vb⟩:∃v,dO [V.int 0,V.int 61] (f - 4)=some (V.int v)/\¬ (1<=v/\v<=60):=by rw[e];exact⟨0,rfl,by lia⟩
   case' y2=>obtain⟨v,hv,vb⟩:∃v,dO [V.int 0,V.int 61] (f - 4)=some (V.int v)/\¬ (1<=v/\v<=60):=by rw[e'];exact⟨61,rfl,by lia⟩
   all_goals
    have ez:=e1 (by lia)
    subst ez;obtain⟨t,c,d1,d2,d3⟩:=iU.pick hj;refine⟨_,aB.of iU.l,_,jo d1,t,rfl,_,bW.of d3,_,rfl,λp np=>⟨_,aB.of aE,V.int v,hv,λp2 n2=>?_⟩⟩
    ·have s2:=aj.put (o:=.lst [V.int 0,V.int 61]) np;refine⟨_,aj.put n2 _ _ (s2 _ _ iU.l),_,iM (by rw[List.length_map,iU.n];exact hj),?_⟩
     rw[← List.map_set];exact⟨_,_,rfl,aj.put2 (s1.trans (s2.trans (aj.put n2))) nl,Zn.setAt (c:=(c.1,v)) (iU.same (s2.trans (aj.put n2))) aE,by rw[List.length_set];exact h5,λy=>absurd (by lia) y,λ_=>cS.zG hj (by dsimp only;lia) (by lia)⟩
  rintro σ H1 ⟨jG,z1,rfl,s1,iU,l1,e1,e2⟩;walk_at "rdt";refine aX (λe=>?_) λg6=>aX (λe=>?_) λg7=>q _ jG z1 _ s1 nl iU (by lia) (by
   by_cases h8:8<=f
   ·rw[e1 (by lia)];exact cS.same h8
   ·exact e2 (by lia))
  ·subst e;obtain⟨t,c,d1,d2,d3⟩:=hz.pick (j:=0) (by lia)
   refine⟨_,aB.of (s1 _ _ hz.l),_,jo d1,t,rfl,_,bW.of (s1 _ _ d3),_,rfl,λp np p1 n1=>?_⟩;exact q _ _ _ _ (s1.trans ((aj.put np).trans (aj.put n1))) ((s1.trans (aj.put np)).back n1) (Zn.HD (c:=(1,c.2)) aE n1) (by simp) (cS.one z c.2)
  ·subst e;intro p np p1 n1 p2 n2 p3 n3 p4 n4;have t1:=aj.put (o:=.tup [V.int 40,V.int 1]) np;have t2:=aj.put (o:=.tup [V.int 40,V.int 1]) n1;have t3:=aj.put (o:=.tup [V.int 40,V.int 1]) n2;have t4:=aj.put (o:=.tup [V.int 1,V.int 1]) n3;have sa:=s1.trans (t1.trans (t2.trans (t3.trans t4)));exact q _ _ _ _ (sa.trans (aj.put n4)) (sa.back n4) (Zn.HE (c1:=(40,1)) (c2:=(40,1)) (c3:=(40,1)) (c4:=(1,1)) (t4 _ _ (t3 _ _ (t2 _ _ aE))) (t4 _ _ (t3 _ _ aE)) (t4 _ _ aE) aE n4) (by simp) (cS.many z)
theorem ID(T:Tx K mg A):bC P w K mg base cJ 1 A.pY A.pZ ["_law_swing_here", "_law_fault", "_law_at_here"] (HA K):=by
 refine T.uZ.ok j7 (λvs H Q E h=>?_) (λaW Ar outer s H vs Q E hr h=>?_)
 ·obtain⟨a,sw,n,f,k,rfl,_⟩:=h
  rfl
 ·obtain⟨a,sw,n,f,k,rfl,hS,ok,MT,f0,AI,k0,k1,IE,q⟩:=h;refine⟨_,(aF (bz (i:=3) j7.nd rfl (Or.inr rfl) (rQ r9 rfl T.iw boot_list (aa (pv 0) ao)))
   (aF (bu (aO bN (pv 1) ak (aM _)) (aH (bG (rT rZ (pv 3) rR (rS (mX mZ ak))))) br)
   (aF (bu (aO bN (pv 1) ak (aM _)) (aH (bG (au iG (pv 3) (cB (aa (b_ cN (pv 3) (mX mZ ak) (λ_ _=>rfl)) ao))))) br)
   (aF (ie (bu (aO bN (pv 1) ak (aM _)) (aH (jc ak (i_ (pv 3) ak set_list))) br))
   (aF (ie (bu (aO bN (pv 1) ak (aM _)) (aH (jc ak (i_ (pv 3) (au bB ak (au bL (pv 2) (au dD (bh cO rfl T.cE boot_len (aa (pv 3) ao)) ak))) set_list))) br))
   (aF (ie (bu (PW.pt (mT (aO bN (pv 1) ak (aM _)) (mS (aO gX (bh cO rfl T.cE boot_len (aa (pv 3) ao)) ak (aM _))))) (aF (bz (i:=2) j7.nd rfl (Or.inl rfl) (au bB ak (au bL (pv 2) (au dD (bh cO rfl T.cE boot_len (aa (pv 3) ao)) ak))))
   (aH (jc (au dD (b_ cN (pv 3) (au dD (pv 2) ak) (λ_ _=>rfl)) ak) (i_ (pv 3) (pv 2) set_list)))) br))
   (aF (ie (bu (PW.pt (mT (aO bN (pv 1) ak (aM _)) (mS (aO bN (bh cO rfl T.cE boot_len (aa (pv 3) ao)) ak (aM _))))) (aH (jc (au bB (au jU ak ak) ak) (i_ (pv 3) ak set_list))) br))
   (aF (ie (bu (aO bN (pv 1) ak (aM _)) (aF (bz (i:=4) j7.nd rfl (Or.inr rfl) (au bB ak (au bL (pv 2) (au dD (bh cO rfl T.cE boot_len (aa (pv 3) ao)) ak))))
   (aF (bz (i:=5) j7.nd rfl (Or.inl rfl) (au bB ak (au bL (au jT (pv 2) ak) (au jT (pv 4) ak))))
   (aF (jc (au bB (au bB (b_ cN (pv 3) (pv 5) (λ_ _=>rfl)) (b_ cN (pv 3) (au dD (pv 4) (pv 5)) (λ_ _=>rfl))) ak) (i_ (pv 3) (pv 4) set_list))
   (aH (bz (i:=3) j7.nd rfl (Or.inr rfl) (au iG (rT rZ (pv 3) rR (rS (au bB (pv 4) ak))) (nR (N:=["_law_number", "_law_some", "_law_far"]) (nt:=1) (fv:=[3,4]) (dH.of rfl rfl (by rfl) (by rfl) (by repeat (first | exact trivial | refine⟨rfl,?_⟩)) (by rfl) (by rfl) (by rfl) (by decide) (by decide +kernel)) rfl (jg (rT rZ (pv 3) (rS (au bB (pv 4) ak)) rR)) (λC s H fp=>(cy (i:=0) (show List.Nodup (["_law_number", "_law_some", "_law_far"]:List Str) by decide +kernel) rfl (Or.inl rfl))) (λC s H fp=>nP) (λC s H fp=>(bh (Cp rfl) rfl T.mq boot_max (aa (pv 0) (aa (b_ (EH (K:=K) rfl) (pv 1) (pv 2) (λ_ _=>rfl)) ao))))))))))) br))
   (aH (bG (pv 3))))))))))),?_⟩
  have hl:=ok.len;have h2:=ok.two;have lm:(sw.map V.int).length=sw.length:=List.length_map ..;walk_at "rdt";refine⟨_,.inl hS,λl nl=>aX (λe=>?_) λAJ=>aX (λe=>?_) λIF=>?_⟩
  ·subst e;exact⟨_,aB.of aE,λp np=>q _ (sw.take (sw.length - 1)) _ ((aj.put nl).trans (aj.put np)) ((aj.put nl).back np) (by rw[aE,HL _ (by lia),lm,List.map_take]) (λg=>by lia) (λ_=>zH (by rw[List.length_take];lia))⟩
  ·subst e;exact⟨_,aB.of aE,_,sQ (by lia),λp np=>⟨_,aj.put np _ _ aE,by lia,λp1 n1=>q _ (sw++[sw.getD (sw.length - 1) 0]) _ ((aj.put nl).trans ((aj.put np).trans (aj.put n1))) (((aj.put nl).trans (aj.put np)).back n1) (by rw[aE,List.map_append];rfl) (λg=>by lia) (λ_=>zH (by rw[List.length_append];simp;lia))⟩⟩
  refine⟨lQ H a l f k n sw (f=14),?_,?_⟩
  ·refine aX (λe=>?_) λe=>⟨sw,k,rfl,rfl,λ_=>rfl,λ_=>rfl,λz=>absurd z e⟩;exact⟨0,iM (j:=0) (by lia),sw.set 0 1,k,rfl,by rw[List.map_set],λ_=>rfl,λz=>absurd e z,λ_=>HF (by lia)⟩
  rintro σ H1 ⟨bx,k',rfl,rfl,ek,e1,e2⟩;walk_at "rdt";refine⟨lQ H a l f k n sw (f=14\/f=15),?_,?_⟩
  ·refine aX (λe=>?_) λe=>⟨bx,k',rfl,rfl,ek,λz=>e1 (λy=>z (.inl y)),λz=>e2 (z.resolve_right e)⟩;have vg:=ek (by lia)
   have es:=e1 (by lia)
   subst vg;subst es;refine⟨_,.inl (aB.of aE),by lia,?_⟩
   rw[lm];have m0:=Int.emod_nonneg k' (show (bx.length:Int) - 1≠0 by lia)
   have m1:=Int.emod_lt_of_pos k' (show 0<(bx.length:Int) - 1 by lia)
   obtain⟨j,hj⟩:=Int.eq_ofNat_of_zero_le (show 0<=1+k' % ((bx.length:Int) - 1) by lia)
   rw[hj];exact⟨j,iM (by lia),bx.set j 0,k',rfl,by rw[List.map_set],λ_=>rfl,λz=>absurd (.inr e) z,λ_=>HG (by lia) (by lia)⟩
  rintro σ H1 ⟨bx,k',rfl,rfl,ek,e1,e2⟩;walk_at "rdt";refine⟨lQ H a l f k n sw ((f=14\/f=15)\/f=16/\2<n),?_,?_⟩
  ·have no:¬ (f=16/\2<n)->lQ H a l f k n sw ((f=14\/f=15)\/f=16/\2<n) [some (.ref a),some (.int f),some (.int k'),some (.ref l),none,none] (upd H l (.lst (bx.map V.int))):=λe=>⟨bx,k',rfl,rfl,ek,λz=>e1 (λy=>z (.inl y)),λz=>e2 (z.resolve_right e)⟩;refine aX (λe=>⟨_,.inl (aB.of aE),?_⟩) λe=>no (λz=>e z.1);have es:=e1 (by lia)
   subst es;rw[lm];refine aX (λg=>⟨_,.inl (aB.of aE),by lia,_,aB.of aE,?_⟩) λg=>no (λz=>g (by lia))
   rw[lm];have m0:=Int.emod_nonneg k' (show (bx.length:Int) - 2≠0 by lia)
   have m1:=Int.emod_lt_of_pos k' (show 0<(bx.length:Int) - 2 by lia)
   obtain⟨j,hj⟩:=Int.eq_ofNat_of_zero_le (show 0<=2+k' % ((bx.length:Int) - 2) by lia)
   rw[hj];refine⟨_,eZ (by lia) (by lia),_,rfl,j,iM (by lia),bx.set j (bx.getD (j - 1) 0 - 1),(j:Int),rfl,?_,λz=>absurd e z,λz=>absurd (.inr ⟨e,by lia⟩) z,λ_=>HJ (by lia) (by lia)⟩
   rw[List.map_set,show ((j:Int) - 1).toNat=j - 1 by lia]
  rintro σ H1 ⟨bx,k',rfl,rfl,ek,e1,e2⟩;walk_at "rdt";refine⟨lQ H a l f k n sw (f=14\/f=15\/f=16),?_,?_⟩
  ·have dn:f=16->n≠2->(f=14\/f=15)\/f=16/\2<n:=λz y=>.inr ⟨z,by lia⟩
   refine aX (λe=>⟨_,.inl (aB.of aE),?_⟩) λe=>⟨bx,k',rfl,rfl,ek,λz=>e1 (λy=>z (by lia)),λz=>e2 (by lia)⟩
   by_cases n2:n=2
   ·have es:=e1 (by lia)
    subst es;rw[lm,if_pos (by lia)]
    exact⟨by decide,1,iM (j:=1) (by lia),bx.set 1 1000000001,k',rfl,by rw[List.map_set],ek,λz=>absurd (.inr (.inr e)) z,λ_=>zI (by lia)⟩
   ·have bad:=e2 (dn e n2);refine aX (λg=>?_) λg=>⟨bx,k',rfl,rfl,ek,λz=>absurd (.inr (.inr e)) z,λ_=>bad⟩
    rw[List.length_map] at g;have l2:1<bx.length:=by lia
    exact⟨by decide,1,iM (j:=1) (by simpa using l2),bx.set 1 1000000001,k',rfl,by rw[List.map_set],ek,λz=>absurd (.inr (.inr e)) z,λ_=>zI l2⟩
  rintro σ H1 ⟨bx,k',rfl,rfl,ek,e1,e2⟩;walk_at "rdt";refine⟨HP H a f n sw,?_,?_⟩
  ·refine aX (λe=>?_) λe=>⟨l,bx,_,_,_,rfl,aj.put nl,nl,aE,λz=>e1 (by lia),λz=>e2 (by lia)⟩
   have vg:=ek (by lia)
   have es:=e1 (by lia)
   subst vg;subst es;clear e1 e2 ek AJ IF;have n3:=IE e;refine⟨_,.inl (aB.of aE),by lia,?_⟩
   rw[lm];have m0:=Int.emod_nonneg k' (show (bx.length:Int) - 2≠0 by lia)
   have m1:=Int.emod_lt_of_pos k' (show 0<(bx.length:Int) - 2 by lia)
   obtain⟨bw,hj⟩:=Int.eq_ofNat_of_zero_le (show 0<=2+k' % ((bx.length:Int) - 2) by lia)
   rw[hj];have m2:=Int.emod_nonneg (k' / 31) (show (bw:Int) / 2≠0 by lia)
   have m3:=Int.emod_lt_of_pos (k' / 31) (show 0<(bw:Int) / 2 by lia)
   obtain⟨one,hi⟩:=Int.eq_ofNat_of_zero_le (show 0<=1+k' / 31 % ((bw:Int) / 2) by lia)
   rw[hi];refine⟨by lia,_,aB.of aE,_,eZ (by lia) (by lia),_,aB.of aE,_,eZ (by lia) (by lia),_,rfl,_,rfl,bw,iM (by lia),_,aB.of aE,λp np=>?_⟩
   rw[show ((one:Int)).toNat=one by lia,show ((bw:Int) - (one:Int)).toNat=bw - one by lia,← List.map_set] at np ⊢
   rw[show (bw:Int)+1=((bw+1:Nat):Int) by lia,HM,← List.map_take]
   have fb:bw<bx.length:=by lia
   have ob:1<=one/\one<bw:=by lia
   clear hj hi m0 m1 m2 m3;have bad:∀ys,¬ SwOk ((bx.set bw (bx.getD one 0+bx.getD (bw - one) 0+1)).take (bw+1)++ys) n:=λys=>HK ob.1 ob.2 fb;have fl:bw<(bx.set bw (bx.getD one 0+bx.getD (bw - one) 0+1)).length:=by rw[List.length_set];exact fb
   have MU:(bx.set bw (bx.getD one 0+bx.getD (bw - one) 0+1)).length=bx.length:=by rw[List.length_set]
   generalize bx.set bw (bx.getD one 0+bx.getD (bw - one) 0+1)=ns at *
   have s1:aj H (upd H l (.lst (ns.map V.int))):=aj.put nl;have s2:=aj.put (o:=.lst ((ns.take (bw+1)).map V.int)) np;obtain⟨ms,em,MV⟩:=ES ns (some ((bw:Int)+1)) none;refine HN (.lst (ms.map V.int)) (λQ' q'=>?_) λp1 n1=>?_
   ·walk_at "rdm";refine⟨_,aB.of (s2 _ _ aE),?_⟩;rw[em];exact q'
   ·have s3:=aj.put (o:=.lst (ms.map V.int)) n1;have IG:=s3 _ _ (aE (H:=upd H l (HO.lst (List.map V.int ns))) (a:=p) (o:=HO.lst (List.map V.int (List.take (bw+1) ns))));have II:=s3 _ _ (s2 _ _ (aE (H:=H) (a:=l) (o:=HO.lst (List.map V.int ns))));have AK:=aE (H:=upd (upd H l (HO.lst (List.map V.int ns))) p (HO.lst (List.map V.int (List.take (bw+1) ns)))) (a:=p1) (o:=HO.lst (List.map V.int ms));have sa:=s1.trans (s2.trans s3);clear s1 s2 s3;generalize upd (upd (upd H l (HO.lst (List.map V.int ns))) p (HO.lst (List.map V.int (List.take (bw+1) ns)))) p1 (HO.lst (List.map V.int ms))=H1 at *
    refine yD p1 (ms.map V.int) (λD i ys aC H2=>∃zs:List Int,ys=zs.map V.int/\zs.length=i/\i<=ms.length/\H2 D=some (.lst ys)/\aj H1 H2/\H1 D=none/\∃u,aC = [u,some (.ref l),some (.int (bw:Int))]) (λQ q=>q) (aB.of AK) ?_ ?_ ?_ ?_
    ·intro D hD;exact⟨[],rfl,rfl,Nat.zero_le _,aE,aj.put hD,hD,none,rfl⟩
    ·rintro D i ys aC H2 ⟨zs,rfl,e0,e1,e2,e3,e4,_⟩;refine⟨e2,?_,aB.of (e3 _ _ AK)⟩;refine nH ?_;rw[List.length_map];lia
    ·rintro D i x ys aC H2 N hN hx ⟨zs,rfl,e0,e1,e2,e3,e4,u,rfl⟩;have hi:=(List.getElem?_eq_some_iff.mp hx).1;rw[List.length_map] at hi;rw[List.getElem?_map,List.getElem?_eq_getElem hi] at hx;cases hx;walk_at "rdm";refine⟨_,aB.of (e3 _ _ II),_,eZ (by lia) (by lia),_,rfl,e2,hN _ _ _ ⟨zs++[if ms[i] < ns.getD (bw:Int).toNat 0 then ns.getD (bw:Int).toNat 0 else ms[i]],?_,?_,by lia,aE,aj.put2 e3 e4,e4,_,rfl⟩⟩
     ·rw[List.map_append];rfl
     ·rw[List.length_append,e0];rfl
    ·rintro D ys aC H2 ⟨zs,rfl,e0,e1,e2,e3,e4,u,rfl⟩;refine⟨D,rfl,_,e3 _ _ IG,_,e2,?_,λp9 n9=>?_⟩
     ·rw[List.length_map,List.length_map,List.length_take,e0,List.length_map];lia
     ·exact⟨p9,ns.take (bw+1)++zs,_,_,_,rfl,sa.trans (e3.trans (aj.put n9)),(sa.trans e3).back n9,by rw[aE,List.map_append],λg=>by lia,λ_=>bad zs⟩
  rintro σ H1 ⟨l1,bx,x,y,z,rfl,s1,n1,IJ,e1,e2⟩;walk_at "rdm";exact q _ bx _ s1 n1 IJ e1 e2
theorem IK(T:Tx K mg A):bC P w K mg base (c9 P w base) 2 A.oY A.oZ ["swing", "rings"] (Hu K A.aI):=by
 have IL:=Iq (P:=P) (w:=w) (base:=base) T;refine T.uJ.lz zJ (λvs H Q E h=>?_) (λaW Ar outer s H vs Q E hr h=>?_)
 ·obtain⟨a,sw,n,rfl,_⟩:=h
  rfl
 ·obtain⟨a,sw,n,rfl,hS,h2,hn,q,qe⟩:=h;refine⟨_,(aF (bu (aO iF (bh cO rfl T.cE boot_len (aa (pv 0) ao)) (pv 1) (aM _)) (aH (fK fL rfl T.eL T.dJ PySem.F.excBase_ValueError rfl (aa fF ao))) br)
   (aF (bu (aO iF (b_ cN (pv 0) ak (λ_ _=>rfl)) ak (aM _)) (aH (fK fL rfl T.eL T.dJ PySem.F.excBase_ValueError rfl (aa fF ao))) br)
   (aF (d_ PassesOwn.leaving rfl (jS rfl T.fR (aa ak (aa (pv 1) ao))) (cy (i:=2) zJ.nd rfl (Or.inl rfl))
   (aF (bu (PW.pt (eW (aO gW (b_ cN (pv 0) (pv 2) (λ_ _=>rfl)) ak (aM _)) (eV (aO gX (b_ cN (pv 0) (pv 2) (λ_ _=>rfl)) (dB (v:=.int 1000000000) rfl T.u6 ⟨_,rfl⟩) (aM _))))) (aH (fK fL rfl T.eL T.dJ PySem.F.excBase_ValueError rfl (aa fF ao))) br)
   (aH (bu (aO gW (b_ cN (pv 0) (pv 2) (λ_ _=>rfl)) (b_ cN (pv 0) (au dD (pv 2) ak) (λ_ _=>rfl)) (aM _)) (aH (fK fL rfl T.eL T.dJ PySem.F.excBase_ValueError rfl (aa fF ao))) br))))
   (aH (gU (aU IL (hr.mono (by first | decide | lia)) rfl T.zU T.uK.kp T.zT .nil n_ (aa (pv 0) ao))))))),?_⟩
  walk_at "rdm";refine⟨_,.inl hS,?_⟩;simp only[List.length_map];refine aX (λh=>qe λt=>h (by have:=t.len;first | exact this | rw[this])) λh1=>?_
  have hl:(sw.length:Int)=n:=by
   have:=Classical.not_not.mp h1
   first | exact this | exact V.int.inj this
  refine⟨_,hS,_,eZ (by lia) (by lia),?_⟩
  refine⟨rfl,aX (λh=>qe λt=>h (by rw[show (0:Int).toNat=0 from rfl,t.z])) λh0=>?_⟩
  have hz:sw.getD 0 0=0:=V.int.inj (Classical.not_not.mp h0);refine jr 1 n (λi σ H'=>∃r,σ = [some (.ref a),some (.int n),r]/\H' = H/\∀f:Nat,1<=f->f<1+i->(1<=sw.getD f 0/\sw.getD f 0<=1000000000)/\sw.getD (f - 1) 0<=sw.getD f 0) (λQ q=>?_) (by lia) (by lia) (by lia) (by lia) ⟨none,rfl,rfl,λf g1 g2=>by lia⟩ ?_ ?_
  ·walk_at "rdm";exact q
  ·rintro i σ H' N hN hi ⟨r,rfl,rfl,ok⟩;walk_at "rdm";have e1:((1:Int)+(i:Int)).toNat=1+i:=by lia
   have e2:((1:Int)+(i:Int) - 1).toNat=1+i - 1:=by lia
   refine⟨_,hS,_,eZ (by lia) (by lia),?_⟩
   walk_at "rdm";rw[e1];refine aX (λh=>qe λt=>by have:=t.pos (1+i) (by lia) (by lia);lia) λg1=>⟨_,hS,_,eZ (by lia) (by lia),?_⟩
   walk_at "rdm";rw[e1];refine aX (λh=>qe λt=>by have:=t.pos (1+i) (by lia) (by lia);lia) λg2=>⟨_,hS,_,eZ (by lia) (by lia),_,hS,_,eZ (by lia) (by lia),?_⟩
   walk_at "rdm";rw[e1,e2];refine aX (λh=>qe λt=>by have:=t.up (1+i) (by lia) (by lia);lia) λg3=>hN _ _ ⟨_,rfl,rfl,λf k1 k2=>?_⟩
   by_cases hf:f<1+i
   ·exact ok f k1 hf
   ·have:f=1+i:=by lia
    subst this;exact⟨⟨by lia,by lia⟩,by lia⟩
  ·rintro σ H' ⟨r,rfl,rfl,ok⟩;walk_at "rdm";refine⟨a,sw,rfl,hS,by lia,by lia,λnd=>q ⟨hl,h2,hz,λf k1 k2=>(ok f k1 (by lia)).1,λf k1 k2=>(ok f k1 (by lia)).2,nd⟩,λnd=>qe λt=>nd t.no⟩
theorem IM(T:Tx K mg A):bC P w K mg base cJ 2 A.pN A.pO ["_law_a", "_law_b"] (Ho K):=by
 have bZ:=qM (P:=P) (w:=w) (base:=base) T;refine T.uS.ok lT (λvs H Q E h=>?_) (λaW Ar outer s H vs Q E hr h=>?_)
 ·obtain⟨a,b,rfl,_⟩:=h
  rfl
 ·obtain⟨a,b,rfl,q⟩:=h;refine⟨_,(aF (bu (aO bN (au bL (aU bZ (hr.mono (by first | decide | lia)) rfl T.cA T.cu.kp T.cz .nil aZ (aa (pv 1) (aa ak ao))) ak) ak (aM _)) (aH (bG (nR (N:=["_law_k", "_law_b", "_law_a"]) (nt:=1) (fv:=[1,0]) (dH.of rfl rfl (by rfl) (by rfl) (by repeat (first | exact trivial | refine⟨rfl,?_⟩)) (by rfl) (by rfl) (by rfl) (by decide) (by decide +kernel)) rfl (rE rfl T.fR (aa ak ao)) (λC s H fp=>(cy (i:=0) (show List.Nodup (["_law_k", "_law_b", "_law_a"]:List Str) by decide +kernel) rfl (Or.inl rfl))) (λC s H fp=>nP) (λC s H fp=>(eo (aa (au dD ak (au gv (au bL (aU bZ (hr.mono (by first | decide | lia)) rfl T.cA T.cu.kp T.cz .nil aZ (aa (pv 2) (aa (au bB ak (pv 0)) ao))) ak) (pv 0))) (aa (au bB ak (au bL (aU bZ (hr.mono (by first | decide | lia)) rfl T.cA T.cu.kp T.cz .nil aZ (aa (pv 1) (aa (au bB ak (pv 0)) ao))) ak)) ao))))))) br)
   (aF (bu (aO bN (au bL (aU bZ (hr.mono (by first | decide | lia)) rfl T.cA T.cu.kp T.cz .nil aZ (aa (pv 1) (aa ak ao))) ak) ak (aM _)) (aH (bG (cB (aa (eo (aa (au bB ak (au bL (aU bZ (hr.mono (by first | decide | lia)) rfl T.cA T.cu.kp T.cz .nil aZ (aa (pv 0) (aa ak ao))) ak)) (aa (au bB ak (au bL (aU bZ (hr.mono (by first | decide | lia)) rfl T.cA T.cu.kp T.cz .nil aZ (aa (pv 1) (aa ak ao))) ak)) ao))) ao)))) br)
   (aF (bz (i:=2) lT.nd rfl (Or.inl rfl) (au bB ak (au bL (aU bZ (hr.mono (by first | decide | lia)) rfl T.cA T.cu.kp T.cz .nil aZ (aa (pv 0) (aa ak ao))) ak)))
   (aF (bu (aO bN (au bL (aU bZ (hr.mono (by first | decide | lia)) rfl T.cA T.cu.kp T.cz .nil aZ (aa (pv 0) (aa ak ao))) ak) ak (aM _)) (aH (bz (i:=2) lT.nd rfl (Or.inl rfl) ak)) br)
   (aF (bz (i:=3) lT.nd rfl (Or.inl rfl) (cB (aa (eo (aa (au bB ak (au bL (aU bZ (hr.mono (by first | decide | lia)) rfl T.cA T.cu.kp T.cz .nil aZ (aa (pv 0) (aa ak ao))) ak)) (aa (au bB ak (au bL (aU bZ (hr.mono (by first | decide | lia)) rfl T.cA T.cu.kp T.cz .nil aZ (aa (pv 1) (aa ak ao))) ak)) ao))) ao)))
   (aF (d_ PassesOwn.never rfl (jS rfl T.fR (aa ak (aa (pv 2) ao))) (cy (i:=4) lT.nd rfl (Or.inl rfl))
   (aH (gU (kQ PySem.F.plainAttrs_list PySem.F.slot_list_append PySem.F.type_list_append nv (pv 3) (aa (eo (aa (au bB ak (au bL (aU bZ (hr.mono (by first | decide | lia)) rfl T.cA T.cu.kp T.cz .nil aZ (aa (pv 0) (aa (au bB ak (pv 4)) ao))) ak)) (aa (au bB ak (au bL (aU bZ (hr.mono (by first | decide | lia)) rfl T.cA T.cu.kp T.cz .nil aZ (aa (pv 1) (aa (pv 4) ao))) ak)) ao))) ao)))))
   (aH (bG (pv 3))))))))),?_⟩
  wp_walk using dI;have m3:0<=mix a 0 % 3/\mix a 0 % 3<3:=⟨Int.emod_nonneg _ (by decide),Int.emod_lt_of_pos _ (by decide)⟩
  refine aX (λIP=>?_) λIP=>aX (λh8=>?_) (λh8=>aX (λh9=>?_) (λh9=>?_))
  ·refine Gu 3 (λD i ys aC H2=>∃(u:Option V) (ts:List Addr),ys=ts.map V.ref/\aC = [u,some (.int b),some (.int a)]/\(∀t∈ts,H t=none)/\Zn H2 D ts (j6 a b i)/\aj H H2/\H D=none/\i<=3) (λQ q=>?_) (by lia) (by lia) ?_ ?_ ?_ ?_
   ·walk_at "rdm";exact q
   ·intro D hD;exact⟨none,[],rfl,rfl,(λ_ z=>nomatch z),⟨aE,rfl,λi t q e=>by simp at e⟩,aj.put hD,hD,by lia⟩
   ·rintro D i ys aC H2 ⟨u,ts,rfl,rfl,e1,e2,e3,e4,e5⟩;have:=e2.n;exact⟨e2.l,nH (by rw[List.length_map,this];simp[j6];lia)⟩
   ·rintro D i ys aC H2 N hN hi ⟨u,ts,rfl,rfl,e1,e2,e3,e4,e5⟩;have MW:i<3:=by simpa using hi
    have m9:∀k:Int,0<=mix a k % 9/\mix a k % 9<9:=λk=>⟨Int.emod_nonneg _ (by decide),Int.emod_lt_of_pos _ (by decide)⟩
    wp_walk using dI;have:=m9 (11+(i:Int));refine⟨by lia,by lia,.inl ⟨by lia,by lia⟩,by lia,by lia,λp1 dc=>⟨aj.put dc _ _ e2.l,hN _ _ _ ⟨_,ts++[p1],by simp,rfl,λt ht=>?_,?_,aj.put2 (e3.trans (aj.put dc)) e4,e4,by lia⟩⟩⟩
    ·rcases List.mem_append.mp ht with ht | ht
     ·exact e1 t ht
     ·rw[List.mem_singleton.mp ht];exact e3.free dc
    ·have:=e2.snoc dc (40 - mix a (11+(i:Int)) % 9*(i:Int)) (1+mix b (11+(i:Int)) % 8);unfold j6;rw[List.range_succ,List.map_append];exact this
   ·rintro D ys aC H2 ⟨u,ts,rfl,rfl,e1,e2,e3,e4,e5⟩;exact q D ts _ _ e3 e4 e1 e2 (zF a b).1 (zF a b).2
  ·intro p hp l hl;have gG:l≠p:=(cI aE hl).symm;have eE:H l=none:=by rw[aL gG] at hl;exact hl
   have zl:=sX a b;refine q l [p] (iL a b) _ (aj.put2 (aj.put hp) eE) eE (by simpa using hp) ?_ zl.ok zl.pr
   unfold iL;rw[if_pos h8];refine⟨aE,rfl,λi t x e1 e2=>?_⟩;cases i with
   | zero =>
    simp at e1 e2;subst e1 e2;rw[aL gG.symm,aE]
   | succ i=>simp at e1
  ·skip
   intro p hp l hl;have gG:l≠p:=(cI aE hl).symm;have eE:H l=none:=by rw[aL gG] at hl;exact hl
   have vh:Zn (upd (upd H p (HO.tup [V.int (2+mix a 2 % 2),V.int (1+mix b 0 % 8)])) l (HO.lst [V.ref p])) l [p] [(2+mix a 2 % 2,1+mix b 0 % 8)]:=by
    refine⟨aE,rfl,λi t x e1 e2=>?_⟩;cases i with
    | zero =>
     simp at e1 e2;subst e1 e2;rw[aL gG.symm,aE]
    | succ i=>simp at e1
   refine jr 1 (5) (λj σ H'=>∃kk ts,σ = [some (.int a),some (.int b),some (.int (5)),some (.ref l),kk]/\aj H H'/\(∀t∈ts,H t=none)/\Zn H' l ts ((2+mix a 2 % 2,1+mix b 0 % 8)::(List.range j).map λ(k:Nat)=>(1+mix a (2+(1+(k:Int))) % 3,1+mix b (1+(k:Int)) % 8)))
    (λQ q=>?_) (by lia) (by lia) (by lia) (by lia) ⟨none,[p],rfl,aj.put2 (aj.put hp) eE,by simpa using hp,by simpa using vh⟩ ?_ ?_
   ·walk_at "rdm";exact q
   ·rintro j σ H' N hN hj ⟨kk,ts,rfl,hs,gj,hz⟩;wp_walk using dI;refine⟨⟨_,hz.sq⟩,by lia,by lia,by lia,by lia,λp1 dc=>⟨_,aj.put dc _ _ hz.l,?_,hN _ _ ⟨_,ts++[p1],rfl,aj.put2 (hs.trans (aj.put dc)) eE,?_,?_⟩⟩⟩
    ·have:=hz.n;simp only[List.length_map,List.length_cons,List.length_range] at this ⊢;lia
    ·intro t ht;rcases List.mem_append.mp ht with ht | ht
     ·exact gj t ht
     ·rw[List.mem_singleton.mp ht];exact hs.free dc
    ·have:=hz.snoc dc (1+mix a (2+(1+(j:Int))) % 3) (1+mix b (1+(j:Int)) % 8);rw[List.range_succ,List.map_append,← List.cons_append];exact this
   ·rintro σ H' ⟨kk,ts,rfl,hs,gj,hz⟩;walk_at "rdm";have zl:=sX a b;refine q _ ts (iL a b) _ hs eE gj ?_ zl.ok zl.pr;unfold iL;rw[if_neg h8,if_pos h9];exact hz
  ·skip
   intro p hp l hl;have gG:l≠p:=(cI aE hl).symm;have eE:H l=none:=by rw[aL gG] at hl;exact hl
   have vh:Zn (upd (upd H p (HO.tup [V.int (2+mix a 2 % 2),V.int (1+mix b 0 % 8)])) l (HO.lst [V.ref p])) l [p] [(2+mix a 2 % 2,1+mix b 0 % 8)]:=by
    refine⟨aE,rfl,λi t x e1 e2=>?_⟩;cases i with
    | zero =>
     simp at e1 e2;subst e1 e2;rw[aL gG.symm,aE]
    | succ i=>simp at e1
   refine jr 1 (1+mix a 0 % 3) (λj σ H'=>∃kk ts,σ = [some (.int a),some (.int b),some (.int (1+mix a 0 % 3)),some (.ref l),kk]/\aj H H'/\(∀t∈ts,H t=none)/\Zn H' l ts ((2+mix a 2 % 2,1+mix b 0 % 8)::(List.range j).map λ(k:Nat)=>(1+mix a (2+(1+(k:Int))) % 3,1+mix b (1+(k:Int)) % 8)))
    (λQ q=>?_) (by lia) (by lia) (by lia) (by lia) ⟨none,[p],rfl,aj.put2 (aj.put hp) eE,by simpa using hp,by simpa using vh⟩ ?_ ?_
   ·walk_at "rdm";exact q
   ·rintro j σ H' N hN hj ⟨kk,ts,rfl,hs,gj,hz⟩;wp_walk using dI;refine⟨⟨_,hz.sq⟩,by lia,by lia,by lia,by lia,λp1 dc=>⟨_,aj.put dc _ _ hz.l,?_,hN _ _ ⟨_,ts++[p1],rfl,aj.put2 (hs.trans (aj.put dc)) eE,?_,?_⟩⟩⟩
    ·have:=hz.n;simp only[List.length_map,List.length_cons,List.length_range] at this ⊢;lia
    ·intro t ht;rcases List.mem_append.mp ht with ht | ht
     ·exact gj t ht
     ·rw[List.mem_singleton.mp ht];exact hs.free dc
    ·have:=hz.snoc dc (1+mix a (2+(1+(j:Int))) % 3) (1+mix b (1+(j:Int)) % 8);rw[List.range_succ,List.map_append,← List.cons_append];exact this
   ·rintro σ H' ⟨kk,ts,rfl,hs,gj,hz⟩;walk_at "rdm";have zl:=sX a b;refine q _ ts (iL a b) _ hs eE gj ?_ zl.ok zl.pr;unfold iL;rw[if_neg h8,if_neg h9];exact hz
theorem IQ(T:Tx K mg A):bC P w K mg base cJ 2 A.pR A.pS ["_law_zones_here", "_law_cell"] (E4 K):=by
 have bZ:=qM (P:=P) (w:=w) (base:=base) T;refine T.uW.ok jC (λvs H Q E h=>?_) (λaW Ar outer s H vs Q E hr h=>?_)
 ·obtain⟨a,ts,z,c,rfl,_⟩:=h
  rfl
 ·obtain⟨a,ts,z,c,rfl,hz,ok,q⟩:=h;refine⟨_,(aF (bz (i:=2) jC.nd rfl (Or.inl rfl) ak)
   (aF (d_ PassesOwn.never rfl (jg (pv 0)) (i9 rfl (d9 (cy (i:=3) jC.nd rfl (Or.inl rfl)) (d9 (cy (i:=4) jC.nd rfl (Or.inl rfl)) i8)))
   (aH (bz (i:=2) jC.nd rfl (Or.inl rfl) (au gv (pv 2) (pv 4)))))
   (aF (bz (i:=5) jC.nd rfl (Or.inl rfl) ak)
   (aF (bu (aO bN (au bL (aU bZ (hr.mono (by first | decide | lia)) rfl T.cA T.cu.kp T.cz .nil aZ (aa (pv 1) (aa ak ao))) ak) ak (aM _)) (aH (bz (i:=5) jC.nd rfl (Or.inl rfl) (au jT (au jU ak ak) (pv 2)))) br)
   (aH (bG (au gv (pv 2) (au bB ak (au bL (aU bZ (hr.mono (by first | decide | lia)) rfl T.cA T.cu.kp T.cz .nil aZ (aa (pv 1) (aa ak ao))) (pv 5)))))))))),?_⟩
  wp_walk using dI;have MX:=ok.l5;have bd:∀i,1<=bX (z.take i)/\bX (z.take i)<=777600000:=λi=>by
   have h1:=k_ (m:=60) (by decide) (z.take i) λp hp=>(ok.r p (List.mem_of_mem_take hp)).2.2
   have h2:=yJ (m:=60) (by decide) (show (z.take i).length<=5 by rw[List.length_take];lia)
   have e:(60:Int) ^ 5=777600000:=by decide
   lia
  refine rl a (ts.map V.ref) (λi σ H'=>∃r d,σ = [some (.ref a),some (.int c),some (.int (bX (z.take i))),r,d,none]/\H' = H) (λQ q=>⟨_,rfl,q⟩) hz.sq ⟨none,none,rfl,rfl⟩ (by rintro i σ H' _ ⟨r,d,rfl,rfl⟩;exact hz.sq) ?_ ?_
  ·rintro i x σ H' N hN hx ⟨r,d,rfl,rfl⟩;obtain⟨t,p,rfl,hp,ht⟩:=hz.at hx;refine jt (bW.of ht) rfl ?_;walk_at "rdm";have:=bd i;refine⟨.inl ⟨by lia,by lia⟩,hN _ _ ⟨some (.int p.1),some (.int p.2),?_,rfl⟩⟩
   rw[take_succ_get hp,EZ]
  ·rintro σ H' ⟨r,d,rfl,rfl⟩;rw[lenZ hz.n,List.take_length];have hb:=bd z.length;rw[List.take_length] at hb;wp_walk using dI;unfold ju at q;have hq:1<=1000000000 / bX z:=(Int.le_ediv_iff_mul_le (by lia)).mpr (by lia)
   refine aX (λh=>?_) (λh=>?_)
   ·rw[if_pos h] at q;exact⟨by decide,by lia,by lia,by lia,.inl ⟨by lia,by lia⟩,q⟩
   ·rw[if_neg h] at q;exact⟨.inl ⟨by lia,by lia⟩,q⟩
theorem IS(T:Tx K mg A):bC P w K mg base cJ 2 A.pT A.pU ["_law_many", "_law_cell"] (Hq K):=by
 have bZ:=qM (P:=P) (w:=w) (base:=base) T;refine T.uX.ok jD (λvs H Q E h=>?_) (λaW Ar outer s H vs Q E hr h=>?_)
 ·obtain⟨m,c,rfl,_⟩:=h
  rfl
 ·obtain⟨m,c,rfl,h2,MY,q⟩:=h;refine⟨_,(aF (bu (aO bN (au bL (aU bZ (hr.mono (by first | decide | lia)) rfl T.cA T.cu.kp T.cz .nil aZ (aa (pv 1) (aa ak ao))) ak) ak (aM _)) (aF (bz (i:=2) jD.nd rfl (Or.inl rfl) (au bB ak (au bL (aU bZ (hr.mono (by first | decide | lia)) rfl T.cA T.cu.kp T.cz .nil aZ (aa (pv 1) (aa ak ao))) ak)))
   (aF (bu (aO bN (au bL (aU bZ (hr.mono (by first | decide | lia)) rfl T.cA T.cu.kp T.cz .nil aZ (aa (pv 1) (aa ak ao))) ak) ak (aM _)) (aH (bz (i:=2) jD.nd rfl (Or.inl rfl) (au bB ak (au bL (aU bZ (hr.mono (by first | decide | lia)) rfl T.cA T.cu.kp T.cz .nil aZ (aa (pv 1) (aa ak ao))) (au gv ak (au jU ak ak)))))) br)
   (aF (bz (i:=3) jD.nd rfl (Or.inl rfl) (cB (aa ak (aa (pv 2) ao))))
   (aF (d_ PassesOwn.never rfl (jS rfl T.fR (aa ak (aa (pv 0) ao))) (cy (i:=4) jD.nd rfl (Or.inl rfl))
   (aF (bz (i:=2) jD.nd rfl (Or.inl rfl) (au dD (pv 2) (au jT (au bL (aU bZ (hr.mono (by first | decide | lia)) rfl T.cA T.cu.kp T.cz .nil aZ (aa (pv 1) (aa (au bB (pv 4) ak) ao))) (au bB (pv 2) ak)) ak)))
   (aH (gU (kQ PySem.F.plainAttrs_list PySem.F.slot_list_append PySem.F.type_list_append nv (pv 3) (aa (au bB (b_ cN (pv 3) (mX mZ ak) (λ_ _=>rfl)) (pv 2)) ao))))))
   (aH (bG (pv 3))))))) br)
   (aF (bz (i:=5) jD.nd rfl (Or.inr rfl) (au bB ak (au bL (aU bZ (hr.mono (by first | decide | lia)) rfl T.cA T.cu.kp T.cz .nil aZ (aa (pv 1) (aa ak ao))) (au jU ak ak))))
   (aH (bG (au iG (cB (aa ak ao)) (bh Hl rfl T.qp boot_sorted (aa (nR (N:=["_law_k", "_law_least", "_law_cell"]) (nt:=1) (fv:=[5,1]) (dH.of rfl rfl (by rfl) (by rfl) (by repeat (first | exact trivial | refine⟨rfl,?_⟩)) (by rfl) (by rfl) (by rfl) (by decide) (by decide +kernel)) rfl (jS rfl T.fR (aa ak (aa (pv 0) ao))) (λC s H fp=>(cy (i:=0) (show List.Nodup (["_law_k", "_law_least", "_law_cell"]:List Str) by decide +kernel) rfl (Or.inl rfl))) (λC s H fp=>nP) (λC s H fp=>(au bB (pv 1) (au bL (aU bZ (hr.mono (by first | decide | lia)) rfl T.cA T.cu.kp T.cz .nil aZ (aa (pv 2) (aa (au bB (pv 0) ak) ao))) (au bB (pv 1) ak))))) ao))))))),?_⟩
  wp_walk using dI;refine aX (λh8=>aX (λh9=>⟨by decide,?_⟩) (λh9=>?_)) (λh8=>⟨by decide,?_⟩)
  ·skip
   intro l hl;have iz:1<=1+mix c 1 % 8000000/\1+mix c 1 % 8000000<=8000000:=⟨by have:=Int.emod_nonneg (mix c 1) (show (8000000:Int)≠0 by decide);lia,by have:=Int.emod_lt_of_pos (mix c 1) (show (0:Int)<8000000 by decide);lia⟩
   generalize 1+mix c 1 % 8000000=s0 at iz ⊢;refine jr 2 m (λj σ H'=>∃kk,σ = [some (.int m),some (.int c),some (.int (cg c s0 j)),some (.ref l),kk,none]/\aj H H'/\H' l=some (.lst (((List.range (2+j)).map (cU c s0)).map V.int)))
    (λQ q=>?_) (by lia) (by lia) (by lia) (by lia) ⟨none,rfl,aj.put hl,?_⟩ ?_ ?_
   ·walk_at "rdm";exact q
   ·rw[aE];simp[List.range_succ,cU,cg]
   ·rintro j σ H' N hN hj ⟨kk,rfl,hs,h1⟩;have b:=jv c iz.1 j;wp_walk using dI;refine⟨by lia,by lia,by lia,⟨_,aB.of h1⟩,_,aB.of h1,_,sQ (by simp;lia),?_⟩
    wp_walk using h1;refine⟨by simp;lia,hN _ _ ⟨some (.int (2+(j:Int))),?_,aj.put2 hs hl,?_⟩⟩
    ·rw[cg]
    ·rw[aE,← Nat.add_assoc,List.range_succ,List.map_append,List.map_append,List.length_range,_L.range_getD (by lia)]
     congr 4;simp only[List.map_cons,List.map_nil,List.cons.injEq,and_true,V.int.injEq];obtain⟨i,e⟩:∃i,2+j=i+1:=⟨1+j,by lia⟩
     rw[show 2+j - 1=1+j by lia,show 2+j=1+j+1 by lia,cU,show 1+j=j+1 by lia]
     rw[cg]
   ·rintro σ H' ⟨kk,rfl,hs,h1⟩;walk_at "rdm";have e:2+(m - 2).toNat=m.toNat:=by lia
    rw[e] at h1;have so:=zE c iz.1 (show s0<=8000000 by lia) (n:=m.toNat) (by lia) (by lia)
    rw[show ((m.toNat:Nat):Int)=m by lia] at so
    exact q _ _ _ hs hl h1 so
  ·skip
   intro l hl;have iz:1<=1+mix c 1 % 1000/\1+mix c 1 % 1000<=1000:=⟨by have:=Int.emod_nonneg (mix c 1) (show (1000:Int)≠0 by decide);lia,by have:=Int.emod_lt_of_pos (mix c 1) (show (0:Int)<1000 by decide);lia⟩
   generalize 1+mix c 1 % 1000=s0 at iz ⊢;refine jr 2 m (λj σ H'=>∃kk,σ = [some (.int m),some (.int c),some (.int (cg c s0 j)),some (.ref l),kk,none]/\aj H H'/\H' l=some (.lst (((List.range (2+j)).map (cU c s0)).map V.int)))
    (λQ q=>?_) (by lia) (by lia) (by lia) (by lia) ⟨none,rfl,aj.put hl,?_⟩ ?_ ?_
   ·walk_at "rdm";exact q
   ·rw[aE];simp[List.range_succ,cU,cg]
   ·rintro j σ H' N hN hj ⟨kk,rfl,hs,h1⟩;have b:=jv c iz.1 j;wp_walk using dI;refine⟨by lia,by lia,by lia,⟨_,aB.of h1⟩,_,aB.of h1,_,sQ (by simp;lia),?_⟩
    wp_walk using h1;refine⟨by simp;lia,hN _ _ ⟨some (.int (2+(j:Int))),?_,aj.put2 hs hl,?_⟩⟩
    ·rw[cg]
    ·rw[aE,← Nat.add_assoc,List.range_succ,List.map_append,List.map_append,List.length_range,_L.range_getD (by lia)]
     congr 4;simp only[List.map_cons,List.map_nil,List.cons.injEq,and_true,V.int.injEq];obtain⟨i,e⟩:∃i,2+j=i+1:=⟨1+j,by lia⟩
     rw[show 2+j - 1=1+j by lia,show 2+j=1+j+1 by lia,cU,show 1+j=j+1 by lia]
     rw[cg]
   ·rintro σ H' ⟨kk,rfl,hs,h1⟩;walk_at "rdm";have e:2+(m - 2).toNat=m.toNat:=by lia
    rw[e] at h1;have so:=zE c iz.1 (show s0<=8000000 by lia) (n:=m.toNat) (by lia) (by lia)
    rw[show ((m.toNat:Nat):Int)=m by lia] at so
    exact q _ _ _ hs hl h1 so
  ·intro l0 c8;have hL:1<=1+mix c 1 % 100000000/\1+mix c 1 % 100000000<=100000000:=⟨by have:=Int.emod_nonneg (mix c 1) (show (100000000:Int)≠0 by decide);lia,by have:=Int.emod_lt_of_pos (mix c 1) (show (0:Int)<100000000 by decide);lia⟩
   generalize 1+mix c 1 % 100000000=L at hL ⊢;have s0:=aj.put (o:=.lst [V.int 0]) c8;refine EJ 1 m (λD i ys aC H2=>∃ns:List Int,ys=ns.map V.int/\ns.length=i/\(∀x∈ns,L<=x/\x<=2*L)/\H2 D=some (.lst ys)/\aj (upd H l0 (.lst [V.int 0])) H2/\upd H l0 (.lst [V.int 0]) D=none/\i<=120/\∃u,aC = [u,some (.int L),some (.int c)])
    (λQ q=>?_) (by lia) (by lia) (by lia) (by lia) ?_ ?_ ?_ ?_
   ·walk_at "rdm";exact q
   ·intro D hD;exact⟨[],rfl,rfl,(by intro x hx;cases hx),aE,aj.put hD,hD,by lia,none,rfl⟩
   ·rintro D i ys aC H2 ⟨ns,rfl,e0,_,e1,e2,e3,e4,_⟩;exact⟨e1,nH (by rw[List.length_map];lia)⟩
   ·rintro D i ys aC H2 N hN hi ⟨ns,rfl,e0,eb,e1,e2,e3,e4,u,rfl⟩;wp_walk using dI;have b1:=Int.emod_nonneg (mix c (1+(i:Int)+2)) (show L+1≠0 by lia)
    have b2:=Int.emod_lt_of_pos (mix c (1+(i:Int)+2)) (show 0<L+1 by lia)
    refine⟨by lia,by lia,by lia,e1,hN _ _ _ ⟨ns++[L+mix c (1+(i:Int)+2) % (L+1)],by rw[List.map_append];rfl,by simp[e0],?_,aE,aj.put2 e2 e3,e3,by lia,_,rfl⟩⟩
    intro x hx;rcases List.mem_append.mp hx with hx | hx
    ·exact eb x hx
    ·rw[List.mem_singleton.mp hx];generalize mix c (1+(i:Int)+2) % (L+1)=y at b1 b2 ⊢;lia
   ·rintro D ys aC H2 ⟨ns,rfl,e0,eb,e1,e2,e3,e4,u,rfl⟩;walk_at "rdm";refine⟨ns,aB.of e1,by lia,λl AL hl hp hs=>?_⟩
    have AM:=e2 _ _ aE;have IT:l0≠l:=cI AM hl;refine⟨[V.int 0],by rw[aL IT];exact AM,?_,λp iy=>?_⟩
    ·have:=hp.length_eq;simp;lia
    ·have eu:p≠l:=(cI aE iy).symm;have dZ:H2 p=none:=by rw[aL eu] at iy;exact iy
     have hH:H p=none:=(s0.trans e2).free dZ;have IU:H l=none:=(s0.trans e2).free hl;have so:=EX hL.1 hL.2 (ns:=AL) (λx hx=>eb x (hp.mem_iff.mp hx)) hs (by rw[hp.length_eq];lia)
     rw[hp.length_eq,show ((ns.length+1:Nat):Int)=m by lia] at so
     exact q p (0::AL) _ (aj.put2 (aj.put2 (s0.trans e2) IU) hH) hH (by rw[aE];rfl) so
theorem AN(T:Tx K mg A):bC P w K mg base (c9 P w base) 3 A.pG A.pH ["self", "zones", "lap", "skew", "swing"] (Hw K A.aI):=by
 have IV:=Io (P:=P) (w:=w) (base:=base) T;have IW:=Ip (P:=P) (w:=w) (base:=base) T;have IX:=IK (P:=P) (w:=w) (base:=base) T;have IY:=Ir (P:=P) (w:=w) (base:=base) T;have IZ:=Iu (P:=P) (w:=w) (base:=base) T;have I0:=Iw (P:=P) (w:=w) (base:=base) T;refine T.z6.lz HQ (λvs H Q E h=>?_) (λaW Ar outer s H vs Q E hr h=>?_)
 ·obtain⟨C,p,dx,za,sa,c_,z,a_,bF,sw,rfl,_⟩:=h
  rfl
 ·obtain⟨C,p,dx,za,sa,c_,z,a_,bF,sw,rfl,cp,hp,hz,vj,hS,qe,q⟩:=h;refine⟨_,(aF (gU (aU IV (hr.mono (by first | decide | lia)) rfl T.zO T.uH.kp T.zN .nil n_ (aa (pv 1) ao)))
   (aF (gU (aU IW (hr.mono (by first | decide | lia)) rfl T.zQ T.uI.kp T.zP .nil n_ (aa (pv 1) (aa (pv 2) (aa (pv 3) ao)))))
   (aF (jV (pv 0) (aU IY (hr.mono (by first | decide | lia)) rfl T.zX T.uL.kp T.zW .nil aZ (aa (pv 1) ao)) rfl)
   (aF (gU (aU IX (hr.mono (by first | decide | lia)) rfl T.zS T.uJ.kp T.zR .nil n_ (aa (pv 4) (aa (bh cO rfl T.cE boot_len (aa (ni (pv 0) rfl) ao)) ao))))
   (aF (jV (pv 0) (pv 2) rfl)
   (aF (jV (pv 0) (pv 3) rfl)
   (aF (jV (pv 0) (rQ r9 rfl T.iw boot_list (aa (pv 4) ao)) rfl)
   (aF (jV (pv 0) (aU IZ (hr.mono (by first | decide | lia)) rfl T.zZ T.uM.kp T.zY .nil aZ (aa (ni (pv 0) rfl) (aa ak ao))) rfl)
   (aH (jV (pv 0) (aU I0 (hr.mono (by first | decide | lia)) rfl T.z3 T.uN.kp T.z0 .nil aZ (aa (ni (pv 0) rfl) ao)) rfl)))))))))),?_⟩
  wp_walk using cp.cl,cp.n1,cp.n2,cp.n3,cp.n4,cp.n5,cp.n6;refine⟨za,c_,z,rfl,hz,vj,λok H1 s1=>⟨za,c_,z,a_,bF,rfl,hz.same s1,ok,λtok=>?_,λnt=>qe (λg=>nt g.2.1) _ (.of s1)⟩,λnz H1 s1=>qe (λg=>nz g.1) _ (.of s1)⟩;refine⟨za,c_,z,rfl,hz.same s1,ok,λa1 H2 s2 n1 e1=>?_⟩;have iy:=(s1.trans s2) _ _ hp;have mD:a1≠p:=(cI (s1 _ _ hp) n1).symm;have cl:=nW z λp hp=>(ok.r p hp).1;have I_:=ok.k7;have c2:=ok.s2;have qN:SameBut p H H2:=.of (s1.trans s2);have Ja:H a1=none:=s1.free n1;wp_walk using cp.cl,cp.n1,cp.n2,cp.n3,cp.n4,cp.n5,cp.n6,iy;refine⟨_,.inl (aB.of ((aL mD).trans e1)),?_⟩;have AO:∀ {H':Hp},SameBut p H H'->aB K H' sa (sw.map V.int):=λ{H'} sb=>by
   rcases hS with(h | ⟨o,h⟩) | h
   ·exact .inl (.inl (sb _ _ h (mK h hp (by intro z;cases z))))
   ·exact .inl (.inr ⟨o,sb _ _ h (mK h hp (by intro z;cases z))⟩)
   ·exact .inr h
  have Jb:(((counts z).map V.int).length:Int)=(z.map (·.1)).sum:=by rw[List.length_map];exact cl
  rw[Jb];refine⟨sa,sw,_,rfl,AO qN.put,c2,by lia,λso=>?_,λns=>qe (λg=>ns g.2.2) _ qN.put⟩
  replace q:=q ⟨ok,tok,so⟩
  wp_walk using cp.cl,cp.n1,cp.n2,cp.n3,cp.n4,cp.n5,cp.n6;refine⟨_,.inl (AO qN.put),λa2 n2=>?_⟩;have iB:p≠a2:=cI aE n2;have AQ:H2 a2=none:=by rw[aL iB.symm] at n2;exact n2
  wp_walk using cp.cl,cp.n1,cp.n2,cp.n3,cp.n4,cp.n5,cp.n6,aL iB;have Jc:a1≠a2:=cI e1 AQ;have mF:SameBut p H (upd (upd (upd H2 p (HO.ins C dx [(Str.ofString "ring_cells",V.ref a1),(Str.ofString "lap",V.int a_),(Str.ofString "skew",V.int bF)])) a2 (HO.lst (List.map V.int sw))) p
   (HO.ins C dx [(Str.ofString "ring_cells",V.ref a1),(Str.ofString "lap",V.int a_),(Str.ofString "skew",V.int bF),(Str.ofString "swing",V.ref a2)])):=(qN.put.step (aj.put n2)).put
  have yi:=e1;have Jd:H a2=none:=(s1.trans s2).free AQ;generalize vm:upd (upd (upd H2 p _) a2 _) p _=H3 at mF ⊢;have p3:H3 p=some (HO.ins C dx [(Str.ofString "ring_cells",V.ref a1),(Str.ofString "lap",V.int a_),(Str.ofString "skew",V.int bF),(Str.ofString "swing",V.ref a2)]):=by rw[← vm,aE]
  have q1:H3 a1=some (.lst ((counts z).map V.int)):=by rw[← vm,aL mD,aL Jc,aL mD];exact e1
  have q2:H3 a2=some (.lst (sw.map V.int)):=by rw[← vm,aL iB.symm,aE]
  have cm:∀c∈counts z,0<=c/\c<=1000:=λc hc=>by
   obtain⟨y,hy,rfl⟩:=yz hc;have:=ok.r y hy;lia
  refine⟨a1,counts z,0,rfl,aB.of q1,by lia,cm,by decide,by decide,λa3 ts H4 s4 n3 vn z4=>?_⟩
  have p4:=s4 _ _ p3;have vo:a3≠p:=(cI p3 n3).symm;have ji:H a3=none:=by
   cases e:H a3 with
   | none=>rfl
   | some o=>rw[mF _ _ e vo] at n3;cases n3
  have vp:∀t∈ts,t≠p:=λt ht=>(cI p3 (vn t ht)).symm;have Je:∀t∈ts,H t=none:=λt ht=>by
   cases e:H t with
   | none=>rfl
   | some o=>have:=mF _ _ e (vp t ht);rw[vn t ht] at this;cases this
  wp_walk using cp.cl,cp.n1,cp.n2,cp.n3,cp.n4,cp.n5,cp.n6,p4;have z5:=z4.keep (H':=upd H4 p (HO.ins C dx [(Str.ofString "ring_cells",V.ref a1),(Str.ofString "lap",V.int a_),(Str.ofString "skew",V.int bF),(Str.ofString "swing",V.ref a2),(Str.ofString "number_cells",V.ref a3)])) (aL vo) λt ht=>aL (vp t ht);have zl:(nU (counts z) 0).length<=1000000:=by
   have:=sU (s:=0) (by decide) (counts z) 0 cm
   have e:(counts z).length<=120:=by lia
   unfold nU;lia
  refine⟨a3,ts,_,rfl,z5,zl,λa4 H5 s5 n4 e4=>?_⟩;have vq:a4≠p:=(cI aE n4).symm;have Jf:SameBut p H H5:=((mF.step s4).put).step s5;have AR:H4 a4=none:=by rw[aL vq] at n4;exact n4
  have Jg:H a4=none:=by
   cases e:H a4 with
   | none=>rfl
   | some o=>rw[(mF.step s4) _ _ e vq] at AR;cases AR
  wp_walk using cp.cl,cp.n1,cp.n2,cp.n3,cp.n4,cp.n5,cp.n6,s5 _ _ aE;refine q _ dx a1 a2 a3 a4 ts Jf.put ?_ aE (k9.lit cp aE ?_ ?_ ?_ ?_)
  ·intro b hb;simp only[List.mem_cons] at hb;rcases hb with rfl | rfl | rfl | rfl | hb
   ·exact Ja
   ·exact Jd
   ·exact ji
   ·exact Jg
   ·exact Je b hb
  ·rw[aL mD];exact s5 _ _ ((aL mD).trans (s4 _ _ q1))
  ·rw[aL iB.symm];exact s5 _ _ ((aL iB.symm).trans (s4 _ _ q2))
  ·exact(z5.same s5).keep (aL vo) λt ht=>aL (vp t ht)
  ·rw[aL vq];exact e4
theorem Jh(T:Tx K mg A):bC P w K mg base cJ 5 A.p_ A.qa ["_law_zones_here", "_law_lap_here", "_law_skew", "_law_swing_here"] (tY K):=by
 have vt:=AN (P:=P) (w:=w) (base:=base) T;refine T.iT.ok j8 (λvs H Q E h=>?_) (λaW Ar outer s H vs Q E hr h=>?_)
 ·obtain⟨za,sa,c_,z,a_,bF,sw,rfl,_⟩:=h
  rfl
 ·obtain⟨za,sa,c_,z,a_,bF,sw,rfl,hz,vj,hS,bad,q⟩:=h;have AS:=hr.xr;refine⟨_,(aF (bz (i:=4) j8.nd rfl (Or.inl rfl) (cB ao))
   (aF (FW rfl rfl (λE=>(Fy (Fw T.u0 vt (hr.mono (by first | decide | lia)) rfl T.u5 T.uO .nil (aa (pv 0) (aa (pv 1) (aa (pv 2) (aa (pv 3) ao)))))))
   (FJ (i:=5) rfl T.Aq T.As j8.nd rfl rfl rfl (λa=>(aF (bz (i:=4) j8.nd rfl (Or.inl rfl) (cB (aa (bh gJ rfl T.cD boot_isinstance (aa (pv 5) (aa (dB (v:=.ref A.aI) rfl T.eL rfl) ao))) (aa (bh gJ rfl T.cD boot_isinstance (aa (pv 5) (aa (eU (v:=.ty "ValueError") rfl T.qu PyProof.Rows.Boot.«ValueError» rfl) ao))) (aa (bh gJ rfl T.cD boot_isinstance (aa (pv 5) (aa (dB (v:=.ref A.gM) rfl T.Aw rfl) ao))) (aa (bh gJ rfl T.cD boot_isinstance (aa (pv 5) (aa (dB (v:=.ref A.gO) rfl T.Ax rfl) ao))) ao))))))
   (aF (bz (i:=4) j8.nd rfl (Or.inl rfl) (au iG (pv 4) (cB (aa (bh gJ rfl T.cD boot_isinstance (aa (pv 5) (aa (dB (v:=.ref A.fh) rfl T.Ay rfl) ao))) (aa (bh gJ rfl T.cD boot_isinstance (aa (pv 5) (aa (dB (v:=.ref A.gP) rfl T.Az rfl) ao))) (aa (bh gJ rfl T.cD boot_isinstance (aa (pv 5) (aa (dB (v:=.ref A.fj) rfl T.AA rfl) ao))) (aa (bh gJ rfl T.cD boot_isinstance (aa (pv 5) (aa (dB (v:=.ref A.fq) rfl T.AB rfl) ao))) ao)))))))
   (aH (bz (i:=4) j8.nd rfl (Or.inl rfl) (au iG (pv 4) (cB (aa (bh gJ rfl T.cD boot_isinstance (aa (pv 5) (aa (dB (v:=.ref A.fu) rfl T.AD rfl) ao))) (aa (bh gJ rfl T.cD boot_isinstance (aa (pv 5) (aa (dB (v:=.ref A.fz) rfl T.AE rfl) ao))) ao))))))))) FH))
   (aH (bG (m_ (HB AS) (pv 4) (au iG (cB (aa gS (aa gS ao))) (au kR (cB (aa gS ao)) ak)) (aM _)))))),?_⟩
  walk_at "rdt";intro l hl p dx np vv nd;have s1:=aj.put (o:=.lst []) hl;have s5:=s1.trans (aj.put (o:=.own p) vv);have iB:upd (upd H l (.lst [])) dx (.own p) p=none:=by rw[aL (Ne.symm nd)];exact np
  have Ji:H p=none:=by cases e:H p with
   | none=>rfl
   | some o=>rw[s1 _ _ e] at np;cases np
  have s6:=s5.trans (aj.put (o:=.ins A.bH dx []) iB);refine⟨A.bH,p,dx,za,sa,c_,z,a_,bF,sw,rfl,T.AF,aE,hz.same s6,vj,s6.seq hS,λ_ H1 sb=>?_,λg=>absurd g bad⟩;have sH:aj H H1:=λb o e=>sb _ _ (s6 _ _ e) (cI e Ji);refine⟨A.aI,rfl,T.Au,λe he=>.inl ⟨T.Av,?_⟩⟩;walk_at "rdt";refine⟨A.aI,_,.inl rfl,rfl,T.gh,T.gi,true,T.qx,?_⟩;refine⟨A.aI,_,.inr rfl,rfl,T.gh,T.gi,true,T.qG,?_⟩;refine⟨A.aI,_,.inl rfl,rfl,T.gh,T.gi,false,T.qy,?_⟩;refine⟨A.aI,_,.inl rfl,rfl,T.gh,T.gi,false,T.qz,?_⟩;intro p1 n1;refine⟨A.aI,_,.inl rfl,(aj.put n1 _ _ aE),T.gh,T.gi,false,T.qA,?_⟩;refine⟨A.aI,_,.inl rfl,(aj.put n1 _ _ aE),T.gh,T.gi,false,T.qB,?_⟩;refine⟨A.aI,_,.inl rfl,(aj.put n1 _ _ aE),T.gh,T.gi,false,T.qC,?_⟩;refine⟨A.aI,_,.inl rfl,(aj.put n1 _ _ aE),T.gh,T.gi,false,T.qD,?_⟩;intro p2 n2;refine⟨_,aj.put n2 _ _ aE,by simp,λp3 n3=>?_⟩
  refine⟨A.aI,_,.inl rfl,(aj.put n3 _ _ (aj.put n2 _ _ (aj.put n1 _ _ aE))),T.gh,T.gi,false,T.qE,?_⟩;refine⟨A.aI,_,.inl rfl,(aj.put n3 _ _ (aj.put n2 _ _ (aj.put n1 _ _ aE))),T.gh,T.gi,false,T.qF,?_⟩;intro p4 n4;refine⟨_,aj.put n4 _ _ aE,by simp,λp5 n5=>?_⟩
  intro p6 n6 p7 n7;refine⟨by decide,λp8 n8=>⟨_,aj.put n8 _ _ (aj.put n7 _ _ aE),by decide,λp9 n9=>?_⟩⟩
  have t6:=(aj.put (o:=.lst [V.bl true,V.bl true]) n6).trans ((aj.put (o:=.lst [V.bl false]) n7).trans ((aj.put (o:=.lst [[V.bl false],[V.bl false],[V.bl false],[V.bl false],[V.bl false],[V.bl false],[V.bl false],[V.bl false]].flatten) n8).trans (aj.put (o:=.lst ([V.bl true,V.bl true]++[[V.bl false],[V.bl false],[V.bl false],[V.bl false],[V.bl false],[V.bl false],[V.bl false],[V.bl false]].flatten)) n9)));refine⟨_,aB.of (t6 _ _ aE),aB.of aE,λv hv=>?_,q _ ?_⟩
  ·simp at hv;rcases hv with rfl | rfl <;> exact⟨λ_=>V.noConfusion,λ_=>V.noConfusion⟩
  ·exact sH.trans ((aj.put he).trans ((aj.put n1).trans ((aj.put n2).trans ((aj.put n3).trans ((aj.put n4).trans ((aj.put n5).trans t6))))))
theorem Jj(T:Tx K mg A):bC P w K mg base cJ 9 A.qb A.qc ["_law_script"] (nY K):=by
 have vt:=AN (P:=P) (w:=w) (base:=base) T;have Jk:=Iz (P:=P) (w:=w) (base:=base) T;have jH:=IA (P:=P) (w:=w) (base:=base) T;have Jl:=Im (P:=P) (w:=w) (base:=base) T;have bZ:=qM (P:=P) (w:=w) (base:=base) T;have Jm:=IM (P:=P) (w:=w) (base:=base) T;have AU:=IB (P:=P) (w:=w) (base:=base) T;have Jo:=IQ (P:=P) (w:=w) (base:=base) T;have Jp:=IS (P:=P) (w:=w) (base:=base) T;have Jq:=IC (P:=P) (w:=w) (base:=base) T;have Jr:=ID (P:=P) (w:=w) (base:=base) T;have j_:=Jh (P:=P) (w:=w) (base:=base) T;refine T.Ai.ok fP (λvs H Q E h=>?_) (λaW Ar outer s H vs Q E hr h=>?_)
 ·obtain⟨a,ns,rfl,_⟩:=h
  rfl
 ·obtain⟨a,ns,rfl,hS,hl,q⟩:=h;have AS:=hr.xr;refine⟨_,(aF (bz (i:=1) fP.nd rfl (Or.inl rfl) (aU Jm (hr.mono (by first | decide | lia)) rfl T.z_ T.uS.kp T.z9 .nil aZ (aa (aU jH (hr.mono (by first | decide | lia)) rfl T.iS T.iu.kp T.iR .nil aZ (aa (pv 0) (aa ak ao))) (aa (aU jH (hr.mono (by first | decide | lia)) rfl T.iS T.iu.kp T.iR .nil aZ (aa (pv 0) (aa ak ao))) ao))))
   (aF (bz (i:=2) fP.nd rfl (Or.inl rfl) (aU AU (hr.mono (by first | decide | lia)) rfl T.uU T.qg.kp T.uT .nil aZ (aa (pv 1) ao)))
   (aF (bz (i:=3) fP.nd rfl (Or.inl rfl) (aU Jo (hr.mono (by first | decide | lia)) rfl T.Ab T.uW.kp T.Aa .nil aZ (aa (pv 1) (aa (aU jH (hr.mono (by first | decide | lia)) rfl T.iS T.iu.kp T.iR .nil aZ (aa (pv 0) (aa ak ao))) ao))))
   (aF (bz (i:=4) fP.nd rfl (Or.inl rfl) (au bL (aU bZ (hr.mono (by first | decide | lia)) rfl T.cA T.cu.kp T.cz .nil aZ (aa (aU jH (hr.mono (by first | decide | lia)) rfl T.iS T.iu.kp T.iR .nil aZ (aa (pv 0) (aa ak ao))) (aa ak ao))) (pv 3)))
   (aF (bz (i:=5) fP.nd rfl (Or.inl rfl) (aU Jp (hr.mono (by first | decide | lia)) rfl T.Ad T.uX.kp T.Ac .nil aZ (aa (bh cO rfl T.cE boot_len (aa (pv 2) ao)) (aa (aU jH (hr.mono (by first | decide | lia)) rfl T.iS T.iu.kp T.iR .nil aZ (aa (pv 0) (aa ak ao))) ao))))
   (aF (bu (wK (rA (aU Jl (hr.mono (by first | decide | lia)) rfl T.uR T.qd.kp T.uQ .nil aZ (aa (CT (CV T.u0 vt (hr.mono (by first | decide | lia)) rfl T.u5 T.uO .nil Fx (aa (pv 1) (aa (pv 3) (aa (pv 4) (aa (pv 5) ao))))) T.qh T.uP Jk (hr.mono (by first | decide | lia)) T.z8 .nil aZ) (aa (bh cO rfl T.cE boot_len (aa (pv 2) ao)) ao))))) (aH (bG gS)) br)
   (aF (bz (i:=6) fP.nd rfl (Or.inl rfl) (au bL (aU bZ (hr.mono (by first | decide | lia)) rfl T.cA T.cu.kp T.cz .nil aZ (aa (aU jH (hr.mono (by first | decide | lia)) rfl T.iS T.iu.kp T.iR .nil aZ (aa (pv 0) (aa ak ao))) (aa ak ao))) ak))
   (aF (bz (i:=7) fP.nd rfl (Or.inl rfl) (aU bZ (hr.mono (by first | decide | lia)) rfl T.cA T.cu.kp T.cz .nil aZ (aa (aU jH (hr.mono (by first | decide | lia)) rfl T.iS T.iu.kp T.iR .nil aZ (aa (pv 0) (aa ak ao))) (aa ak ao))))
   (aF (ie (bu (PW.pt (mT (aO bN (pv 6) ak (aM _)) (mS (aO bN (bh cO rfl T.cE boot_len (aa (pv 5) ao)) ak (aM _))))) (aH (bz (i:=6) fP.nd rfl (Or.inl rfl) ak)) br))
   (aF (bz (i:=8) fP.nd rfl (Or.inl rfl) (aU Jq (hr.mono (by first | decide | lia)) rfl T.Af T.uY.kp T.Ae .nil aZ (aa (pv 1) (aa (pv 6) (aa (au bL (pv 7) (bh cO rfl T.cE boot_len (aa (pv 1) ao))) ao)))))
   (aF (bz (i:=9) fP.nd rfl (Or.inl rfl) (aU Jr (hr.mono (by first | decide | lia)) rfl T.Ah T.uZ.kp T.Ag .nil aZ (aa (pv 5) (aa (pv 6) (aa (pv 7) ao)))))
   (aF (ie (bu (PW.pt (eW (aO bN (pv 6) ak (aM _)) (eV (aO bN (pv 6) ak (aM _))))) (aH (bz (i:=9) fP.nd rfl (Or.inl rfl) (au iG (cB (aa ak ao)) (au kR (cB (aa ak ao)) (au dD (bh cO rfl T.cE boot_len (aa (aU AU (hr.mono (by first | decide | lia)) rfl T.uU T.qg.kp T.uT .nil aZ (aa (pv 8) ao)) ao)) ak))))) br))
   (aF (bu (aO bN (pv 6) ak (aM _)) (aH (bG (wM (aU j_ (hr.mono (by first | decide | lia)) rfl T.jF T.iT.kp T.jE .nil aZ (aa (pv 8) (aa ak (aa ak (aa (pv 9) ao))))) (wL (aU j_ (hr.mono (by first | decide | lia)) rfl T.jF T.iT.kp T.jE .nil aZ (aa (pv 8) (aa (au gv (au bB (au jT (au jU ak ak) (pv 3)) ak) (pv 3)) (aa (pv 4) (aa (pv 9) ao))))))))) br)
   (aF (bu (PW.pt (mT (aO bN (pv 6) ak (aM _)) (mS (aO gX (bh (GA rfl) rfl T.mq boot_max (aa (pv 2) ao)) ak (aM _))))) (aH (bG (aU j_ (hr.mono (by first | decide | lia)) rfl T.jF T.iT.kp T.jE .nil aZ (aa (pv 8) (aa (au bB (pv 3) ak) (aa (pv 4) (aa (pv 9) ao))))))) br)
   (aF (bu (PW.pt (eW (aO bN (pv 6) ak (aM _)) (eV (aO bN (pv 6) ak (aM _))))) (aH (bG (aU j_ (hr.mono (by first | decide | lia)) rfl T.jF T.iT.kp T.jE .nil aZ (aa (pv 8) (aa (pv 3) (aa (au dD (mX mZ ak) (pv 7)) (aa (pv 9) ao))))))) br)
   (aF (bu (aO bN (pv 6) ak (aM _)) (aH (bG (aU j_ (hr.mono (by first | decide | lia)) rfl T.jF T.iT.kp T.jE .nil aZ (aa (pv 8) (aa (pv 3) (aa (au bB (pv 3) (au bL (pv 7) ak)) (aa (pv 9) ao))))))) br)
   (aH (bG (aU j_ (hr.mono (by first | decide | lia)) rfl T.jF T.iT.kp T.jE .nil aZ (aa (pv 8) (aa (pv 3) (aa (pv 4) (aa (pv 9) ao))))))))))))))))))))))),?_⟩
  wp_walk using T,jZ,dI;refine⟨ns,hS,hl,ns,hS,hl,?_⟩;refine⟨_,_,rfl,λza c_ z H1 s1 n1 vn hz gk Js=>?_⟩;have z5:=gk.l5;refine⟨za,c_,z,rfl,hz,z5,λp hp=>⟨(gk.r p hp).1,(gk.r p hp).2.1⟩,λca H2 s2 n2 hc=>?_⟩;have cl:=nW z λp hp=>(gk.r p hp).1;have I_:=gk.k7;have c2:=gk.s2;have qO:=s1.trans s2;refine⟨ns,qO.seq hS,hl,⟨za,c_,z,_,rfl,hz.same s2,gk,?_⟩⟩;obtain⟨AV,AW,vA⟩:=Hr gk Js (eF ns 2);generalize ju z (eF ns 2)=a_ at AV AW vA ⊢;have iA:=hz.same s2;wp_walk using T,jZ,dI;have Jt:=Int.emod_nonneg (mix (eF ns 3) 0) (show a_≠0 by lia)
  have Ju:=Int.emod_lt_of_pos (mix (eF ns 3) 0) (show 0<a_ by lia)
  refine⟨ns,qO.seq hS,hl,by lia,_,.inl (aB.of hc),ns,qO.seq hS,hl,?_⟩
  generalize mix (eF ns 3) 0 % a_=sk at Jt Ju ⊢;refine⟨_,_,rfl,by rw[List.length_map];lia,by rw[List.length_map];lia,λsa sw H4 s4 n4 AX so=>?_⟩
  rw[List.length_map,cl] at so;intro p dx np vv nd;have vB:=iA.same s4;have s5:=aj.put (o:=.own p) vv;have iB:upd H4 dx (.own p) p=none:=by rw[aL (Ne.symm nd)];exact np
  have s6:=s5.trans (aj.put (o:=.ins A.bH dx []) iB);have good:lO z a_ sk sw:=⟨gk,⟨AV,AW,vA,by lia,by lia⟩,so⟩
  refine⟨A.bH,p,dx,za,sa,c_,z,a_,sk,sw,rfl,T.AF,aE,vB.same s6,by lia,aB.of (s6 _ _ AX),λb=>absurd good b,λ_ H5 AY a1 a2 a3 a4 AZ sb MZ Jv hA=>⟨rfl,?_⟩⟩
  have hP:yE K A.bH H5 p _ (a1::a2::a3::a4::AZ):=⟨AY,a1,a2,a3,a4,AZ,_,rfl,hA⟩;have qP:∀b o,H4 b=some o->H5 b=some o:=λb o e=>sb _ _ (s6 _ _ e) (cI e np);have Jw:aj H H5:=λb o e=>qP _ _ (s4 _ _ (qO _ _ e));have A0:=qP _ _ (s4 _ _ hc);have A1:=vB.same qP;have Jx:=qP _ _ AX;refine⟨AY,_,Jv,rfl,A.bH,p,_,_,rfl,hP,?_⟩;refine⟨_,.inl (aB.of A0),?_⟩;rw[List.length_map];refine⟨_,_,.int _,rfl,.int _,.int _,λH6 s6=>⟨true,rfl,?_⟩⟩;have vC:=Jw.trans s6;wp_walk using T,jZ,dI;rw[if_neg (by decide)]
  refine⟨ns,vC.seq hS,hl,ns,vC.seq hS,hl,?_⟩;have mb:=And.intro (Ep (eF ns 6) 0) (Er (eF ns 6) 0);generalize mix (eF ns 6) 0=mG at mb ⊢;have f0:=Int.emod_nonneg (mix (eF ns 5) 0) (show (18:Int)≠0 by decide)
  have f1:=Int.emod_lt_of_pos (mix (eF ns 5) 0) (show (0:Int)<18 by decide)
  generalize mix (eF ns 5) 0 % 18=f at f0 f1 ⊢;have vD:=A1.same s6;have A2:=s6 _ _ Jx;have Jy:=s6 _ _ A0;have l1:=so.len;have l2:=so.two;refine⟨λσ H'=>∃f,σ = [some (V.ref a),some (V.ref za),some (V.ref ca),some (V.int a_),some (V.int sk),some (V.ref sa),some (V.int f),some (V.int mG),none,none]/\H' = H6/\0<=f/\f<=17/\(f=17->3<=(z.map (·.1)).sum),?_,?_⟩
  ·refine aX (λg=>⟨_,.inl (aB.of A2),?_⟩) λg=>⟨_,rfl,rfl,f0,by lia,λh=>absurd h g⟩
   rw[List.length_map];exact aX (λg2=>⟨_,rfl,rfl,by decide,by decide,λh=>by lia⟩) λg2=>⟨_,rfl,rfl,f0,by lia,λ_=>by lia⟩
  clear f0 f1 f;rintro σ H' ⟨f,rfl,rfl,f0,f1,AI⟩;wp_walk using T,jZ,dI;have M0:=gk.l1;have vf:=hz.n;have q0:=Int.emod_nonneg mG (show ((c_.map V.ref).length:Int)≠0 by rw[List.length_map];lia)
  have q1:=Int.emod_lt_of_pos mG (show 0<((c_.map V.ref).length:Int) by rw[List.length_map];lia)
  refine⟨_,.inl vD.sq,by rw[List.length_map];lia,za,c_,z,f,_,rfl,vD,gk,f0,q0,by rw[List.length_map] at q1 ⊢;lia,λl1 jG z1 H7 s7 n7 A3 M1 zb=>?_⟩
  refine⟨sa,sw,_,f,mG,rfl,aB.of (s7 _ _ A2),so,by lia,f0,f1,mb.1,by lia,AI,λl2 Jz H8 s8 n8 JA _ JB=>?_⟩
  have vE:=A3.same s8;refine⟨λσ H9=>∃b kg,σ = [some (V.ref a),some (V.ref za),some (V.ref ca),some (V.int a_),some (V.int sk),some (V.ref sa),some (V.int f),some (V.int mG),some (V.ref l1),some (V.ref b)]/\aj H8 H9/\H9 b=some (.lst (kg.map V.int))/\(12<=f->¬ SwOk kg (z.map (·.1)).sum),?_,?_⟩
  ·refine aX (λg=>?x1) λg1=>aX (λg=>?x2) λg2=>?x3
   case x3=>exact⟨l2,Jz,rfl,aj.refl _,JA,JB⟩
   all_goals
    intro p1 m1 p2 m2;obtain⟨JC,JD,A4⟩:=zb.2.2 (by lia)
    have t1:=aj.put (o:=.lst [V.int 0]) m1;have t2:=aj.put (o:=.lst [V.int 1]) m2;have zl:=tZ z1 A4;have zp:1<=z1.length:=by
     cases z1 with
     | nil=>exact absurd rfl JC
     | cons _ _=>simp
    refine⟨l1,jG,z1,rfl,vE.same (t1.trans t2),JD,A4,λl3 H9 s9 m9 h9=>⟨l3,rfl,_,.inl (aB.of h9),_,s9 _ _ aE,?_,?_,?_,λp3 m3=>⟨_,aj.put m3 _ _ (s9 _ _ (t2 _ _ aE)),?_,λp4 m4=>?_⟩⟩⟩
    ·rw[List.length_map];lia
    ·rw[List.length_map];lia
    ·rw[List.length_map];simp;lia
    ·rw[oJ];simp;lia
    ·refine⟨p4,0::List.replicate (((counts z1).map V.int).length - 1:Int).toNat 1,rfl,t1.trans (t2.trans (s9.trans ((aj.put m3).trans (aj.put m4)))),?_,λAJ=>by lia⟩
     rw[aE,oJ];simp
  rintro σ H9 ⟨b,kg,rfl,s9,hb,bb⟩;have A5:=vE.same s9;have M3:=vC.trans (s7.trans (s8.trans s9));have JE:=s9 _ _ (s8 _ _ (s7 _ _ Jy));clear vE A3 vD A1 vB iA hz;wp_walk using T,jZ,dI;have no:∀(Q':VK) (lp s:Int),¬ lO z1 lp s kg->(∀H',aj H9 H'->Q' (.bl true) H')->tY K [V.ref l1,V.int lp,V.int s,V.ref b] H9 Q' E0:=λQ' lp s nb g=>⟨l1,b,jG,z1,lp,s,kg,rfl,A5,by lia,aB.of hb,nb,g⟩
  have fin:∀H',aj H9 H'->Q (.bl true) H':=λH' _=>q _;have lst:f≠8->f≠9->f≠10->f≠11->tY K [V.ref l1,V.int a_,V.int sk,V.ref b] H9 Q E0:=λg8 g9 vF vG=>no _ _ _ (λg=>by
   by_cases h:f<8
   ·exact zb.2.1 h g.1
   ·have ez:=zb.1 (by lia)
    subst ez;exact bb (by lia) g.2.2) fin
  refine aX (λg8=>?_) λg8=>aX (λg9=>?_) λg9=>?_
  ·refine no _ _ _ (λg=>by have:=g.2.1.l1;lia) λM4 vH=>⟨true,rfl,?_⟩
   rw[if_pos rfl];refine⟨by decide,by lia,by lia,.inr ⟨by lia,by lia⟩,?_⟩
   have JF:=vH _ _ hb;have lt:=Int.lt_ediv_add_one_mul_self 1000000000 (show 0<a_ by lia)
   exact⟨l1,b,jG,z1,_,_,kg,rfl,A5.same vH,by lia,aB.of JF,λg=>by have:=g.2.1.l2;lia,λH' s'=>fin _ (vH.trans s')⟩
  ·have ez:=zb.1 (by lia)
   subst ez;refine⟨_,aB.of JE,by lia,λM hM hm=>?_⟩
   refine aX (λg1=>?_) λg1=>?_
   ·obtain⟨y,hy,rfl⟩:=yz hM;refine no _ _ _ (λg=>?_) fin;have d1:=Int.dvd_of_emod_eq_zero (vA y hy);have d2:=Int.dvd_of_emod_eq_zero (g.2.1.d y hy);have d3:=(Int.dvd_add_right d1).mp d2;have:=Int.le_of_dvd (by decide) d3
    lia
   ·rw[if_pos g9];exact no _ _ _ (λg=>by have:=g.2.1.s1;lia) fin
  ·rw[if_neg g9];refine aX (λvF=>?_) λvF=>aX (λvG=>?_) λvG=>lst g8 g9 vF vG
   ·exact no _ _ _ (λg=>by have:=g.2.1.s1;lia) fin
   ·exact no _ _ _ (λg=>by have:=g.2.1.s2;lia) fin
end
theorem mH{C:List Value->Prop}(h:C []):∀us:List Value,us.length=0->C us:=λ| [],_=>h
theorem d7{n:Nat}{C:List Value->Prop}(h:∀a us,us.length=n->C (a::us)):∀us:List Value,us.length=n+1->C us:=λ| a::us,e=>h a us (Nat.succ.inj e)
theorem M5{K:W.Frag}{fd:FuncData}{ps:List Str}{ds:List Value}(n:Nat)(e:n+ds.length=ps.length)(h:∀s,K.In s.heap->∀us:List Value,us.length=n->BindsTo s fd ⟨us,[]⟩ (ps.zip (us++ds))):Binds K fd ps ds:=λs us X hl=>h s X us (by rw[List.length_append] at hl;lia)
theorem jI{C:List Value->Prop}(h:∀a0,C [a0]):∀us:List Value,us.length=1->C us:=d7 λa0=>mH (h a0)
theorem iV{C:List Value->Prop}(h:∀a0 a1,C [a0,a1]):∀us:List Value,us.length=2->C us:=d7 λa0=>d7 λa1=>mH (h a0 a1)
theorem vI{C:List Value->Prop}(h:∀a0 a1 a2,C [a0,a1,a2]):∀us:List Value,us.length=3->C us:=d7 λa0=>d7 λa1=>d7 λa2=>mH (h a0 a1 a2)
theorem JG{C:List Value->Prop}(h:∀a0 a1 a2 a3,C [a0,a1,a2,a3]):∀us:List Value,us.length=4->C us:=d7 λa0=>d7 λa1=>d7 λa2=>d7 λa3=>mH (h a0 a1 a2 a3)
theorem JH{C:List Value->Prop}(h:∀a0 a1 a2 a3 a4,C [a0,a1,a2,a3,a4]):∀us:List Value,us.length=5->C us:=d7 λa0=>d7 λa1=>d7 λa2=>d7 λa3=>d7 λa4=>mH (h a0 a1 a2 a3 a4)
theorem all_mk{l:W.OpenLaw}{w:World}{K:W.Frag}{h:Heap}{mg:Str->Option Value}{fa:Addr}{vJ vK vL vM vN vO vP qQ qR vQ vR vU vV vW vX vY vZ v5 v7 v9:Addr}{JI v_:Option Addr}{JJ:Array (Option Value)}{JK wc we wg qT wj:Value}{A6 tF tG A7 A8 A9 A_ Ba Bb Bc Bd Be Bf Bg Bh Bj Bk Bl Bm:FuncData}{bH:Addr}{fQ:Addr}{aI:Addr}{gM:Addr}{gO:Addr}{fh:Addr}{gP:Addr}{fj:Addr}{fq:Addr}{fu:Addr}{fz:Addr}{lY:Tok}{lZ:Tok}{l6:Tok}{l7:Tok}{l8:Tok}{l9:Tok}(X:K.In h)(G:h.Ns mainGlobals mg)(JL:mg "law" = some (.ref fa))
  (JM:W.nsIn K mainGlobals "ArmError" = some (some (.ref fQ)))
  (JN:W.nsIn K mainGlobals "NoPlate" = some (some (.ref aI)))
  (JO:W.nsIn K mainGlobals "NoCell" = some (some (.ref gM)))
  (JP:W.nsIn K mainGlobals "NoSpare" = some (some (.ref gO)))
  (JQ:W.nsIn K mainGlobals "NoAsk" = some (some (.ref fh)))
  (JR:W.nsIn K mainGlobals "NoOrder" = some (some (.ref gP)))
  (JS:W.nsIn K mainGlobals "NoRule" = some (some (.ref fj)))
  (JT:W.nsIn K mainGlobals "TooMany" = some (some (.ref fq)))
  (JU:W.nsIn K mainGlobals "NoLine" = some (some (.ref fu)))
  (JV:W.nsIn K mainGlobals "NoBook" = some (some (.ref fz)))
  (JW:W.nsIn K mainGlobals "Plate" = some (some (.ref bH)))
  (JX:W.nsIn K mainGlobals "check_zones" = some (some (.ref vJ)))
  (F0:bq K "check_zones" "check_zones" ue vJ A6)
  (JY:W.nsIn K mainGlobals "check_turning" = some (some (.ref vK)))
  (F1:bq K "check_turning" "check_turning" uf vK tF)
  (JZ:W.nsIn K mainGlobals "check_swing" = some (some (.ref vL)))
  (F2:bq K "check_swing" "check_swing" ug vL tG)
  (J0:W.nsIn K mainGlobals "check_no_detour" = some (some (.ref vM)))
  (F3:bq K "check_no_detour" "check_no_detour" uh vM A7)
  (J1:W.nsIn K mainGlobals "cells_by_ring" = some (some (.ref vN)))
  (F4:bq K "cells_by_ring" "cells_by_ring" um vN A8)
  (J2:W.nsIn K mainGlobals "cells_by_number" = some (some (.ref vO)))
  (F5:bq K "cells_by_number" "cells_by_number" uo vO A9)
  (J5:W.nsIn K mainGlobals "numbers_by_cell" = some (some (.ref vP)))
  (F6:bq K "numbers_by_cell" "numbers_by_cell" uq vP A_)
  (J6:W.findIn K (.ref bH) "__init__" = some (some (.ref qQ)))
  (J7:W.isFn K (.ref qQ)=true)
  (F7:bq K "__init__" "Plate.__init__" ur qQ Ba)
  (J8:W.findIn K (.ref bH) "rings" = some (some (.ref qR)))
  (J9:W.isFn K (.ref qR)=true)
  (F8:bq K "rings" "Plate.rings" uu qR Bb)
  (J_:W.nsIn K mainGlobals "_law_at" = some (some (.ref vQ)))
  (F9:bq K "_law_at" "_law_at" uv vQ Bc)
  (Ka:W.nsIn K mainGlobals "_law_same" = some (some (.ref vR)))
  (Bo:bq K "_law_same" "_law_same" uw vR Bd)
  (Kc:W.nsIn K mainGlobals "_law_mix" = some (some (.ref vU)))
  (Bp:bq K "_law_mix" "_law_mix" ux vU Be)
  (Ke:W.nsIn K mainGlobals "_law_zones" = some (some (.ref vV)))
  (Bq:bq K "_law_zones" "_law_zones" uy vV Bf)
  (Kf:W.nsIn K mainGlobals "_law_counts" = some (some (.ref vW)))
  (Br:bq K "_law_counts" "_law_counts" uz vW Bg)
  (Kg:W.nsIn K mainGlobals "_law_lap" = some (some (.ref vX)))
  (Bs:bq K "_law_lap" "_law_lap" uA vX Bh)
  (Kh:W.nsIn K mainGlobals "_law_swing" = some (some (.ref vY)))
  (Bt:bq K "_law_swing" "_law_swing" uB vY Bj)
  (Kl:W.nsIn K mainGlobals "_law_zones_bad" = some (some (.ref vZ)))
  (Bu:bq K "_law_zones_bad" "_law_zones_bad" uC vZ Bk)
  (Km:W.nsIn K mainGlobals "_law_swing_bad" = some (some (.ref v5)))
  (Bv:bq K "_law_swing_bad" "_law_swing_bad" uD v5 Bl)
  (Kn:W.nsIn K mainGlobals "_law_refused" = some (some (.ref v7)))
  (Bw:bq K "_law_refused" "_law_refused" uE v7 Bm)
  (Bx:W.nsIn K mainGlobals "law" = some (some (.ref v9)))
  (Ko:K.lookup v9=some ⟨JK,JI,.func (W.fnOf "law" "law" (iH fO) (gC fO) (bI fO) .none wc we wg v_ qT wj),JJ⟩)
  (Kp:W.codeIn K qT "law" = true)
  (Kq:W.keepIn K (.ref v9)=true)
  (Kr:W.plainGet K bH Str.empty=true)
  (Ks:W.hasDictIn K bH=true)
  (Ku:W.plainOver K bH=true)
  (Kv:W.findIn K (.ref bH) "__setattr__" = some (some (.builtin "object.__setattr__")))
  (Kw:W.makesIn K bH=true)
  (Ky:W.keepIn K (.ref bH)=true)
  (qi:W.findIn K (.ref bH) "ring_cells" = some none)
  (qj:W.findIn K (.ref bH) "lap" = some none)
  (qk:W.findIn K (.ref bH) "skew" = some none)
  (ql:W.findIn K (.ref bH) "swing" = some none)
  (qm:W.findIn K (.ref bH) "number_cells" = some none)
  (qo:W.findIn K (.ref bH) "cell_numbers" = some none)
  (Kz:W.nsIn K mainGlobals "MOST_ZONES" = some (some (.int 5 lY)))
  (KA:W.nsIn K mainGlobals "MOST_RINGS_IN_ZONE" = some (some (.int 40 lZ)))
  (KC:W.nsIn K mainGlobals "MOST_CELLS_IN_RING" = some (some (.int 60 l6)))
  (KG:W.nsIn K mainGlobals "LEAST_RINGS" = some (some (.int 2 l7)))
  (KH:W.nsIn K mainGlobals "MOST_RINGS" = some (some (.int 120 l8)))
  (KI:W.nsIn K mainGlobals "MOST_BEATS" = some (some (.int 1000000000 l9)))
  (l_:W.nsIn K mainGlobals "bool" = some none)
  (mh:W.nsIn K mainGlobals "enumerate" = some none)
  (mj:W.nsIn K mainGlobals "int" = some none)
  (cD:W.nsIn K mainGlobals "isinstance" = some none)
  (cE:W.nsIn K mainGlobals "len" = some none)
  (iw:W.nsIn K mainGlobals "list" = some none)
  (mq:W.nsIn K mainGlobals "max" = some none)
  (fR:W.nsIn K mainGlobals "range" = some none)
  (qp:W.nsIn K mainGlobals "sorted" = some none)
  (mw:W.nsIn K mainGlobals "str" = some none)
  (qq:W.nsIn K mainGlobals "sum" = some none)
  (j9:W.nsIn K mainGlobals "tuple" = some none)
  (qw:W.excIn K fQ [.type "ValueError",.type "Exception",.type "BaseException",.type "object"] "ValueError.__new__" = true)
  (dJ:W.excIn K aI [.type "ValueError",.type "Exception",.type "BaseException",.type "object"] "ValueError.__new__" = true)
  (KJ:W.findIn K (.ref aI) "__getattribute__" = some (some (.builtin "BaseException.__getattribute__")))
  (KL:W.findIn K (.ref aI) "__getattr__" = some none)
  (KN:W.mroIn K aI (.type "BaseException")=some true)
  (By:W.mroIn K aI (.type "object")=some true)
  (KO:W.findIn K (.ref aI) "__class__" = some (some (.builtin "object.__class__")))
  (qG:W.kitOne K (.ref aI) (.type "ValueError")=some true)
  (u7:W.kitOne K (.ref aI) (.ref fQ)=some true)
  (KP:W.mroIn K aI (.ref fQ)=some true)
  (qx:W.kitOne K (.ref aI) (.ref aI)=some true)
  (KQ:W.mroIn K aI (.ref aI)=some true)
  (qy:W.kitOne K (.ref aI) (.ref gM)=some false)
  (KR:W.mroIn K aI (.ref gM)=some false)
  (qz:W.kitOne K (.ref aI) (.ref gO)=some false)
  (KS:W.mroIn K aI (.ref gO)=some false)
  (qA:W.kitOne K (.ref aI) (.ref fh)=some false)
  (KU:W.mroIn K aI (.ref fh)=some false)
  (qB:W.kitOne K (.ref aI) (.ref gP)=some false)
  (KW:W.mroIn K aI (.ref gP)=some false)
  (qC:W.kitOne K (.ref aI) (.ref fj)=some false)
  (KY:W.mroIn K aI (.ref fj)=some false)
  (qD:W.kitOne K (.ref aI) (.ref fq)=some false)
  (KZ:W.mroIn K aI (.ref fq)=some false)
  (qE:W.kitOne K (.ref aI) (.ref fu)=some false)
  (K0:W.mroIn K aI (.ref fu)=some false)
  (qF:W.kitOne K (.ref aI) (.ref fz)=some false)
  (K1:W.mroIn K aI (.ref fz)=some false)
  (qH:W.excIn K fh [.type "ValueError",.type "Exception",.type "BaseException",.type "object"] "ValueError.__new__" = true)
  (qI:W.excIn K fj [.type "ValueError",.type "Exception",.type "BaseException",.type "object"] "ValueError.__new__" = true)
  (qJ:W.excIn K fq [.type "ValueError",.type "Exception",.type "BaseException",.type "object"] "ValueError.__new__" = true)
  (qK:W.excIn K fu [.type "ValueError",.type "Exception",.type "BaseException",.type "object"] "ValueError.__new__" = true)
  (qL:W.excIn K fz [.type "ValueError",.type "Exception",.type "BaseException",.type "object"] "ValueError.__new__" = true)
  (K2:W.specialIn K (.builtin "object.__class__") "__get__" = some (some (.builtin "getset_descriptor.__get__")))
  (K3:W.takesIn K (.builtin "object.__class__")=some true)
  (qu:W.nsIn K mainGlobals "ValueError" = some none)
  : ∃fd:FuncData,(∀(s:Shared) (v:Value),BindsTo s fd ⟨[v],[]⟩ [("_law_script",v)])/\∀base:Heap,K.In base->base.Ns mainGlobals mg->bC l.prog w K mg base cJ 9 fa fd ["_law_script"] (nY K):=by
 have e:=JL.symm.trans (W.mg_of X G Bx);cases e;have BA:=fun_mk (st:=fO) Ko Kp Kq;have b0:=F0.binds (ps:=["zones"]) λ_ _ _ _ _ _=>jI (λ_=>rfl)
 have b1:=F1.binds (ps:=["zones", "lap", "skew"]) λ_ _ _ _ _ _=>vI (λ_ _ _=>rfl);have b2:=F2.binds (ps:=["swing", "rings"]) λ_ _ _ _ _ _=>iV (λ_ _=>rfl);have b3:=F3.binds (ps:=["swing"]) λ_ _ _ _ _ _=>jI (λ_=>rfl)
 have b4:=F4.binds (ps:=["zones"]) λ_ _ _ _ _ _=>jI (λ_=>rfl)
 have b5:=F5.binds (ps:=["ring_cells", "spares"]) λ_ _ _ _ _ _=>iV (λ_ _=>rfl);have b6:=F6.binds (ps:=["number_cells"]) λ_ _ _ _ _ _=>jI (λ_=>rfl)
 have b7:=F7.binds (ps:=["self", "zones", "lap", "skew", "swing"]) λ_ _ _ _ _ _=>JH (λ_ _ _ _ _=>rfl);have b8:=F8.binds (ps:=["self"]) λ_ _ _ _ _ _=>jI (λ_=>rfl)
 have b9:=F9.binds (ps:=["_law_script", "_law_k"]) λ_ _ _ _ _ _=>iV (λ_ _=>rfl);have K4:=Bo.binds (ps:=["_law_found", "_law_due"]) λ_ _ _ _ _ _=>iV (λ_ _=>rfl);have K5:=Bp.binds (ps:=["_law_cell", "_law_k"]) λ_ _ _ _ _ _=>iV (λ_ _=>rfl);have K6:=Bq.binds (ps:=["_law_a", "_law_b"]) λ_ _ _ _ _ _=>iV (λ_ _=>rfl);have K7:=Br.binds (ps:=["_law_zones_here"]) λ_ _ _ _ _ _=>jI (λ_=>rfl)
 have K8:=Bs.binds (ps:=["_law_zones_here", "_law_cell"]) λ_ _ _ _ _ _=>iV (λ_ _=>rfl);have K9:=Bt.binds (ps:=["_law_many", "_law_cell"]) λ_ _ _ _ _ _=>iV (λ_ _=>rfl);have K_:=Bu.binds (ps:=["_law_zones_here", "_law_fault", "_law_at_here"]) λ_ _ _ _ _ _=>vI (λ_ _ _=>rfl);have La:=Bv.binds (ps:=["_law_swing_here", "_law_fault", "_law_at_here"]) λ_ _ _ _ _ _=>vI (λ_ _ _=>rfl);have Lb:=Bw.binds (ps:=["_law_zones_here", "_law_lap_here", "_law_skew", "_law_swing_here"]) λ_ _ _ _ _ _=>JG (λ_ _ _ _=>rfl);have Lc:=BA.binds (ps:=["_law_script"]) λ_ _ _ _ _ _=>jI (λ_=>rfl)
 let A:lU:={ oU:=vJ,oV:=A6,oW:=vK,oX:=tF,oY:=vL,oZ:=tG,o7:=vM,o8:=A7,o9:=vN,o_:=A8,pe:=vO,pq:=A9,pC:=vP,pD:=A_,pG:=qQ,pH:=Ba,lV:=qR,pI:=Bb,pJ:=vQ,pK:=Bc,lW:=vR,lX:=Bd,pL:=vU,pM:=Be,pN:=vV,pO:=Bf,pP:=vW,pQ:=Bg,pR:=vX,pS:=Bh,pT:=vY,pU:=Bj,pW:=vZ,pX:=Bk,pY:=v5,pZ:=Bl,p_:=v7,qa:=Bm,qb:=fa,qc:=(W.fnOf "law" "law" (iH fO) (gC fO) (bI fO) .none wc we wg v_ qT wj),bH:=bH,fQ:=fQ,aI:=aI,gM:=gM,gO:=gO,fh:=fh,gP:=gP,fj:=fj,fq:=fq,fu:=fu,fz:=fz,lY:=lY,lZ:=lZ,l6:=l6,l7:=l7,l8:=l8,l9:=l9 }
 have T:Tx K mg A:={ uH:=F0,zN:=b0,zO:=W.mg_of X G JX,uI:=F1,zP:=b1,zQ:=W.mg_of X G JY,uJ:=F2,zR:=b2,zS:=W.mg_of X G JZ,uK:=F3,zT:=b3,zU:=W.mg_of X G J0,uL:=F4,zW:=b4,zX:=W.mg_of X G J1,uM:=F5,zY:=b5,zZ:=W.mg_of X G J2,uN:=F6,z0:=b6,z3:=W.mg_of X G J5,z6:=F7,uO:=b7,z7:=F8,z8:=b8,uP:=⟨J8,J9,F8.kp⟩,iu:=F9,iR:=b9,iS:=W.mg_of X G J_,qd:=Bo,uQ:=K4,uR:=W.mg_of X G Ka,cu:=Bp,cz:=K5,cA:=W.mg_of X G Kc,uS:=Bq,z9:=K6,z_:=W.mg_of X G Ke,qg:=Br,uT:=K7,uU:=W.mg_of X G Kf,uW:=Bs,Aa:=K8,Ab:=W.mg_of X G Kg,uX:=Bt,Ac:=K9,Ad:=W.mg_of X G Kh,uY:=Bu,Ae:=K_,Af:=W.mg_of X G Kl,uZ:=Bv,Ag:=La,Ah:=W.mg_of X G Km,iT:=Bw,jE:=Lb,jF:=W.mg_of X G Kn,Ai:=BA,HU:=Lc,HV:=W.mg_of X G Bx,qh:=⟨Kr,Ks,Ku,Kv⟩,u0:=⟨Kw,J6,J7,Ky⟩,u5:=W.mg_of X G JW,qi:=qi,qj:=qj,qk:=qk,ql:=ql,qm:=qm,qo:=qo,Aj:=W.mg_of X G Kz,Al:=W.mg_of X G KA,Am:=W.mg_of X G KC,An:=W.mg_of X G KG,Ao:=W.mg_of X G KH,u6:=W.mg_of X G KI,l_:=W.mg_none_of X G l_,mh:=W.mg_none_of X G mh,mj:=W.mg_none_of X G mj,cD:=W.mg_none_of X G cD,cE:=W.mg_none_of X G cE,iw:=W.mg_none_of X G iw,mq:=W.mg_none_of X G mq,fR:=W.mg_none_of X G fR,qp:=W.mg_none_of X G qp,mw:=W.mg_none_of X G mw,qq:=W.mg_none_of X G qq,j9:=W.mg_none_of X G j9,Aq:=W.mg_of X G JM,qw:=qw,As:=cK.of qw (by decide),eL:=W.mg_of X G JN,dJ:=dJ,Au:=cK.of dJ (by decide),gh:=⟨KJ,KL,KN,By,KO,K2,K3⟩,gi:=Fz By,qG:=qG,u7:=u7,Av:=gI KP,qx:=qx,HW:=gI KQ,qy:=qy,HX:=gI KR,qz:=qz,HY:=gI KS,qA:=qA,HZ:=gI KU,qB:=qB,H_:=gI KW,qC:=qC,Ia:=gI KY,qD:=qD,Ib:=gI KZ,qE:=qE,Ic:=gI K0,qF:=qF,Ie:=gI K1,Aw:=W.mg_of X G JO,Ax:=W.mg_of X G JP,Ay:=W.mg_of X G JQ,qH:=qH,Ig:=cK.of qH (by decide),Az:=W.mg_of X G JR,AA:=W.mg_of X G JS,qI:=qI,Ih:=cK.of qI (by decide),AB:=W.mg_of X G JT,qJ:=qJ,Ii:=cK.of qJ (by decide),AD:=W.mg_of X G JU,qK:=qK,Ij:=cK.of qK (by decide),AE:=W.mg_of X G JV,qL:=qL,Ik:=cK.of qL (by decide),qu:=W.mg_none_of X G qu }
 exact⟨(W.fnOf "law" "law" (iH fO) (gC fO) (bI fO) .none wc we wg v_ qT wj),λs v=>.of_eq rfl,λbase _ _=>Jj T⟩
theorem walk{l:W.OpenLaw}{q:Program}{loose:List Str}{XP:(Str->Option Value)->Heap->Prop}{YP:World->Heap->Prop}{d:DefRec}{K:Params->W.Frag}(hn:l.most=some 63)(kW:d.params.defaults = [])
  (hY:∀(w:World) (h:Heap),YP w h->(K w.params).In h)
  (F:∀(w:World) (mg:Str->Option Value) (fa:Addr) (h:Heap),(K w.params).In h->h.Ns mainGlobals mg->mg d.name=some (.ref fa)->
   ∃fd:FuncData,(∀(s:Shared) (u:Value),BindsTo s fd ⟨[u],[]⟩ [("_law_script",u)])/\∀base:Heap,(K w.params).In base->base.Ns mainGlobals mg->bC l.prog w (K w.params) mg base cJ 9 fa fd ["_law_script"] (nY (K w.params))) :
  W.WalkO q loose XP YP l.row.toRowW d [] (λf vs=>PySem.call f vs) :=
 _L.D0 (n:=63) (k:=9) (x := "_law_script") (CX:=λ_=>cJ) (sp:=λw=>nY (K w.params)) hn (by decide) kW ⟨rfl,by decide,by decide⟩ hY F (λ_ _ a ns hl _ hS=>⟨a,ns,rfl,hS,hl,λ_=>rfl⟩) λ_ _ _ _ _ z=>z
end _W
/-! M6 names are taken,so M7 no fast copy is laid of Ld largest tables: Ld compiled file stays small -/
structure PySem.W.Fast:Prop where(tw8147131420995031287 tw1187721174236439458 tw3244049966728252696 tw10894049534647409031 tw6398314929659016851 tw112579361248610878 tw8658251200000695445 tw2508719123894213636 tw16529344539123844608 tw5036528267840743084 tw9412972871631079286 tw1786329722666755074 tw640098802038555075 tw4767699186850105687 tw343180424633644855 tw11319590130045730160 tw16801993396063024777 tw15963757772662479386 tw2727873222826991721 tw16421959084327989300 tw565000132871009399 tw6238849998015036177 tw15012942035695712273 tw10959047013900003031 tw12563411830106303782 tw8847996259181694199 tw14425770120442400075 tw14220512404077699600 tw5967410235350295450 tw625907762002725490 tw8327105394473232959 tw11408181576116775685 tw5454046825977745042 tw11881503089840696238 tw8563081680752639111 tw13529604389997951510 tw11771028399732318185 tw6769396779311135418 tw6385607737811116188 tw5509374066505334575 tw5476565355244151991 tw14842194442331077911 tw6695110567011855658 tw3084863777552025659 tw2387648617111086628 tw560790699240818764 tw15562827717729429097 tw6275413542807568268 tw18100915197280723290 tw12323083493144892123 tw11316270326865556434 tw10103183046085818771 tw14864875681747042551 tw16267091627285025726 tw11584313200199440414 tw3792859776435676570 tw5230314248601476165 tw6413256572660550645 tw9454023195652130581 tw13447400083869452982 tw4905728790758395071 tw2270096482301294135 tw4109076555539734310 tw7806326995096851715 tw4161443896272610251 tw11454823948291681861 tw4392275514936560419 tw15693851179343623273 tw13106629071418258356 tw1021768165350382064 tw5808128089275944449 tw4187705037635918293 tw15764184816897379610 tw6147500402406315473 tw10035592184353792584 tw7377887323677931020 tw15827727153818712778 tw1545024658901223780 tw13426755711577287070 tw11949626319188175701 tw5405946981187458439 tw10869826283136841641 tw8696770372258294286 tw9814193866987539148 tw17103458730728735719 tw2893453779026470607 tw10552412757359664527 tw3120310165964104982 tw17426347880470192617 tw10635239056690944326 tw18297358324356078907 tw5401409592308466497 tw17187539522420892358 tw5401363758573870486 tw13559629459957306278 tw16571467186392263970 tw7546893134378701856 tw17640041519863351185 tw17350929479026673571 tw18210696600690365946 tw3016788394641488214 tw9080862724250034214 tw9985695501922920235 tw8256716698203438402 tw17648992839694818054 tw13546804467054565537 tw12324340277875272293 tw399352651815992350 tw3429749956451283430 tw3748314283701204462 tw17536098167504531755 tw13169510153768141383 tw7857298211044455149 tw12515000153708459625 tw4435455869600669570 tw15333897354903542807 tw4026833571730091114 tw12168908783723176746 tw12017136194793328861 tw9048629922840219901 tw16856077721993226720 tw13636608329023056385 tw12302746405517760620 tw9889884362149768278 tw10473599107635590271 tw865380023865181323 tw13151915892535311661 tw16727461537637860066 tw1533947203035421367 tw3303494474184301678 tw5134774740554500366 tw12898702283356748731 tw485578402661871172 tw6828554101055399278 tw7186528357279348638 tw221929607226228043 tw9160967828863093843 tw13660225507409859462 tw12298947214114665023 tw8248901675115162198 tw98375343223396777 tw8990659668567529191 tw7270989689531823420 tw12269063647093071461 tw6291703469210520504 tw4183599314485012692 tw647634744078003822 tw6020904053885802152 tw7771027947785918783 tw2374876424988224759 tw2200523122704729856 tw8060425741915503959 tw7177689480416292535 tw6052270251913388728 tw2727303063065456107 tw13887661793574417168 tw8604995833529600158 tw15625184571080985885 tw7441818132597646112 tw1569197547553239733 tw18031520424804335678 tw3682078705433095678 tw5714753605330677238 tw6817171116551111596 tw7131726295984796964 tw11788919728990413036 tw14062864537214126153 tw14626577867347684057 tw4933367864918376842 tw12403723861870199159 tw17554383599383411199 tw5094863743068915216 tw17183397690845883816 tw15085507583134941898 tw314167000168234461 tw14664904171328315336 tw583890908085189084 tw14900417135997918294 tw17443916236293940400 tw13356112051480669813 tw15626085800666095592 tw6484726294732879000 tw8773882987749143663 tw8715586894724794578 tw14554085751682723296 tw1417992104803155537 tw3582034824804330512 tw4833895357079319684 tw4232171418631134476 tw6585856815871653405 tw12486509016428280885 tw1296873093311903716 tw3719999800199415567 tw5733287377324705403 tw11868149282039116360 tw14122372231102340919 tw10875343939185620710 tw13107848956842679216 tw138744641048000949 tw9175778263928101709 tw17912182826449857889 tw3063645110681073717 tw4859455777647581498 tw4413738665801597969 tw16445028919758284083 tw15240035908939977429 tw16766586584169016151 tw4363702080038708370 tw17825479475392245766 tw14402200288505468040 tw13116998525206991356 tw18271530434307670902 tw3527344018451463986 tw8446302659830804788 tw12592735960731365073 tw4672758846402708594 tw18018969144518847290 tw3375719924663818572 tw11404605107653592972 tw4794722332449068817 tw7172869725866318065 tw1734423731426571244 tw10376367445843187470 tw14403089344051863535 tw9272638607744303541 tw2636226516920307091 tw2303226095025688383 tw7735619198330089026 tw12705316355920756689 tw1451666274479704231 tw748699102223701330 tw11770171069439903978 tw17781399573427277039 tw2640197448683723929 tw17775875869445302743 tw1558686844800163644 tw9861012328805326903 tw6447823792237249633 tw13511556614292336672 tw3877303753570823076 tw17190024633737456034 tw178483468229844109 tw16152141056676530374 tw8968309802287583410 tw16052502902332143697 tw10276290987007533528 tw11612407607058737782 tw9550933778277732558 tw8705706628580409842 tw1835694852654612427 tw7576283330540213689 tw7368126255103234839 tw16126361723087433451 tw6172260450066094884 tw5051577978281616721 tw10054137326748810180 tw4510778609466590670 tw3988273939981103094 tw11478427970873783887 tw1753070017262554560 tw2983733490620184618 tw2960198290130878295 tw9808448113234409465 tw8588206064506861207 tw7222981647617019518 tw6659462718205034399 tw615255996260955762 tw5851401670580027451 tw6958366175512793725 tw4337846912978583315 tw2945071246415114786 tw5698417504177887559 tw13466831550774838814 tw17908308777720253941 tw13575499725665776587 tw9591265580492230420 tw8783182116710295809 tw7526232721574256940 tw7412023149786799204 tw1490734935086156172 tw4161748559391472194 tw11961182029951225530 tw13881697658495393848 tw2258389521243183887 tw12198354583550031225 tw11534614372054072682 tw9712317654421459425 tw12878014783749169297 tw9211335137731662136 tw5723534152249990175 tw5738470397573755711 tw10420640399688317027 tw5931631705511713917 tw17667661546234902295 tw2121417886022431953 tw17673068983515499620 tw16532135894063594048 tw10643980254411817768 tw17873557599589100936 tw13891027464154505796 tw9474710691758221449 tw3926747625457535605 tw4927367924665541654 tw17984724346428335324 tw9578915472507208526 tw1824476711915616459 tw17216819051799024295 tw176737718285018091 tw12879431721293829469 tw1611666245235407819 tw6421187219337130451 tw13672170032919164033 tw9078410503921457033 tw16933169602950121105 tw11821170090738179404 tw5145643761056722914 tw10272171710829011814 tw10282671375943915257 tw11833666184033584404 tw14416280714330811242 tw17596992926128892590 tw13209748460082107191 tw13477876171302494233 tw17727756848458841346 tw14123959983714553471 tw15088925149917362018 tw13566042236980757402 tw3555732067589367423 tw15307851180130399792 tw1322091449906213971:True)
open PySem PySem.W PyProof.Rows
set_option maxHeartbeats 0 in
theorem PySem.Challenge.cw_armswing_k04_plates_refused_holds : PySem.Challenge.rw_armswing_k04_plates_refused.Holds := by
 w_on; o_law; k_head; (case hw => w_witness2)
 k_fill
 refine _W.walk (l := PySem.Challenge.rw_armswing_k04_plates_refused) rfl rfl (λw h Y => PySem.W.kIn_of Y) ?F
 case F =>
  intro w mg fa h KX G hmg
  refine' _W.all_mk KX G hmg ?_ ?_ ?_ ?_ ?_ ?_ ?_ ?_ ?_ ?_ ?_ ?_ ?_ ?_ ?_ ?_ ?_ ?_ ?_ ?_ ?_ ?_ ?_ ?_ ?_ ?_ ?_ ?_ ?_ ?_ ?_ ?_ ?_ ?_ ?_ ?_ ?_ ?_ ?_ ?_ ?_ ?_ ?_ ?_ ?_ ?_ ?_ ?_ ?_ ?_ ?_ ?_ ?_ ?_ ?_ ?_ ?_ ?_ ?_ ?_ ?_ ?_ ?_ ?_ ?_ ?_ ?_ ?_ ?_ ?_ ?_ ?_ ?_ ?_ ?_ ?_ ?_ ?_ ?_ ?_ ?_ ?_ ?_ ?_ ?_ ?_ ?_ ?_ ?_ ?_ ?_ ?_ ?_ ?_ ?_ ?_ ?_ ?_ ?_ ?_ ?_ ?_ ?_ ?_ ?_ ?_ ?_ ?_ ?_ ?_ ?_ ?_ ?_ ?_ ?_ ?_ ?_ ?_ ?_ ?_ ?_
  all_goals (first | k_is | kit_is | k_exc | exact _L.fun_mk (by k_is) (by k_is) (by k_is) | rfl | decide +kernel | kernel_rfl | skip)
